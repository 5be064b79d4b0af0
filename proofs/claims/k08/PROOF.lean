import PyProof.Rows.All
import Wide.All
import OpenK.AllK
import Wide.FinOn
import HandS.ForMost
import HandS.Codes
import HandS.IsInst
import HandS.Exc
import HandS.ExcIs
import HandS.Gcd
import HandS.TryMany
import HandS.WordsExc
import KE.KIntText
import PyProof.TupleOfStr
import PyProof.StrBlock2
import HandS.Wide
import HandS.WideBits
import HandS.ExcInit
import HandS.ExcField
import HandS.ExcValue
import KE.KExcIs
import PySem.Challenge.RW_everyfoe_k08_texts_of_polynomials
import HandS.Style
import HandS.HeadHook1
import HandS.Defaults
import HandS.TupMul
import HandS.TupAny
import HandS.HeadEnd
set_option Elab.async false
set_option maxRecDepth 100000
/-! The pen: a dict that every law draws from. -/
namespace Fk
open PySem L2
def top (i : Nat) : Stmt := PySem.Challenge.pw_everyfoe_k08_texts_of_polynomials.main.body.getD i (.Pass ⟨0, 0, 0, 0⟩)
abbrev sPen : Stmt := top 53
abbrev sDraw : Stmt := top 54
abbrev sPick : Stmt := top 55
/-! ### the dict of a pen -/
theorem n_ca : ¬ (("cells" : Str) = "at") := by decide +kernel
theorem n_cd : ¬ (("cells" : Str) = "digits") := by decide +kernel
theorem n_cc : ¬ (("cells" : Str) = "count") := by decide +kernel
theorem n_cf : ¬ (("cells" : Str) = "fold") := by decide +kernel
theorem n_ac : ¬ (("at" : Str) = "cells") := by decide +kernel
theorem n_ad : ¬ (("at" : Str) = "digits") := by decide +kernel
theorem n_an : ¬ (("at" : Str) = "count") := by decide +kernel
theorem n_af : ¬ (("at" : Str) = "fold") := by decide +kernel
theorem n_dc : ¬ (("digits" : Str) = "cells") := by decide +kernel
theorem n_da : ¬ (("digits" : Str) = "at") := by decide +kernel
theorem n_dn : ¬ (("digits" : Str) = "count") := by decide +kernel
theorem n_df : ¬ (("digits" : Str) = "fold") := by decide +kernel
theorem n_nc : ¬ (("count" : Str) = "cells") := by decide +kernel
theorem n_na : ¬ (("count" : Str) = "at") := by decide +kernel
theorem n_nd : ¬ (("count" : Str) = "digits") := by decide +kernel
theorem n_nf : ¬ (("count" : Str) = "fold") := by decide +kernel
theorem n_fc : ¬ (("fold" : Str) = "cells") := by decide +kernel
theorem n_fa : ¬ (("fold" : Str) = "at") := by decide +kernel
theorem n_fd : ¬ (("fold" : Str) = "digits") := by decide +kernel
theorem n_fn : ¬ (("fold" : Str) = "count") := by decide +kernel
def penK (l : Addr) (a d c f : Int) : List (Key × V) := [(Sum.inr "cells", .ref l), (Sum.inr "at", .int a), (Sum.inr "digits", .int d), (Sum.inr "count", .int c), (Sum.inr "fold", .int f)]
section
variable {l : Addr} {a d c f y : Int} {H : Hp} {p : Addr}
theorem put_at : putK (penK l a d c f) (Sum.inr "at") (.int y) = penK l y d c f := by
  simp only [putK, penK, List.any_cons, List.map_cons, List.map_nil, Sum.inr.injEq, n_ca, n_da, n_na, n_fa, decide_true, decide_false, Bool.true_or, Bool.or_true, if_true, if_false]
theorem put_digits : putK (penK l a d c f) (Sum.inr "digits") (.int y) = penK l a y c f := by
  simp only [putK, penK, List.any_cons, List.map_cons, List.map_nil, Sum.inr.injEq, n_cd, n_ad, n_nd, n_fd, decide_true, decide_false, Bool.true_or, Bool.or_true, if_true, if_false]
theorem put_count : putK (penK l a d c f) (Sum.inr "count") (.int y) = penK l a d y f := by
  simp only [putK, penK, List.any_cons, List.map_cons, List.map_nil, Sum.inr.injEq, n_cc, n_an, n_dn, n_fn, decide_true, decide_false, Bool.true_or, Bool.or_true, if_true, if_false]
theorem put_fold : putK (penK l a d c f) (Sum.inr "fold") (.int y) = penK l a d c y := by
  simp only [putK, penK, List.any_cons, List.map_cons, List.map_nil, Sum.inr.injEq, n_cf, n_af, n_df, n_nf, decide_true, decide_false, Bool.true_or, Bool.or_true, if_true, if_false]
theorem put_new {kvs : List (Key × V)} {x : Str} {v : V} (h : ∀ kv ∈ kvs, ¬ kv.1 = Sum.inr x) : putK kvs (Sum.inr x) v = kvs ++ [(Sum.inr x, v)] := by
  unfold putK
  rw [if_neg]
  intro e
  rw [List.any_eq_true] at e
  obtain ⟨kv, hm, hd⟩ := e
  exact h kv hm (of_decide_eq_true hd)
theorem merge5 : mergeK [] (([(Sum.inr "cells", .ref l), (Sum.inr "at", .int a), (Sum.inr "digits", .int d), (Sum.inr "count", .int c), (Sum.inr "fold", .int f)] : List (Key × V))) = penK l a d c f := by
  show putK (putK (putK (putK (putK ([] : List (Key × V)) (Sum.inr "cells" : Key) (.ref l)) (Sum.inr "at" : Key) (.int a)) (Sum.inr "digits" : Key) (.int d)) (Sum.inr "count" : Key) (.int c)) (Sum.inr "fold" : Key) (.int f) = penK l a d c f
  simp only [putK, penK, List.any_nil, List.nil_append, List.any_cons, List.map_cons, List.map_nil, List.cons_append, Sum.inr.injEq, n_ca, n_cd, n_ad, n_cc, n_an, n_dn, n_cf, n_af, n_df, n_nf, decide_false, Bool.or_false, Bool.false_eq_true, if_false]
theorem val_cells : valV (penK l a d c f) (Sum.inr "cells") = some (.ref l) := valV_pos rfl
theorem val_at : valV (penK l a d c f) (Sum.inr "at") = some (.int a) := (valV_neg fun z => n_ca (Sum.inr.inj z)).trans (valV_pos rfl)
theorem val_digits : valV (penK l a d c f) (Sum.inr "digits") = some (.int d) := (valV_neg fun z => n_cd (Sum.inr.inj z)).trans ((valV_neg fun z => n_ad (Sum.inr.inj z)).trans (valV_pos rfl))
theorem val_count : valV (penK l a d c f) (Sum.inr "count") = some (.int c) := (valV_neg fun z => n_cc (Sum.inr.inj z)).trans ((valV_neg fun z => n_an (Sum.inr.inj z)).trans ((valV_neg fun z => n_dn (Sum.inr.inj z)).trans (valV_pos rfl)))
theorem val_fold : valV (penK l a d c f) (Sum.inr "fold") = some (.int f) := (valV_neg fun z => n_cf (Sum.inr.inj z)).trans ((valV_neg fun z => n_af (Sum.inr.inj z)).trans ((valV_neg fun z => n_df (Sum.inr.inj z)).trans ((valV_neg fun z => n_nf (Sum.inr.inj z)).trans (valV_pos rfl))))
theorem g_cells (h : H p = some (.dK (penK l a d c f))) : DGet H p (.str "cells") (some (.ref l)) := val_cells ▸ DGet.k (k := Sum.inr "cells") h
theorem g_at (h : H p = some (.dK (penK l a d c f))) : DGet H p (.str "at") (some (.int a)) := val_at ▸ DGet.k (k := Sum.inr "at") h
theorem g_digits (h : H p = some (.dK (penK l a d c f))) : DGet H p (.str "digits") (some (.int d)) := val_digits ▸ DGet.k (k := Sum.inr "digits") h
theorem g_count (h : H p = some (.dK (penK l a d c f))) : DGet H p (.str "count") (some (.int c)) := val_count ▸ DGet.k (k := Sum.inr "count") h
theorem g_fold (h : H p = some (.dK (penK l a d c f))) : DGet H p (.str "fold") (some (.int f)) := val_fold ▸ DGet.k (k := Sum.inr "fold") h
theorem len5 : (penK l a d c f).length < sizeLine := small1000 (by show 5 ≤ 1000; decide)
theorem p_at (h : H p = some (.dK (penK l a d c f))) : DPut H p (.str "at") (.int y) (upd H p (.dK (penK l y d c f))) := put_at ▸ DPut.k (k := Sum.inr "at") h len5
theorem p_digits (h : H p = some (.dK (penK l a d c f))) : DPut H p (.str "digits") (.int y) (upd H p (.dK (penK l a y c f))) := put_digits ▸ DPut.k (k := Sum.inr "digits") h len5
theorem p_count (h : H p = some (.dK (penK l a d c f))) : DPut H p (.str "count") (.int y) (upd H p (.dK (penK l a d y f))) := put_count ▸ DPut.k (k := Sum.inr "count") h len5
theorem p_fold (h : H p = some (.dK (penK l a d c f))) : DPut H p (.str "fold") (.int y) (upd H p (.dK (penK l a d c y))) := put_fold ▸ DPut.k (k := Sum.inr "fold") h len5
end
/-- a pen stands at p, c draws were made -/
structure PenAt (H : Hp) (p l : Addr) (c : Int) : Prop where
  ex : ∃ (a d f : Int) (ns : List Int), H p = some (.dK (penK l a d c f)) ∧ H l = some (.lst (ns.map V.int)) ∧ 0 ≤ a ∧ 0 ≤ d ∧ 0 ≤ f ∧ f < 2147483648 ∧ ns.length ≤ 63
  lo : 0 ≤ c
/-- all but what stands at p is as it was -/
def Keep (p : Addr) (H H' : Hp) : Prop := ∀ b o, b ≠ p → H b = some o → H' b = some o
theorem Keep.refl (p : Addr) (H : Hp) : Keep p H H := fun _ _ _ e => e
theorem Keep.trans {p : Addr} {H H1 H2 : Hp} (a : Keep p H H1) (b : Keep p H1 H2) : Keep p H H2 := fun c o n e => b c o n (a c o n e)
theorem Keep.upd {p : Addr} {H : Hp} {o : HO} : Keep p H (upd H p o) := fun b x n e => by
  rw [upd_ne n]
  exact e
theorem Keep.new {p q : Addr} {H : Hp} {o : HO} (h : H q = none) : Keep p H (L2.upd H q o) := fun b x n e => by
  rw [upd_ne (ne_of_none e h)]
  exact e
theorem same_new {H : Hp} {q : Addr} {o : HO} (h : H q = none) : Same H (upd H q o) := fun b x e => by
  rw [upd_ne (ne_of_none e h)]
  exact e
theorem Same.keep {p : Addr} {H H' : Hp} (a : Same H H') : Keep p H H' := fun b o _ e => a b o e
theorem Keep.there {p b : Addr} {H H' : Hp} {o u : HO} (k : Keep p H H') (hp : H p = some u) (h : H b = some o) (d : o ≠ u) : H' b = some o := k b o (fun e => d (by rw [e] at h; exact Option.some.inj (h.symm.trans hp))) h
/-- a pen at p stays where something else is written -/
theorem PenAt.upd {H : Hp} {p l q : Addr} {c : Int} {o : HO} (P : PenAt H p l c) (n : H q = none) : PenAt (L2.upd H q o) p l c := by
  obtain ⟨⟨a, d, f, ns, h1, h2, r⟩, lo⟩ := P
  exact ⟨⟨a, d, f, ns, same_new n _ _ h1, same_new n _ _ h2, r⟩, lo⟩
theorem at_ints {ns : List Int} {i : Nat} {z : Int} (h : ns[i]? = some z) : atI (ns.map V.int) (i : Int) = some (.int z) := atI_nat (by rw [List.getElem?_map, h] <;> rfl)
/-! ### the promises -/
def spPen (K : PySem.W.Frag) : Sp := fun vs H Q _ => ∃ (a : Addr) (ns : List Int), vs = [.ref a] ∧ SqL K H a (ns.map V.int) ∧ ns.length ≤ 63 ∧ ∀ p l H', Same H H' → H p = none → H l = none → PenAt H' p l 0 → Q (.ref p) H'
def spDraw : Sp := fun vs H Q _ => ∃ (p l : Addr) (c many : Int), vs = [.ref p, .int many] ∧ PenAt H p l c ∧ c < 1000000000 ∧ 0 < many ∧ many < 1073741824 ∧
  ∀ (r : Int) (H' : Hp), 0 ≤ r → r < many → PenAt H' p l (c + 1) → Keep p H H' → Q (.int r) H'
def spPick : Sp := fun vs H Q _ => ∃ (p l q : Addr) (c : Int) (xs : List V), vs = [.ref p, .ref q] ∧ PenAt H p l c ∧ c < 1000000000 ∧ H q = some (.lst xs) ∧ 0 < xs.length ∧ xs.length ≤ 1000 ∧
  ∀ (i : Nat) (x : V) (H' : Hp), xs[i]? = some x → PenAt H' p l (c + 1) → Keep p H H' → Q x H'
section
variable {P : Program} {w : World} {K : PySem.W.Frag} {mg : Str → Option Value} {base : Heap}
theorem scPen : FnScope ["_law_script", "_law_fold", "_law_cell"] ["_law_script"] (defScope sPen) := ⟨rfl, rfl, rfl, by decide +kernel, rfl, by decide +kernel, by decide +kernel⟩
theorem ok_pen {k : Nat} {f : Addr} {fd : FuncData} (F : Fun K "_law_pen" "_law_pen" sPen f fd) (mi : mg "int" = none) (ml : mg "list" = none) : FnOk P w K mg base CX0 (k + 1) f fd ["_law_script"] (spPen K) := by
  refine F.ok scPen (fun vs H Q E h => ?_) (fun cdv A outer s H vs Q E hr h => ?_)
  · obtain ⟨a, ns, rfl, _⟩ := h
    rfl
  · obtain ⟨a, ns, rfl, hS, hl, k⟩ := h
    refine ⟨_, pss_cons (ps_set (i := 1) scPen.nd rfl (Or.inl rfl) pe_int)
      (pss_cons (ps_for PassesOwn.never rfl (pi_list (pv 0)) (pg_name (i := 2) scPen.nd rfl (Or.inl rfl))
        (pss_one (ps_set (i := 1) scPen.nd rfl (Or.inl rfl) (pe_op op_mod (pe_callTy call_int1 (by rfl) mi (by decide +kernel) (pa_cons (pe_op op_add (pe_op op_mul (pv 1) pe_int) (pv 2)) pa_nil)) pe_int))))
      (pss_one (ps_ret (pe_disp (pps_cons pe_str (pe_callTy call_list_of (by rfl) ml (by decide +kernel) (pa_cons (pv 0) pa_nil)) (pps_cons pe_str pe_int (pps_cons pe_str pe_int (pps_cons pe_str pe_int (pps_cons pe_str (pv 1) pps_nil))))) (by rfl) (by rfl) (fun z => by cases z) (by decide))))), ?_⟩
    refine ⟨_, rfl, a, rfl, ⟨_, hS⟩, for_list (K := K) (a := a) (xs := ns.map V.int) (fun i σ H2 => ∃ (z : Int) (v : Option V), σ = [some (.ref a), some (.int z), v] ∧ H2 = H ∧ 0 ≤ z ∧ z < 1000000007)
      ⟨0, none, rfl, rfl, by decide, by decide⟩ (fun i σ H2 _ ⟨_, _, _, e, _⟩ => e ▸ hS) ?_ ?_⟩
    · rintro i y σ H2 hi ⟨z, v, rfl, rfl, z0, z1⟩
      obtain ⟨n, rfl⟩ : ∃ n, y = V.int n := by
        rw [List.getElem?_map] at hi
        cases e : ns[i]? with
        | none =>
          rw [e] at hi
          cases hi
        | some n =>
          rw [e] at hi
          exact ⟨n, (Option.some.inj hi).symm⟩
      refine ⟨_, rfl, _, _, rfl, rfl, Or.inr ⟨by decide, by decide⟩, _, rfl, _, _, rfl, rfl, Or.inl ⟨_, rfl, _, _, rfl, rfl, (by show (0 : Int) < 1000000007; decide), ?_⟩⟩
      exact ⟨_, _, rfl, rfl, Int.emod_nonneg _ (by decide), Int.emod_lt_of_pos _ (by decide)⟩
    · rintro σ H2 ⟨z, v, rfl, rfl, z0, z1⟩
      intro p hp
      refine ⟨_, rfl, a, _, rfl, Or.inl ((same_new hp).seq hS), fun l hl' => ?_⟩
      have lp : p ≠ l := ne_of_none upd_same hl'
      refine ⟨_, rfl, ?_, [(Sum.inr "cells", .ref l), (Sum.inr "at", .int 0), (Sum.inr "digits", .int 0), (Sum.inr "count", .int 0), (Sum.inr "fold", .int z)], rfl, by show 5 ≤ 15; decide, ?_⟩
      · rw [upd_ne lp, upd_same]
      · have nl : H2 l = none := by
          rw [upd_ne lp.symm] at hl'
          exact hl'
        refine k p l _ (fun b o e => ?_) hp nl ⟨⟨0, 0, z, ns, ?_, ?_, by decide, by decide, z0, by omega, hl⟩, by decide⟩
        · rw [upd_ne (ne_of_none e hp), upd_ne (ne_of_none e nl), upd_ne (ne_of_none e hp)]
          exact e
        · rw [upd_same, merge5]
        · rw [upd_ne lp.symm, upd_same]
theorem scDraw : FnScope ["_law_pen_here", "_law_many", "_law_cell", "_law_digit", "_law_blend"] ["_law_pen_here", "_law_many"] (defScope sDraw) := ⟨rfl, rfl, rfl, by decide +kernel, rfl, by decide +kernel, by decide +kernel⟩
theorem ok_draw {k : Nat} {f : Addr} {fd : FuncData} (F : Fun K "_law_draw" "_law_draw" sDraw f fd) (mi : mg "int" = none) (ml : mg "len" = none) : FnOk P w K mg base CX0 (k + 1) f fd ["_law_pen_here", "_law_many"] spDraw := by
  refine F.ok scDraw (fun vs H Q E h => ?_) (fun cdv A outer s H vs Q E hr h => ?_)
  · obtain ⟨p, l, c, many, rfl, _⟩ := h
    rfl
  · obtain ⟨p, l, c, many, rfl, ⟨⟨a, d, fo, ns, hp, hl, a0, d0, f0, f1, hn⟩, c0⟩, c1, m0, m1, k⟩ := h
    have hu := hu_of hr
    refine ⟨_, pss_cons (ps_dput hu (pv 0) pe_str (pe_op op_add (pe_dget hu (pv 0) pe_str (fun _ _ => rfl)) pe_int) rfl)
      (C8.pss_cut (ps_if (PW.pt (pw_and (pt_cmpR op_eq (pe_dget hu (pv 0) pe_str (fun _ _ => rfl)) pe_int (nomark _)) (pw_and1 (pt_cmpR op_lt (pe_dget hu (pv 0) pe_str (fun _ _ => rfl)) (pe_callB call_len_seq (by rfl) ml PySem.boot_len (pa_cons (pe_dget hu (pv 0) pe_str (fun _ _ => rfl)) pa_nil)) (nomark _)))))
          (pss_cons (ps_set (i := 2) scDraw.nd rfl (Or.inl rfl) (pe_ix ix_list (pe_dget hu (pv 0) pe_str (fun _ _ => rfl)) (pe_dget hu (pv 0) pe_str (fun _ _ => rfl)) (fun _ _ => rfl)))
          (pss_cons (ps_dput hu (pv 0) pe_str (pe_op op_add (pe_dget hu (pv 0) pe_str (fun _ _ => rfl)) pe_int) rfl)
          (pss_one (ps_if (pt_cmpR op_ge (pv 2) (pe_op op_pow pe_int pe_int) (nomark _))
            (pss_one (ps_dput hu (pv 0) pe_str (pe_op op_sub (pv 2) (pe_op op_pow pe_int pe_int)) rfl))
            (pss_one (ps_dput hu (pv 0) pe_str (pe_op op_mod (pe_callTy call_int1 (by rfl) mi (by decide +kernel) (pa_cons (pe_op op_add (pe_op op_mul (pe_dget hu (pv 0) pe_str (fun _ _ => rfl)) pe_int) (pv 2)) pa_nil)) pe_int) rfl)))))) pss_nil)
      (pss_cons (ps_if (pt_cmpR op_gt (pe_dget hu (pv 0) pe_str (fun _ _ => rfl)) pe_int (nomark _))
          (pss_cons (ps_set (i := 3) scDraw.nd rfl (Or.inl rfl) (pe_op op_modN (pe_callTy call_int1 (by rfl) mi (by decide +kernel) (pa_cons (pe_dget hu (pv 0) pe_str (fun _ _ => rfl)) pa_nil)) (pv 1)))
          (pss_cons (ps_dput hu (pv 0) pe_str (pe_op op_fdivN (pe_dget hu (pv 0) pe_str (fun _ _ => rfl)) (pv 1)) rfl)
          (pss_one (ps_ret (pv 3))))) pss_nil)
      (pss_cons (ps_set (i := 4) scDraw.nd rfl (Or.inl rfl) (pe_op op_add (pe_op op_add (pe_dget hu (pv 0) pe_str (fun _ _ => rfl)) (pe_op op_mul (pe_dget hu (pv 0) pe_str (fun _ _ => rfl)) pe_int)) pe_int))
      (pss_one (ps_ret (pe_op op_modN (pe_op op_fdiv (pe_callTy call_int1 (by rfl) mi (by decide +kernel) (pa_cons (pe_op op_mod (pe_op op_pow (pv 4) pe_int) pe_int) pa_nil)) pe_int) (pv 1))))))), ?_⟩
    refine ⟨_, rfl, p, .int c, rfl, g_count hp, _, _, rfl, rfl, _, rfl, p, _, rfl, p_count hp, ?_⟩
    have lp : l ≠ p := ne_of hl hp (by intro z; cases z)
    refine ⟨fun σ' H' => ∃ (v2 : Option V) (a' d' f' : Int), σ' = [some (.ref p), some (.int many), v2, none, none] ∧ H' p = some (.dK (penK l a' d' (c + 1) f')) ∧ Keep p H H' ∧ 0 ≤ a' ∧ 0 ≤ d' ∧ 0 ≤ f' ∧ f' < 2147483648, ?_, ?_⟩
    · refine ⟨_, rfl, p, .int d, rfl, g_digits upd_same, rfl, _, rfl, ?_⟩
      refine ite2 (fun hd => ?_) (fun hd => ?_)
      · have hl1 : (upd H p (.dK (penK l a d (c + 1) fo))) l = some (.lst (ns.map V.int)) := by
          rw [upd_ne lp]
          exact hl
        refine ⟨_, rfl, p, .int a, rfl, g_at upd_same, _, rfl, p, .ref l, rfl, g_cells upd_same, l, _, rfl, Or.inl (SqL.of hl1), _, _, rfl, rfl, _, rfl, ?_⟩
        refine ite2 (fun ha => ?_) (fun ha => ?_)
        · have ha' : a < (ns.length : Int) := by
            have e := of_decide_eq_true ha
            rw [List.length_map] at e
            exact e
          obtain ⟨z, hz⟩ : ∃ z, ns[a.toNat]? = some z := ⟨ns[a.toNat]'(by omega), List.getElem?_eq_getElem _⟩
          refine ⟨_, rfl, p, .ref l, rfl, g_cells upd_same, _, rfl, p, .int a, rfl, g_at upd_same, l, _, a, .int z, rfl, rfl, SqL.of hl1, ?_, ?_⟩
          · have e := at_ints (ns := ns) hz
            rw [show ((a.toNat : Nat) : Int) = a by omega] at e
            exact e
          refine ⟨_, rfl, p, .int a, rfl, g_at upd_same, _, _, rfl, rfl, _, rfl, p, _, rfl, p_at upd_same, ?_⟩
          refine ⟨_, rfl, 10, 18, rfl, rfl, ⟨by decide, by decide, by decide⟩, _, _, rfl, rfl, _, rfl, ?_⟩
          have e18 : (10 : Int) ^ (18 : Int).toNat = 1000000000000000000 := by decide
          refine ite2 (fun hz => ?_) (fun hz => ?_)
          · have hz' := of_decide_eq_true hz
            rw [e18] at hz'
            refine ⟨_, rfl, 10, 18, rfl, rfl, ⟨by decide, by decide, by decide⟩, _, _, rfl, rfl, _, rfl, p, _, rfl, p_digits upd_same, _, _, _, _, rfl, upd_same, (Keep.upd.trans Keep.upd).trans Keep.upd, by omega, ?_, f0, f1⟩
            rw [e18]
            omega
          · refine ⟨_, rfl, p, .int fo, rfl, g_fold upd_same, _, _, rfl, rfl, Or.inr ⟨by decide, by decide⟩, _, rfl, _, _, rfl, rfl, Or.inl ⟨_, rfl, _, _, rfl, rfl, (by show (0 : Int) < 2147483587; decide), _, rfl, p, _, rfl, p_fold upd_same, ?_⟩⟩
            have e1 := Int.emod_nonneg (fo * 69069 + z) (show (2147483587 : Int) ≠ 0 by decide)
            have e2 := Int.emod_lt_of_pos (fo * 69069 + z) (show (0 : Int) < 2147483587 by decide)
            exact ⟨_, _, _, _, rfl, upd_same, (Keep.upd.trans Keep.upd).trans Keep.upd, by omega, d0, e1, by omega⟩
        · exact ⟨_, _, _, _, rfl, upd_same, Keep.upd, a0, d0, f0, f1⟩
      · exact ⟨_, _, _, _, rfl, upd_same, Keep.upd, a0, d0, f0, f1⟩
    · rintro σ' H2 ⟨v2, a', d', f', rfl, hp2, k2, a0', d0', f0', f1'⟩
      have hl2 : H2 l = some (.lst (ns.map V.int)) := k2 l _ lp hl
      refine ⟨_, rfl, p, .int d', rfl, g_digits hp2, _, _, rfl, rfl, _, rfl, ?_⟩
      refine ite2 (fun hd => ?_) (fun hd => ?_)
      · have hd' := of_decide_eq_true hd
        refine ⟨_, rfl, p, .int d', rfl, g_digits hp2, Or.inl ⟨_, rfl, _, rfl, _, _, rfl, rfl, by omega, ?_⟩⟩
        refine ⟨_, rfl, p, .int d', rfl, g_digits hp2, _, rfl, _, _, rfl, rfl, ⟨by omega, by omega⟩, _, rfl, p, _, rfl, p_digits hp2, _, rfl, ?_⟩
        have em : d'.fmod many = d' % many := Int.fmod_eq_emod_of_nonneg _ (by omega)
        have ed : d'.fdiv many = d' / many := Int.fdiv_eq_ediv_of_nonneg _ (by omega)
        refine k _ _ (by rw [em]; exact Int.emod_nonneg _ (by omega)) (by rw [em]; exact Int.emod_lt_of_pos _ m0) ⟨⟨a', _, f', ns, upd_same, by rw [upd_ne lp]; exact hl2, a0', by rw [ed]; exact Int.ediv_nonneg d0' (by omega), f0', f1', hn⟩, by omega⟩ (k2.trans Keep.upd)
      · refine ⟨_, rfl, p, .int f', rfl, g_fold hp2, _, rfl, p, .int (c + 1), rfl, g_count hp2, _, _, rfl, rfl, Or.inr ⟨by decide, by decide⟩, _, _, rfl, rfl, _, _, rfl, rfl, ?_⟩
        refine ⟨_, rfl, _, 17, rfl, rfl, ⟨by decide, by decide, by omega⟩, _, _, rfl, rfl, (by show (0 : Int) < 2305843009213693951; decide), Or.inl ⟨_, rfl, _, _, rfl, rfl, ⟨by decide, by decide⟩, _, rfl, _, _, rfl, rfl, by omega, ?_⟩⟩
        have em : ∀ z : Int, z.fmod many = z % many := fun z => Int.fmod_eq_emod_of_nonneg _ (by omega)
        exact k _ _ (by rw [em]; exact Int.emod_nonneg _ (by omega)) (by rw [em]; exact Int.emod_lt_of_pos _ m0) ⟨⟨a', d', f', ns, hp2, hl2, a0', d0', f0', f1', hn⟩, by omega⟩ k2
/-- a def that may be called: its promise, its name, how it binds -/
structure Cl (P : Program) (w : World) (K : PySem.W.Frag) (mg : Str → Option Value) (base : Heap) (x : Str) (ps : List Str) (k : Nat) (sp : Sp) (f : Addr) (fd : FuncData) : Prop where
  G : FnOk P w K mg base CX0 k f fd ps sp
  g : mg x = some (.ref f)
  kp : PySem.W.keepIn K (.ref f) = true
  b : Binds K fd ps []
abbrev psDraw : List Str := ["_law_pen_here", "_law_many"]
abbrev psPick : List Str := ["_law_pen_here", "_law_some"]
theorem scPick : FnScope ["_law_pen_here", "_law_some"] ["_law_pen_here", "_law_some"] (defScope sPick) := ⟨rfl, rfl, rfl, by decide +kernel, rfl, by decide +kernel, by decide +kernel⟩
theorem ok_pick {f fD : Addr} {fd fdD : FuncData} (F : Fun K "_law_pick" "_law_pick" sPick f fd) (ml : mg "len" = none) (D : Cl P w K mg base "_law_draw" psDraw 1 spDraw fD fdD) : FnOk P w K mg base CX0 2 f fd psPick spPick := by
  refine F.ok scPick (fun vs H Q E h => ?_) (fun cdv A outer s H vs Q E hr h => ?_)
  · obtain ⟨p, l, q, c, xs, rfl, _⟩ := h
    rfl
  · obtain ⟨p, l, q, c, xs, rfl, hp, c1, hq, x0, x1, k⟩ := h
    refine ⟨_, pss_one (ps_ret (pe_ix ix_list (pv 1) (pe_call D.G hr (by rfl) D.g D.kp D.b .nil pass0 (pa_cons (pv 0) (pa_cons (pe_callB call_len_seq (by rfl) ml PySem.boot_len (pa_cons (pv 1) pa_nil)) pa_nil))) (fun _ _ => rfl))), ?_⟩
    refine ⟨_, rfl, _, rfl, _, rfl, q, xs, rfl, Or.inl (SqL.of hq), p, l, c, (xs.length : Int), rfl, hp, c1, by omega, by omega, fun r H' r0 r1 P' k' => ?_⟩
    have qp : q ≠ p := by
      obtain ⟨⟨a, d, fo, ns, hp', _⟩, _⟩ := hp
      exact ne_of hq hp' (by intro z; cases z)
    have hr2 : r.toNat < xs.length := by omega
    have hx : xs[r.toNat]? = some (xs[r.toNat]'hr2) := List.getElem?_eq_getElem hr2
    refine ⟨q, xs, r, xs[r.toNat]'hr2, rfl, rfl, SqL.of (k' q _ qp hq), ?_, k _ _ H' hx P' k'⟩
    have e := atI_nat hx
    rw [show ((r.toNat : Nat) : Int) = r by omega] at e
    exact e
end
end Fk

set_option Elab.async false
set_option maxRecDepth 100000
namespace Fk
open PySem L2
abbrev sBig : Stmt := top 56
/-! ### a number of at most so many figures -/
theorem digits_lt : ∀ (cs : List Nat) (a : Nat), NumText.AllDigits cs → cs.foldl (fun acc c => acc * 10 + (c - 48)) a < (a + 1) * 10 ^ cs.length
  | [], a, _ => by simp
  | c :: cs, a, h => by
    have hc := h.head
    have ih := digits_lt cs (a * 10 + (c - 48)) h.tail
    rw [List.foldl_cons]
    refine Nat.lt_of_lt_of_le ih ?_
    rw [List.length_cons, Nat.pow_succ, Nat.mul_comm (10 ^ cs.length) 10, ← Nat.mul_assoc]
    exact Nat.mul_le_mul_right _ (by omega)
theorem digitsVal_lt {cs : List Nat} (h : NumText.AllDigits cs) : NumText.digitsVal cs < 10 ^ cs.length := by
  have z := digits_lt cs 0 h
  rw [Nat.zero_add, Nat.one_mul] at z
  exact z
/-- the last figures of a number, read as a number -/
theorem tail_int (n f : Nat) (hf : 0 < f) (hl : (TL.numL n).length ≤ 640) : ∃ r : Nat, PySem.intText? (cutS (Str.ofString (toString ((n : Nat) : Int))) (some (-(f : Int))) none) = some (r : Int) ∧ r < 10 ^ f := by
  have et : (Str.ofString (toString ((n : Nat) : Int))).cps.toList = TL.numL n := TL.tl_num n
  have el : (Str.ofString (toString ((n : Nat) : Int))).length = (TL.numL n).length := by rw [← et] <;> rfl
  have ne := TL.numL_ne n
  have pos : 0 < (TL.numL n).length := List.length_pos_iff.mpr ne
  have ei : HT.sIx (TL.numL n).length 0 (some (-(f : Int))) = (TL.numL n).length - f := by
    show (if (-(f : Int)) < 0 then ((-(f : Int)) + ((TL.numL n).length : Int)).toNat else _) = _
    rw [if_pos (by omega)]
    omega
  have ec : (cutS (Str.ofString (toString ((n : Nat) : Int))) (some (-(f : Int))) none).cps.toList = (TL.numL n).drop ((TL.numL n).length - f) := by
    unfold cutS
    rw [et, el, HT.sIx_none, ei, List.toList_toArray, List.take_of_length_le]
    rw [List.length_drop]
    exact Nat.le_refl _
  have ad : NumText.AllDigits ((TL.numL n).drop ((TL.numL n).length - f)) := fun c hc => TL.numL_digits n c (List.mem_of_mem_drop hc)
  have ll : ((TL.numL n).drop ((TL.numL n).length - f)).length ≤ f := by
    rw [List.length_drop]
    omega
  refine ⟨NumText.digitsVal ((TL.numL n).drop ((TL.numL n).length - f)), ?_, Nat.lt_of_lt_of_le (digitsVal_lt ad) (Nat.pow_le_pow_right (by decide) ll)⟩
  rw [← ec]
  refine intText_digits (by rw [ec]; exact ad) (by rw [ec]; exact fun z => by have := congrArg List.length z; rw [List.length_drop] at this; simp at this; omega) ?_
  exact Nat.le_trans (cutS_length _ _ _) (by rw [el]; omega)
def spBig : Sp := fun vs H Q _ => ∃ (p l : Addr) (c fg : Int), vs = [.ref p, .int fg] ∧ PenAt H p l c ∧ c < 900000000 ∧ 1 ≤ fg ∧ fg ≤ 60 ∧
  ∀ (r c' : Int) (H' : Hp), 0 ≤ r → r < 10 ^ fg.toNat → c ≤ c' → c' ≤ c + 30 → PenAt H' p l c' → Keep p H H' → Q (.int r) H'
section
variable {P : Program} {w : World} {K : PySem.W.Frag} {mg : Str → Option Value} {base : Heap}
abbrev psBig : List Str := ["_law_pen_here", "_law_figures"]
theorem scBig : FnScope ["_law_pen_here", "_law_figures", "_law_total", "_law_k"] psBig (defScope sBig) := ⟨rfl, rfl, rfl, by decide +kernel, rfl, by decide +kernel, by decide +kernel⟩
theorem ok_big {f fD fP : Addr} {fd fdD fdP : FuncData} (F : Fun K "_law_big" "_law_big" sBig f fd) (mr : mg "range" = none) (mi : mg "int" = none) (ms : mg "str" = none)
    (D : Cl P w K mg base "_law_draw" psDraw 1 spDraw fD fdD) (C : Cl P w K mg base "_law_pick" psPick 2 spPick fP fdP) : FnOk P w K mg base CX0 3 f fd psBig spBig := by
  refine F.ok scBig (fun vs H Q E h => ?_) (fun cdv A outer s H vs Q E hr h => ?_)
  · obtain ⟨p, l, c, fg, rfl, _⟩ := h
    rfl
  · obtain ⟨p, l, c, fg, rfl, hp, c1, f1, f2, k⟩ := h
    refine ⟨_, pss_cons (ps_set (i := 2) scBig.nd rfl (Or.inl rfl) pe_int)
      (pss_cons (ps_for PassesOwn.never rfl (pi_range1 (by rfl) mr (pa_cons (pe_call C.G hr (by rfl) C.g C.kp C.b .nil pass0 (pa_cons (pv 0) (pa_cons (pe_lst (pa_cons pe_int (pa_cons pe_int (pa_cons pe_int (pa_cons pe_int (pa_cons pe_int (pa_cons (pe_op op_fdiv (pe_op op_add (pv 1) pe_int) pe_int) pa_nil))))))) pa_nil))) pa_nil)) (pg_name (i := 3) scBig.nd rfl (Or.inl rfl))
        (pss_one (ps_set (i := 2) scBig.nd rfl (Or.inl rfl) (pe_op op_add (pe_op op_mul (pv 2) pe_int) (pe_call D.G (hr.mono (by decide)) (by rfl) D.g D.kp D.b .nil pass0 (pa_cons (pv 0) (pa_cons pe_int pa_nil)))))))
      (pss_one (ps_ret (pe_callTy call_int_str (by rfl) mi (by decide +kernel) (pa_cons (pe_slice sl_str (pe_callTy call_str_int (by rfl) ms (by decide +kernel) (pa_cons (pv 2) pa_nil)) (po_some (pe_un un_neg (pv 1))) po_none) pa_nil))))), ?_⟩
    refine ⟨_, rfl, _, rfl, _, _, rfl, rfl, _, _, rfl, rfl, ⟨by decide, by decide⟩, ?_⟩
    refine ⟨by show 6 ≤ sizeLine; decide, fun q hq => ?_⟩
    refine ⟨p, l, q, c, _, rfl, hp.upd hq, by omega, upd_same, by show 0 < 6; decide, by show 6 ≤ 1000; decide, fun i x H1 hx P1 k1 => ?_⟩
    obtain ⟨n, rfl, n0, n1⟩ : ∃ n : Int, x = .int n ∧ 1 ≤ n ∧ n ≤ 20 := by
      have hm := List.mem_of_getElem? hx
      simp only [List.mem_cons, List.not_mem_nil, or_false] at hm
      rcases hm with e | e | e | e | e | e
      · exact ⟨1, e, by decide, by decide⟩
      · exact ⟨1, e, by decide, by decide⟩
      · exact ⟨1, e, by decide, by decide⟩
      · exact ⟨2, e, by decide, by decide⟩
      · exact ⟨3, e, by decide, by decide⟩
      · exact ⟨(fg + 2) / 3, e, by omega, by omega⟩
    refine ⟨n, rfl, by omega, by omega, ?_⟩
    refine for_range (lo := 0) (n := n.toNat) (fun i σ H2 => ∃ (t c' : Int) (v : Option V), σ = [some (.ref p), some (.int fg), some (.int t), v] ∧ 0 ≤ t ∧ t < 1000 ^ i ∧ c ≤ c' ∧ c' ≤ c + 1 + i ∧ PenAt H2 p l c' ∧ Keep p H H2)
      ⟨0, c + 1, none, rfl, by decide, by decide, by omega, by omega, P1, (Keep.new hq).trans k1⟩ ?_ ?_
    · rintro i σ H2 hi ⟨t, c', v, rfl, t0, t1, c2, c3, P2, k2⟩
      refine ⟨_, rfl, _, _, rfl, rfl, Or.inr ⟨by decide, by decide⟩, _, rfl, p, l, c', 1000, rfl, P2, by omega, by decide, by decide, fun r H3 r0 r1 P3 k3 => ?_⟩
      refine ⟨_, _, rfl, rfl, _, c' + 1, _, rfl, by omega, ?_, by omega, by omega, P3, k2.trans k3⟩
      rw [Int.pow_succ]
      omega
    · rintro σ H2 ⟨t, c', v, rfl, t0, t1, c2, c3, P2, k2⟩
      obtain ⟨m, rfl⟩ : ∃ m : Nat, t = (m : Int) := ⟨t.toNat, by omega⟩
      obtain ⟨g, rfl⟩ : ∃ g : Nat, fg = (g : Int) := ⟨fg.toNat, by omega⟩
      have m60 : m < 10 ^ 60 := by
        have e1 : (1000 : Int) ^ n.toNat = ((1000 ^ n.toNat : Nat) : Int) := by simp
        rw [e1] at t1
        have e2 : 1000 ^ n.toNat ≤ 1000 ^ 20 := Nat.pow_le_pow_right (by decide) (by omega)
        have e3 : (1000 : Nat) ^ 20 = 10 ^ 60 := by decide
        omega
      have hlog : (m : Int).natAbs.log2 < 1920 := by
        rw [Int.natAbs_natCast]
        by_cases hm : m = 0
        · rw [hm]
          decide
        · exact Nat.lt_of_lt_of_le ((Nat.log2_lt hm).mpr (Nat.lt_trans m60 (show (10 : Nat) ^ 60 < 2 ^ 200 by decide))) (by decide)
      have l60 : (TL.numL m).length ≤ 60 := TL.numL_len (by decide) m60
      obtain ⟨r, hr1, hr2⟩ := tail_int m g (by omega) (by omega)
      have el : (Str.ofString (toString (m : Int))).length = (TL.numL m).length := by
        rw [← TL.tl_num m]
        rfl
      refine ⟨_, rfl, _, rfl, hlog, _, rfl, _, rfl, _, rfl, _, rfl, Nat.le_of_lt (small1000 (by omega)), _, (r : Int), rfl, hr1, Nat.le_trans (cutS_length _ _ _) (by omega), ?_⟩
      refine k _ c' H2 (by omega) ?_ c2 (by omega) P2 k2
      rw [Int.toNat_natCast]
      have e : ((10 : Int) ^ g) = ((10 ^ g : Nat) : Int) := by simp
      rw [e]
      exact Int.ofNat_lt.mpr hr2
end
end Fk

set_option Elab.async false
set_option maxRecDepth 100000
set_option maxHeartbeats 4000000
namespace Fk
open PySem PySem.Spec L2 PyProof.Rows
theorem paired_of {α β : Type} {R : α → β → Prop} : ∀ (xs : List α) (ys : List β), xs.length = ys.length → (∀ (i : Nat) (x : α) (y : β), xs[i]? = some x → ys[i]? = some y → R x y) → Paired R xs ys
  | [], [], _, _ => .nil
  | x :: xs, y :: ys, hl, h => .cons (h 0 x y rfl rfl) (paired_of xs ys (Nat.succ.inj hl) fun i a b ha hb => h (i + 1) a b ha hb)
  | [], _ :: _, hl, _ => nomatch hl
  | _ :: _, [], hl, _ => nomatch hl
section
variable {X : Cx}
/-! ### a text times a number; a tuple of a text's signs -/
theorem op_mulS : OpR X (binaryOp .Mult) (fun x y H Q => ∃ (z : Str) (k : Int), x = .str z ∧ y = .int k ∧ PySem.MulOk z k ∧ Q (.str (PySem.Txt.mul z k)) H) := by
  intro pins s σ H x y v u Q I rx ry h
  obtain ⟨z, k, rfl, rfl, ok, q⟩ := h
  obtain ⟨t, rfl⟩ := rx
  obtain ⟨t', rfl⟩ := ry
  exact PySem.SB.mul ok fun t2 k2 => ⟨.str _, H, I.tok _, ⟨_, rfl⟩, q⟩
theorem op_fdivB : OpR X (binaryOp .FloorDiv) (rI (fun i j => 0 < j ∧ i.natAbs < 2 ^ 13400) fun i j => .int (i / j)) := opI fun i j _ _ _ _ _ hc q => by
  obtain ⟨h1, h2⟩ := hc
  refine floordiv_int (by omega) (by rw [Int.fdiv_eq_ediv_of_nonneg i (by omega)]; exact q) (.inl ?_)
  have k1 : (if i == 0 then 0 else i.natAbs.log2 / 30 + 1) ≤ 447 := by
    by_cases h0 : (i == 0) = true
    · rw [if_pos h0]
      exact Nat.zero_le _
    · rw [if_neg h0]
      have : i.natAbs.log2 < 13400 := (Nat.log2_lt (by simpa using h0)).mpr h2
      omega
  show (decide ((if j == 0 then 0 else j.natAbs.log2 / 30 + 1) > 300) && decide ((if i == 0 then 0 else i.natAbs.log2 / 30 + 1) > (if j == 0 then 0 else j.natAbs.log2 / 30 + 1) + 150)) = false
  generalize (if i == 0 then 0 else i.natAbs.log2 / 30 + 1) = m at k1
  generalize (if j == 0 then 0 else j.natAbs.log2 / 30 + 1) = n
  by_cases hn : n > 300
  · rw [decide_eq_false (show ¬ m > n + 150 by omega), Bool.and_false]
  · rw [decide_eq_false hn, Bool.false_and]
theorem op_fdivG : OpR X (binaryOp .FloorDiv) (rI (fun i j => 0 < j ∧ (i.natAbs < 2 ^ 13400 ∨ j.natAbs.log2 < 9000)) fun i j => .int (i / j)) := fun pins s σ H x y v u Q I rx ry h => by
  obtain ⟨i, j, e1, e2, ⟨hj, hc | hc⟩, q⟩ := h
  · exact op_fdivB pins s σ H x y v u Q I rx ry ⟨i, j, e1, e2, ⟨hj, hc⟩, q⟩
  · exact op_fdivW pins s σ H x y v u Q I rx ry ⟨i, j, e1, e2, ⟨hj, hc⟩, q⟩
def signsOf (z : Str) : List V := z.cps.toList.map fun c => V.str ⟨#[c]⟩
theorem call_tupS : CallR X (.type "tuple") (fun xs H Q => ∃ z : Str, xs = [.str z] ∧ X.A.handled = none ∧ z.length ≤ sizeLine ∧ ∀ p, H p = none → Q (.ref p) (upd H p (.tup (signsOf z)))) := by
  intro pins s σ H xs us Q I r h
  obtain ⟨z, rfl, hh, hz, q⟩ := h
  obtain ⟨u1, rfl, r1⟩ := vals1 r
  obtain ⟨t, rfl⟩ := r1
  refine call_tuple_str hh z t (fun h' tk acc hk hit => ?_) hz
  obtain ⟨hsz, hat⟩ := hit
  have zl : z.cps.toList.length = z.cps.size := Array.length_toList
  have rel : Vals (signsOf z) acc.toList := paired_of _ _ (by rw [signsOf, List.length_map, zl, Array.length_toList, hsz]) fun i x y hx hy => by
    rw [signsOf, List.getElem?_map] at hx
    rw [Array.getElem?_toList] at hy
    obtain ⟨c, u, hc, rfl⟩ := hat i y hy
    rw [← Array.getElem?_toList] at hc
    rw [hc] at hx
    cases hx
    exact ⟨u, rfl⟩
  have I1 : Inv X pins σ H { s with heap := h' } := I.kept (t' := s.toks) hk
  have I2 : Inv X pins σ (upd H h'.objs.size (.tup (signsOf z))) { s with heap := h'.push { cls := .type "tuple", data := .seq acc }, toks := tk } :=
    I1.laid (t' := tk) (fun b o e => Heap.get?_push_of_some _ e) (Nat.le_refl _) (show ObjOk X.prog X.w _ _ _ (.tup (signsOf z)) from ⟨by rw [signsOf, List.length_map, zl]; exact hz, acc.toList, rel, by rw [Array.toArray_toList]; exact IsTup.new _ _⟩)
  exact ⟨.ref h'.objs.size, _, I2, rfl, q _ (I1.hok.fresh (Nat.le_refl _))⟩
/-! ### int of a long text -/
end
/-! ### int of a long text -/
section
open PySem.NumText
theorem wp_long {M : Model} {A : Around} {E : Value → Shared → Prop} {s : Shared} {K : PySem.W.Frag} {Q : Value → Shared → Prop} {v : Value} {text : List Nat} {n : Int} (X : K.In s.heap) (e : PySem.W.nsIn K cStatics "sys.int_max_str_digits" = some none)
    (hs : ¬ (text.takeWhile (· != 0)).length ≤ 640) (hr : (int_private% "readNumeral") 4300 10 (text.takeWhile (· != 0)) = (int_private% "Numeral.value") n)
    (ha : ((text.takeWhile (· != 0)).length == text.length) = true) (h : Q (.int n s.toks) { s with toks := s.toks + 1 }) :
    wpAny M A ((int_private% "intFromText") v text 10) Q E s := by
  have L := PySem.W.looks_nsIn (M := M) X e
  obtain ⟨hp, g, d, tk, os⟩ := s
  repeat (any_goals (first
    | assumption
    | (with_reducible refine wpAny_ite_false (decide_eq_false hs) ?_)
    | (with_reducible refine wpAny_ite_true (decide_eq_true ha) ?_)
    | (with_reducible refine L.at ?_)
    | wp_step))
  all_goals (try rw [hr])
  all_goals (try dsimp only)
  repeat (any_goals (first
    | assumption
    | (with_reducible refine wpAny_ite_true (decide_eq_true ha) ?_)
    | wp_step))
structure Kept1 (p : Prop) : Prop where
  out : p
theorem meets_long {K : PySem.W.Frag} {x : PySem.Str} {u : Tok} {n : Int} (e : PySem.W.nsIn K cStatics "sys.int_max_str_digits" = some none) (hd : ∀ c ∈ x.cps.toList, c = 45 ∨ (48 ≤ c ∧ c ≤ 57)) (h6 : 640 < x.length) (hl : x.length ≤ sizeLine) (hn : PySem.intText? x = some n) :
    Meets (Builtin.«int.__new__» ⟨[.type "int", .str x u], []⟩) (fun _ R s => K.In s.heap ∧ ∀ tk t, R (.ok (.ret (.int n t))) { s with toks := tk }) := .of_wp fun prog w A R s h => by
  obtain ⟨X, h⟩ := h
  have f1 := F.conv_sub_int
  have f2 := F.madeHere_int
  have f3 := PySem.W.KIN.str_int
  have f4 := PySem.W.KIN.str_idx
  have f5 := PySem.W.KIN.str_trunc
  have f6 : typeOf (.str x u) = pure (.type "str") := rfl
  obtain ⟨e1, e2⟩ := numText_signs hd
  have xl : x.cps.toList.length = x.length := Array.length_toList
  have hs : ¬ (numSeenOf x).length ≤ 640 := by
    rw [e2, xl]
    omega
  have hr : (int_private% "readNumeral") 4300 10 (numSeenOf x) = (int_private% "Numeral.value") n ∧ ((numSeenOf x).length == (numTextOf x).length) = true := by
    rcases read4300 x hl with ⟨m, h1, h2, h3⟩ | ⟨h1, _⟩
    · rw [hn] at h1
      injection h1 with h1
      subst h1
      exact ⟨h3, h2⟩
    · rw [hn] at h1
      cases h1
  have hk := Kept1.mk (And.intro hs hr)
  clear hs hr hl hn hd e1 e2 xl h6
  obtain ⟨hp, g, d, tk, os⟩ := s
  repeat (any_goals (first
    | assumption
    | ((with_reducible show wpAny _ _ ((int_private% "intFromText") _ _ _) _ _ _); refine wp_long X e hk.out.1 hk.out.2.1 hk.out.2.2 ?_)
    | wp_step))
  all_goals first | exact ⟨_, rfl, h _ _⟩ | exact h _ _ | trace_state
end
section
variable {X : Cx}
/-- int(text), a number of at most 4,300 figures -/
theorem call_int_big (e : PySem.W.nsIn X.K cStatics "sys.int_max_str_digits" = some none) : CallR X (.type "int") (fun xs H Q => ∃ a n, xs = [.str a] ∧ (∀ c ∈ a.cps.toList, c = 45 ∨ (48 ≤ c ∧ c ≤ 57)) ∧ PySem.intText? a = some n ∧ a.length ≤ sizeLine ∧ Q (.int n) H) := by
  intro pins s σ H xs us Q I rs h
  obtain ⟨a, n, rfl, hd, hn, hl, h⟩ := h
  obtain ⟨u1, rfl, r1⟩ := vals1 rs
  obtain ⟨t, rfl⟩ := r1
  by_cases h6 : a.length ≤ 640
  · exact PySem.W.KIN.call_text hn h6 ⟨.int n, H, I.tok _, ⟨_, rfl⟩, h⟩
  · exact call_int_1 (meets_long e hd (by omega) hl hn) ⟨I.kIn, fun tk t => ⟨rfl, ⟨.int n, H, I.tok _, ⟨_, rfl⟩, h⟩⟩⟩
end
end Fk

set_option Elab.async false
set_option maxRecDepth 100000
set_option maxHeartbeats 4000000
namespace Fk
open PySem PySem.Spec L2 PyProof.Rows
/-! ### try with several clauses, each with a name -/
/-- a clause: its class, the slot of its name, its suite's reading -/
abbrev Clause := Value × Nat × (Addr → Value → Option Addr → TS)
def wEach (K : PySem.W.Frag) (Wout : WX) (D : Ends) : List Clause → WX
  | [] => Wout
  | (c, i, ts) :: r => wAs K c i ts (wEach K Wout D r) D
inductive Clauses (X : Cx) : List ExceptHandler → List Clause → Prop
  | nil : Clauses X [] []
  | cons {x n : Str} {c : Value} {i : Nat} {ts : Addr → Value → Option Addr → TS} {b : Stmt} {suite : List Stmt} {np pos : Pos} {hs : List ExceptHandler} {l : List Clause} (hc : Names X x c) (hi : X.N[i]? = some n) (hl : X.env.kindOf n = some .local)
      (hb : ∀ (a : Addr) (oe : Obj) (cls : Value) (d : Option Addr) (pn : List (Addr × Obj)), Zc cls d oe → (∃ vs, oe.data = .fields vs) → PSs (X.suite a ((a, oe) :: pn)) (b :: suite) (ts a cls d))
      (r : Clauses X hs l) : Clauses X (.ExceptHandler (some (.Name x np)) (some n) (b :: suite) pos :: hs) ((c, i, ts) :: l)
section
variable {X : Cx} {body : List Stmt} {hd : ExceptHandler} {hds : List ExceptHandler} {l : List Clause} {pos : Pos} {tb : WX → TS} {Wout : WX}
theorem ps_try_each (hs : X.stack = X.env :: X.outer) (hf : X.env.frame = some X.env.locals) (hN : X.N.Nodup) (tk : Takes X Wout)
    (hb : ∀ (W : WX) (pn : List (Addr × Obj)) (xe : Value → Shared → Prop), Takes (X.tr pn xe) W → PassesOwn (model X.prog X.w) X.A X.env xe → PSs (X.tr pn xe) body (tb W))
    (hh : Clauses X (hd :: hds) l) : PS X (.Try body (hd :: hds) [] [] pos) (fun D σ H => tb (wEach X.K Wout D l) D σ H) := by
  refine ⟨fun pins s σ H D I h => ?_⟩
  have ok := I.ok
  have fr : X.A.frames = some (X.env :: X.outer) := hs ▸ ok.frames
  refine wpAny_Try_except ?_
  refine wpAny_mono ((hb (wEach X.K Wout D l) (X.pn ++ pins) (fun e s₁ => wpAny (model X.prog X.w) X.A (noteFrame e X.env) (fun _ s₂ => wpAny (model X.prog X.w) X.A (setFlight e none) (fun _ s₃ =>
    wpAny (model X.prog X.w) X.A (handleBy e X.env (hd :: hds)) (SP X pins D) X.xe s₃) X.xe s₂) X.xe s₁) (fun u s' xx => ?_) PassesOwn.looking).run [] s σ H D (I.toTry _) h) (fun f s1 q => ?_) (fun e s1 z => z)
  · obtain ⟨a, B, sI, pj, σ', H', cls, d, rfl, J', nb, up, sky, na, os, ag, w⟩ := xx
    have J : Inv X pins σ' H' sI := J'.ofTry ok
    rw [hs] at sky
    show wpAny (model X.prog X.w) X.A (noteFrame (.ref a) X.env) _ _ _
    refine Sky.land Zc.steady fr hf sky fun h3 fl3 up3 => ?_
    have J3 : Inv X pins σ' H' { s' with heap := h3 } := J.landed nb fl3.1 (up.trans up3) os ag
    obtain ⟨oe3, vs3, he3, hz3, hd3⟩ := fl3.there
    have notIn : a ∉ frs (X.env :: X.outer) := fun hm => by
      obtain ⟨_, o', e', nf⟩ := fl3.2.2.1.mem hm
      rw [he3] at e'
      cases e'
      exact nf _ hd3
    have nL : a ≠ X.env.locals := fun z => notIn (List.mem_filterMap.mpr ⟨X.env, List.mem_cons_self, hf.trans (congrArg some z.symm)⟩)
    have nF : a ∉ X.fs := fun hm => by
      obtain ⟨e, he, z⟩ := List.mem_filterMap.mp hm
      exact notIn (List.mem_filterMap.mpr ⟨e, List.mem_cons_of_mem _ he, z⟩)
    have S3 := J3.suite he3 hd3 na nL nF
    have LT : PySem.W.Looks (model X.prog X.w) h3 (typeOf (.ref a)) cls := fun A Q E s k q => wpAny_typeOf_ref (k _ _ he3) (hz3.1.symm ▸ q)
    have go : ∀ {hs' : List ExceptHandler} {l' : List Clause}, Clauses X hs' l' → wEach X.K Wout D l' cls d σ' H' → wpAny (model X.prog X.w) X.A (handleBy (.ref a) X.env hs') (SP X pins D) X.xe { s' with heap := h3 } := by
      intro hs' l' hk
      induction hk with
      | nil =>
        intro w
        refine wpAny_handleBy_nil ?_
        obtain ⟨_, _, _, oe, vs, T, _, _, he, _, hdt, h1, _⟩ := id fl3
        unfold PySem.passOn
        refine wpAny_bind (wpAny_field he hdt h1 ?_)
        rw [if_neg (fun z => nomatch (beq_iff_eq.mp z : Value.ref T = Value.none))]
        have out : wpAny (model X.prog X.w) X.A (setFlight (.ref a) X.env.frame) (fun _ s4 => wpAny (model X.prog X.w) X.A (throw (.ref a) : Sem Flow) (SP X pins D) X.xe s4) X.xe { s' with heap := h3 } := by
          rw [hf]
          exact HandSPX.setFlight_upZ fl3 fun h4 hh4 up4 => wpAny_throw (tk _ _ ⟨a, B, sI, pins, σ', H', cls, d, rfl, J, nb, (up.trans up3).trans up4, .inr (.inr (hs.symm ▸ hh4)), na, os, ag, w⟩)
        first
          | exact wpAny_bind (wpAny_pure (wpAny_bind out))
          | exact wpAny_bind out
      | @cons x n c i ts b suite np pos' hs2 l2 hc hi hln hsu r ih =>
        intro w
        obtain ⟨yes, hy, h1, h2⟩ := w
        refine wpAny_handleBy_cons (codeAny_handlers_test ?_) (fun z => nomatch z)
        have LM := PySem.W.exm_one (M := model X.prog X.w) J3.kIn LT hy
        have test : ∀ {Q : Value → Shared → Prop} {E : Value → Shared → Prop}, Q c { s' with heap := h3 } → wpAny (model X.prog X.w) (X.A.mark (some (.ref a))) (eval (.Name x np) X.env) Q E { s' with heap := h3 } := fun {Q E} q => by
          obtain ⟨g1, g2, hm | ⟨hm, hv, hnn⟩⟩ := hc
          · exact ld_glob (X := X.suite a ((a, oe3) :: (X.pn ++ pins))) S3 g1 hm q g2
          · exact ld_blt (X := X.suite a ((a, oe3) :: (X.pn ++ pins))) S3 g1 hm hv q hnn g2
        refine test (LM.here ?_)
        cases yes with
        | false => exact ih (h2 rfl)
        | true =>
          refine codeAny_handlers_suite_as ?_
          refine HandSPX.lands_againZ fl3 fun h4 fl4 up4 => ?_
          have J4 : Inv X pins σ' H' { s' with heap := h4 } := J.landed nb fl4.1 ((up.trans up3).trans up4) os ag
          obtain ⟨oe4, vs4, he4, hz4, hd4⟩ := fl4.there
          refine store_ok (X := X.suite a ((a, oe4) :: (X.pn ++ pins))) (v := .ref a) (J4.suite he4 hd4 na nL nF) hN hi (.inl hln) rfl (fun s5 S5 => ?_) (.inr hln)
          refine wpAny_mono ((hsu a oe4 cls d (X.pn ++ pins) hz4 ⟨_, hd4⟩).run [] s5 _ H' _ S5 (h1 rfl a na)) (fun f s6 q => ?_) (fun _ _ z => False.elim z)
          have gone : ∀ {σ6 : L2.St} {H6 : Hp} {Q : Shared → Prop}, Inv (X.suite a ((a, oe4) :: (X.pn ++ pins))) [] σ6 H6 s6 → (∀ s7, Inv X pins (σ6.set i none) H6 s7 → Q s7) →
              wpAny (model X.prog X.w) X.A (do bindName X.env n .none; unbindBehindTheSuite X.env n pos') (fun _ s7 => Q s7) X.xe s6 := fun {σ6 H6 Q} S6 hq => gone_ok (S6.unsuite ok) hN hi hln hq
          cases f with
          | next =>
            obtain ⟨σ6, H6, S6, q6⟩ := q
            exact gone S6 fun s7 J7 => ⟨_, _, J7, q6⟩
          | brk =>
            obtain ⟨σ6, H6, S6, q6⟩ := q
            exact gone S6 fun s7 J7 => ⟨_, _, J7, q6⟩
          | cont =>
            obtain ⟨σ6, H6, S6, q6⟩ := q
            exact gone S6 fun s7 J7 => ⟨_, _, J7, q6⟩
          | ret u =>
            obtain ⟨v6, σ6, H6, S6, r6, q6⟩ := q
            exact gone S6 fun s7 J7 => ⟨_, _, _, J7, r6, q6⟩
    exact go hh w
  · cases f with
    | ret u =>
      obtain ⟨v, σ', H', J', r, z⟩ := q
      exact ⟨v, σ', H', J'.ofTry ok, r, z⟩
    | next =>
      obtain ⟨σ', H', J', z⟩ := q
      exact wpAny_execs_nil ⟨σ', H', J'.ofTry ok, z⟩
    | brk =>
      obtain ⟨σ', H', J', z⟩ := q
      exact ⟨σ', H', J'.ofTry ok, z⟩
    | cont =>
      obtain ⟨σ', H', J', z⟩ := q
      exact ⟨σ', H', J'.ofTry ok, z⟩
end
end Fk

set_option Elab.async false
set_option maxRecDepth 100000
namespace Fk
open PySem L2
/-! ### texts as lists of signs -/
def isD (c : Nat) : Bool := decide (48 ≤ c) && decide (c ≤ 57)
theorem isD_iff {c : Nat} : isD c = true ↔ 48 ≤ c ∧ c ≤ 57 := by
  unfold isD
  rw [Bool.and_eq_true, decide_eq_true_eq, decide_eq_true_eq]
/-- how many figures stand from k on -/
def nd (cs : List Nat) (k : Nat) : Nat := ((cs.drop k).takeWhile isD).length
def dend (cs : List Nat) (k : Nat) : Nat := k + nd cs k
theorem nd_step {cs : List Nat} {k c : Nat} (h : cs[k]? = some c) (hd : isD c = true) : nd cs k = nd cs (k + 1) + 1 := by
  have hk : k < cs.length := (List.getElem?_eq_some_iff.mp h).1
  have e : cs.drop k = c :: cs.drop (k + 1) := by
    rw [List.drop_eq_getElem_cons hk]
    have z := (List.getElem?_eq_some_iff.mp h).2
    rw [z]
  unfold nd
  rw [e, List.takeWhile_cons, if_pos hd, List.length_cons]
theorem dend_step {cs : List Nat} {k c : Nat} (h : cs[k]? = some c) (hd : isD c = true) : dend cs k = dend cs (k + 1) := by
  unfold dend
  rw [nd_step h hd]
  omega
theorem dend_stop {cs : List Nat} {k c : Nat} (h : cs[k]? = some c) (hd : isD c = false) : dend cs k = k := by
  have hk : k < cs.length := (List.getElem?_eq_some_iff.mp h).1
  have e : cs.drop k = c :: cs.drop (k + 1) := by
    rw [List.drop_eq_getElem_cons hk]
    have z := (List.getElem?_eq_some_iff.mp h).2
    rw [z]
  unfold dend nd
  rw [e, List.takeWhile_cons, hd]
  rfl
theorem dend_past {cs : List Nat} {k : Nat} (h : cs.length ≤ k) : dend cs k = k := by
  unfold dend nd
  rw [List.drop_of_length_le h]
  rfl
theorem dend_ge (cs : List Nat) (k : Nat) : k ≤ dend cs k := Nat.le_add_right _ _
theorem dend_le {cs : List Nat} {k : Nat} (h : k ≤ cs.length) : dend cs k ≤ cs.length := by
  have z : ((cs.drop k).takeWhile isD).length ≤ (cs.drop k).length := (List.takeWhile_sublist _).length_le
  rw [List.length_drop] at z
  unfold dend nd
  omega
/-- the signs from a to b -/
def cut (cs : List Nat) (a b : Nat) : List Nat := (cs.drop a).take (b - a)
theorem cut_dend (cs : List Nat) (k : Nat) : cut cs k (dend cs k) = (cs.drop k).takeWhile isD := by
  unfold cut dend
  rw [Nat.add_sub_cancel_left]
  unfold nd
  have h : (cs.drop k).takeWhile isD <+: cs.drop k := List.takeWhile_prefix _
  exact (List.prefix_iff_eq_take.mp h).symm
theorem tw_all : ∀ (l : List Nat) (c : Nat), c ∈ l.takeWhile isD → isD c = true
  | [], _, h => nomatch h
  | d :: l, c, h => by
    rw [List.takeWhile_cons] at h
    split at h
    · rename_i hd
      rcases List.mem_cons.mp h with e | e
      · rw [e]
        exact hd
      · exact tw_all l c e
    · cases h
theorem cut_digits (cs : List Nat) (k : Nat) : NumText.AllDigits (cut cs k (dend cs k)) := by
  rw [cut_dend]
  intro c hc
  exact isD_iff.mp (tw_all _ _ hc)
theorem cut_len {cs : List Nat} {a b : Nat} (h : b ≤ cs.length) : (cut cs a b).length = b - a := by
  unfold cut
  rw [List.length_take, List.length_drop]
  omega
/-- what a text is read as -/
inductive Out
  | text (n : Nat)
  | large (n : Nat)
  | ratio (a b : Int)
def sgn (s : Nat) : Int := if s = 1 then -1 else 1
def st (cs : List Nat) : Nat := if cs.head? = some 45 then 1 else 0
def val (cs : List Nat) (a b : Nat) : Nat := NumText.digitsVal (cut cs a b)
def out (cs : List Nat) : Out :=
  if dend cs (st cs) = st cs then .text (st cs + 1)
  else if cs[dend cs (st cs)]? = some 47 then
    if dend cs (dend cs (st cs) + 1) = dend cs (st cs) + 1 then .text (dend cs (dend cs (st cs) + 1) + 1)
    else if dend cs (dend cs (st cs) + 1) < cs.length then .text (dend cs (dend cs (st cs) + 1) + 1)
    else if 4000 < dend cs (st cs) - st cs then .large (dend cs (st cs) - st cs)
    else if 4000 < dend cs (dend cs (st cs) + 1) - (dend cs (st cs) + 1) then .large (dend cs (dend cs (st cs) + 1) - (dend cs (st cs) + 1))
    else if val cs (dend cs (st cs) + 1) (dend cs (dend cs (st cs) + 1)) = 0 then .text (dend cs (st cs) + 2)
    else .ratio (sgn (st cs) * ((val cs (st cs) (dend cs (st cs)) / Nat.gcd (val cs (st cs) (dend cs (st cs))) (val cs (dend cs (st cs) + 1) (dend cs (dend cs (st cs) + 1))) : Nat) : Int))
      ((val cs (dend cs (st cs) + 1) (dend cs (dend cs (st cs) + 1)) / Nat.gcd (val cs (st cs) (dend cs (st cs))) (val cs (dend cs (st cs) + 1) (dend cs (dend cs (st cs) + 1))) : Nat) : Int)
  else if dend cs (st cs) < cs.length then .text (dend cs (st cs) + 1)
  else if 4000 < dend cs (st cs) - st cs then .large (dend cs (st cs) - st cs)
  else .ratio (sgn (st cs) * (val cs (st cs) (dend cs (st cs)) : Int)) 1
theorem st_le (cs : List Nat) : st cs ≤ cs.length := by
  unfold st
  split
  · rename_i h
    cases cs with
    | nil => cases h
    | cons c cs => exact Nat.succ_le_succ (Nat.zero_le _)
  · exact Nat.zero_le _
theorem st_01 (cs : List Nat) : st cs = 0 ∨ st cs = 1 := by
  unfold st
  split
  · exact .inr rfl
  · exact .inl rfl
theorem head_st {cs : List Nat} (h : st cs = 1) : cs.head? = some 45 := by
  unfold st at h
  split at h
  · assumption
  · cases h
/-! ### slices -/
theorem six_le {n k : Nat} (d : Nat) (h : k ≤ n) : HT.sIx n d (some (k : Int)) = k := by
  rw [HT.sIx_nat, Nat.min_eq_left h]
theorem tl_len (z : Str) : z.cps.toList.length = z.length := Array.length_toList
theorem cutS_two (z : Str) {a b : Nat} (ha : a ≤ z.length) (hb : b ≤ z.length) : (cutS z (some (a : Int)) (some (b : Int))).cps.toList = cut z.cps.toList a b := by
  unfold cutS cut
  rw [six_le 0 ha, six_le z.length hb, List.toList_toArray]
theorem cutS_two' (z : Str) (a b : Nat) : (cutS z (some (a : Int)) (some (b : Int))).cps.toList = cut z.cps.toList (min a z.length) (min b z.length) := by
  unfold cutS cut
  rw [HT.sIx_nat, HT.sIx_nat, List.toList_toArray]
theorem cutS_to (z : Str) {b : Nat} (hb : b ≤ z.length) : (cutS z none (some (b : Int))).cps.toList = z.cps.toList.take b := by
  unfold cutS
  rw [six_le z.length hb, HT.sIx_none, List.toList_toArray, List.drop_zero, Nat.sub_zero]
theorem ext {y z : Str} (h : y.cps.toList = z.cps.toList) : y = z := TL.ext_tl h
/-- one sign, or none behind the end -/
theorem cutS_one (z : Str) (k : Nat) (hk : k ≤ z.length) : cutS z (some (k : Int)) (some ((k + 1 : Nat) : Int)) = match z.cps.toList[k]? with
    | some c => (⟨#[c]⟩ : Str)
    | none => ⟨#[]⟩ := by
  have zl := tl_len z
  cases h : z.cps.toList[k]? with
  | some c =>
    have hlt : k < z.cps.toList.length := (List.getElem?_eq_some_iff.mp h).1
    refine ext ?_
    rw [cutS_two z hk (by omega)]
    unfold cut
    rw [List.drop_eq_getElem_cons hlt, Nat.add_sub_cancel_left, List.take_succ_cons, List.take_zero, (List.getElem?_eq_some_iff.mp h).2]
  | none =>
    have hge : z.cps.toList.length ≤ k := List.getElem?_eq_none_iff.mp h
    refine ext ?_
    rw [cutS_two', Nat.min_eq_right (by omega : z.length ≤ k), Nat.min_eq_right (by omega : z.length ≤ k + 1)]
    unfold cut
    rw [Nat.sub_self, List.take_zero]
end Fk

set_option Elab.async false
set_option maxRecDepth 100000
namespace Fk
open PySem L2
/-! ### the two errors -/
structure IniC (K : PySem.W.Frag) (C : Addr) (fs : List Str) : Prop where
  ox : OexC K C
  no : ∀ f ∈ fs, PySem.W.findIn K (.ref C) f = some none
/-- __init__ leaves the fields, the last one first -/
def spIni (C : Addr) (fs : List Str) : Sp := fun vs H Q _ => ∃ (a : Addr) (ws : List V), vs = .ref a :: ws ∧ ws.length = fs.length ∧ H a = some (exo a C none) ∧
  ∀ (d : Addr) (H' : Hp), H d = none → d ≠ a → (∀ b o, b ≠ a → H b = some o → H' b = some o) → H' a = some (exo a C (some d)) → H' d = some (exd d (fs.zip ws).reverse) → Q .non H'
section
variable {P : Program} {w : World} {K : PySem.W.Frag} {mg : Str → Option Value} {base : Heap}
theorem ini_one {H : Hp} {a C d : Addr} {x : List (Str × V)} (hd : H d = none) (n : d ≠ a) : (∀ b o, b ≠ a → H b = some o → (upd (upd H d (exd d x)) a (exo a C (some d))) b = some o) ∧ (upd (upd H d (exd d x)) a (exo a C (some d))) a = some (exo a C (some d)) ∧ (upd (upd H d (exd d x)) a (exo a C (some d))) d = some (exd d x) :=
  ⟨fun b o hb e => by rw [upd_ne hb, upd_ne (ne_of_none e hd)]; exact e, upd_same, by rw [upd_ne n, upd_same]⟩
theorem ini_more {H H1 : Hp} {a C d : Addr} {x y : List (Str × V)} (hd : H d = none) (n : d ≠ a) (h : (∀ b o, b ≠ a → H b = some o → H1 b = some o) ∧ H1 a = some (exo a C (some d)) ∧ H1 d = some (exd d x)) :
    (∀ b o, b ≠ a → H b = some o → (upd H1 d (exd d y)) b = some o) ∧ (upd H1 d (exd d y)) a = some (exo a C (some d)) ∧ (upd H1 d (exd d y)) d = some (exd d y) :=
  ⟨fun b o hb e => by rw [upd_ne (ne_of_none e hd)]; exact h.1 b o hb e, by rw [upd_ne n.symm]; exact h.2.1, upd_same⟩
abbrev sIBadText : Stmt := inClass (top 4) 0
theorem scBadText : FnScope ["self", "line", "column"] ["self", "line", "column"] (defScope sIBadText) := ⟨rfl, rfl, rfl, by decide +kernel, rfl, by decide +kernel, by decide +kernel⟩
theorem ini_BadText {C f : Addr} {fd : FuncData} (F : Fun K "__init__" "BadText.__init__" sIBadText f fd) (T : IniC K C ["line", "column"]) : FnOk P w K mg base CX0 1 f fd ["self", "line", "column"] (spIni C ["line", "column"]) := by
  refine F.ok scBadText (fun vs H Q E h => ?_) (fun cdv A outer s H vs Q E hr h => ?_)
  · obtain ⟨a, ws, rfl, e, _⟩ := h
    exact congrArg (· + 1) e
  · obtain ⟨a, ws, rfl, e, ha, k⟩ := h
    match ws, e, k with
    | [v1, v2], _, k =>
      refine ⟨_, (pss_cons (ps_ost (pv 0) (pv 1)) (pss_one (ps_ost (pv 0) (pv 2)))), ?_⟩
      refine ⟨_, rfl, _, rfl, a, C, rfl, T.ox, T.no _ (by simp), Or.inl ⟨ha, fun d hd hn => ?_⟩⟩
      have h1 := ini_one (C := C) (x := [("line", v1)]) hd hn
      refine ⟨_, rfl, _, rfl, a, C, rfl, T.ox, T.no _ (by simp), Or.inr ⟨d, _, h1.2.1, h1.2.2, by show 1 ≤ 900; decide, ?_⟩⟩
      have h2 := ini_more (y := [("column", v2), ("line", v1)]) hd hn h1
      exact k d _ hd hn h2.1 h2.2.1 h2.2.2
abbrev sIBadNumber : Stmt := inClass (top 5) 0
theorem scBadNumber : FnScope ["self", "what", "number"] ["self", "what", "number"] (defScope sIBadNumber) := ⟨rfl, rfl, rfl, by decide +kernel, rfl, by decide +kernel, by decide +kernel⟩
theorem ini_BadNumber {C f : Addr} {fd : FuncData} (F : Fun K "__init__" "BadNumber.__init__" sIBadNumber f fd) (T : IniC K C ["what", "number"]) : FnOk P w K mg base CX0 1 f fd ["self", "what", "number"] (spIni C ["what", "number"]) := by
  refine F.ok scBadNumber (fun vs H Q E h => ?_) (fun cdv A outer s H vs Q E hr h => ?_)
  · obtain ⟨a, ws, rfl, e, _⟩ := h
    exact congrArg (· + 1) e
  · obtain ⟨a, ws, rfl, e, ha, k⟩ := h
    match ws, e, k with
    | [v1, v2], _, k =>
      refine ⟨_, (pss_cons (ps_ost (pv 0) (pv 1)) (pss_one (ps_ost (pv 0) (pv 2)))), ?_⟩
      refine ⟨_, rfl, _, rfl, a, C, rfl, T.ox, T.no _ (by simp), Or.inl ⟨ha, fun d hd hn => ?_⟩⟩
      have h1 := ini_one (C := C) (x := [("what", v1)]) hd hn
      refine ⟨_, rfl, _, rfl, a, C, rfl, T.ox, T.no _ (by simp), Or.inr ⟨d, _, h1.2.1, h1.2.2, by show 1 ≤ 900; decide, ?_⟩⟩
      have h2 := ini_more (y := [("number", v2), ("what", v1)]) hd hn h1
      exact k d _ hd hn h2.1 h2.2.1 h2.2.2
abbrev sITooLarge : Stmt := inClass (top 6) 0
theorem scTooLarge : FnScope ["self", "what", "number", "limit"] ["self", "what", "number", "limit"] (defScope sITooLarge) := ⟨rfl, rfl, rfl, by decide +kernel, rfl, by decide +kernel, by decide +kernel⟩
theorem ini_TooLarge {C f : Addr} {fd : FuncData} (F : Fun K "__init__" "TooLarge.__init__" sITooLarge f fd) (T : IniC K C ["what", "number", "limit"]) : FnOk P w K mg base CX0 1 f fd ["self", "what", "number", "limit"] (spIni C ["what", "number", "limit"]) := by
  refine F.ok scTooLarge (fun vs H Q E h => ?_) (fun cdv A outer s H vs Q E hr h => ?_)
  · obtain ⟨a, ws, rfl, e, _⟩ := h
    exact congrArg (· + 1) e
  · obtain ⟨a, ws, rfl, e, ha, k⟩ := h
    match ws, e, k with
    | [v1, v2, v3], _, k =>
      refine ⟨_, (pss_cons (ps_ost (pv 0) (pv 1)) (pss_cons (ps_ost (pv 0) (pv 2)) (pss_one (ps_ost (pv 0) (pv 3))))), ?_⟩
      refine ⟨_, rfl, _, rfl, a, C, rfl, T.ox, T.no _ (by simp), Or.inl ⟨ha, fun d hd hn => ?_⟩⟩
      have h1 := ini_one (C := C) (x := [("what", v1)]) hd hn
      refine ⟨_, rfl, _, rfl, a, C, rfl, T.ox, T.no _ (by simp), Or.inr ⟨d, _, h1.2.1, h1.2.2, by show 1 ≤ 900; decide, ?_⟩⟩
      have h2 := ini_more (y := [("number", v2), ("what", v1)]) hd hn h1
      refine ⟨_, rfl, _, rfl, a, C, rfl, T.ox, T.no _ (by simp), Or.inr ⟨d, _, h2.2.1, h2.2.2, by show 2 ≤ 900; decide, ?_⟩⟩
      have h3 := ini_more (y := [("limit", v3), ("number", v2), ("what", v1)]) hd hn h2
      exact k d _ hd hn h3.1 h3.2.1 h3.2.2
/-- what is known of an error class that is raised and caught -/
structure Err (P : Program) (w : World) (K : PySem.W.Frag) (mg : Str → Option Value) (base : Heap) (x : Str) (fs : List Str) (C fI : Addr) (fd : FuncData) : Prop where
  ox : OexC K C
  iC : PySem.W.findIn K (.ref C) "__init__" = some (some (.ref fI))
  tI : PySem.W.typeIn K (.ref fI) = some (.type "function")
  G : FnOk P w K mg base CX0 1 fI fd ("self" :: fs) (spIni C fs)
  b : Binds K fd ("self" :: fs) []
  g : mg x = some (.ref C)
/-- raise C(e, ..): what is left -/
theorem raised {H H' : Hp} {a C d : Addr} {fs : List (Str × V)} (ha : H a = none) (hd0 : (upd H a (exo a C none)) d = none) (hk : ∀ b o, b ≠ a → (upd H a (exo a C none)) b = some o → H' b = some o) : H d = none ∧ Same H (upd (L2.del H' a) d (.xd fs)) ∧ (upd (L2.del H' a) d (.xd fs)) d = some (.xd fs) := by
  have hd : H d = none := by
    cases e : H d with
    | none => rfl
    | some o =>
      rw [upd_ne (ne_of_none e ha), e] at hd0
      cases hd0
  refine ⟨hd, fun b o e => ?_, upd_same⟩
  rw [upd_ne (ne_of_none e hd), L2.del_ne (ne_of_none e ha)]
  refine hk b o (ne_of_none e ha) ?_
  rw [upd_ne (ne_of_none e ha)]
  exact e
/-! ### lowest, digits_end -/
abbrev sLowest : Stmt := top 12
abbrev sDend : Stmt := top 18
theorem scLowest : FnScope ["top", "bottom", "shared"] ["top", "bottom"] (defScope sLowest) := ⟨rfl, rfl, rfl, by decide +kernel, rfl, by decide +kernel, by decide +kernel⟩
def spLowest : Sp := fun vs H Q _ => ∃ (a b : Int), vs = [.int a, .int b] ∧ 0 < b ∧ ((a.natAbs < 2 ^ 13400 ∧ b.natAbs < 2 ^ 13400) ∨ (Nat.gcd a.natAbs b.natAbs).log2 < 9000) ∧
  ∀ p, H p = none → Q (.ref p) (upd H p (.tup [.int (a / (Nat.gcd a.natAbs b.natAbs : Nat)), .int (b / (Nat.gcd a.natAbs b.natAbs : Nat))]))
theorem ok_lowest {f : Addr} {fd : FuncData} (F : Fun K "lowest" "lowest" sLowest f fd) (mgc : mg "gcd" = some (.builtin "math.gcd")) : FnOk P w K mg base CX0 1 f fd ["top", "bottom"] spLowest := by
  refine F.ok scLowest (fun vs H Q E h => ?_) (fun cdv A outer s H vs Q E hr h => ?_)
  · obtain ⟨a, b, rfl, _⟩ := h
    rfl
  · obtain ⟨a, b, rfl, b0, hab, k⟩ := h
    refine ⟨_, pss_cons (ps_set (i := 2) scLowest.nd rfl (Or.inl rfl) (pe_callBfun cr_gcd (by rfl) mgc (pa_cons (pv 0) (pa_cons (pv 1) pa_nil))))
      (pss_cons (ps_if (pt_cmpR op_lt (pv 1) pe_int (nomark _)) (pss_one (ps_set (i := 2) scLowest.nd rfl (Or.inl rfl) (pe_un un_neg (pv 2)))) pss_nil)
      (pss_one (ps_ret (pe_tup (pa_cons (pe_op op_fdivG (pv 0) (pv 2)) (pa_cons (pe_op op_fdivG (pv 1) (pv 2)) pa_nil)))))), ?_⟩
    have g0 : (0 : Int) < (Nat.gcd a.natAbs b.natAbs : Nat) := by
      have : 0 < Nat.gcd a.natAbs b.natAbs := Nat.gcd_pos_of_pos_right _ (by omega)
      omega
    refine ⟨_, rfl, _, rfl, a, b, rfl, ?_⟩
    refine ⟨_, rfl, _, _, rfl, rfl, _, rfl, ite2 (fun h => absurd (of_decide_eq_true h) (by omega)) (fun _ => ?_)⟩
    exact ⟨_, rfl, _, rfl, _, _, rfl, rfl, ⟨g0, hab.imp (fun z => z.1) fun z => by rw [Int.natAbs_natCast]; exact z⟩, _, rfl, _, rfl, _, _, rfl, rfl, ⟨g0, hab.imp (fun z => z.2) fun z => by rw [Int.natAbs_natCast]; exact z⟩, by show 2 ≤ sizeLine; decide, fun p hp => k p hp⟩
theorem scDend : FnScope ["text", "start", "end"] ["text", "start"] (defScope sDend) := ⟨rfl, rfl, rfl, by decide +kernel, rfl, by decide +kernel, by decide +kernel⟩
def digs : Str := "0123456789"
theorem digs_list : digs.cps.toList = [48, 49, 50, 51, 52, 53, 54, 55, 56, 57] := by decide +kernel
theorem in_digs (c : Nat) : decide (c ∈ digs.cps.toList) = isD c := by
  rw [digs_list]
  by_cases h : isD c = true
  · rw [h]
    have z := isD_iff.mp h
    refine decide_eq_true ?_
    simp only [List.mem_cons, List.not_mem_nil, or_false]
    omega
  · have h' : isD c = false := by simpa using h
    rw [h']
    refine decide_eq_false fun z => h (isD_iff.mpr ?_)
    simp only [List.mem_cons, List.not_mem_nil, or_false] at z
    omega
def spDend : Sp := fun vs H Q _ => ∃ (t : Str) (k : Nat), vs = [.str t, .int k] ∧ t.length ≤ 20000 ∧ k ≤ t.length ∧ Q (.int (dend t.cps.toList k)) H
theorem ok_dend {f : Addr} {fd : FuncData} {tk : Tok} (F : Fun K "digits_end" "digits_end" sDend f fd) (ml : mg "len" = none) (mD : mg "DIGITS" = some (.str digs tk)) : FnOk P w K mg base CX0 1 f fd ["text", "start"] spDend := by
  refine F.ok scDend (fun vs H Q E h => ?_) (fun cdv A outer s H vs Q E hr h => ?_)
  · obtain ⟨t, k, rfl, _⟩ := h
    rfl
  · obtain ⟨t, k0, rfl, tl, hk, k⟩ := h
    refine ⟨_, pss_cons (ps_set (i := 2) scDend.nd rfl (Or.inl rfl) (pv 1))
      (pss_cons (ps_while PassesOwn.never (PW.pt (pw_and (pt_cmpR op_lt (pv 2) (pe_callB call_len_str (by rfl) ml PySem.boot_len (pa_cons (pv 0) pa_nil)) (nomark _)) (pw_and1 (pt_cmpR op_in_sign (pe_item_str (pv 0) (pv 2) (fun _ _ => rfl)) (pe_glob (v := .str digs) (by rfl) mD ⟨_, rfl⟩) (by rfl)))))
        (pss_one (ps_set (i := 2) scDend.nd rfl (Or.inl rfl) (pe_op op_add (pv 2) pe_int))))
      (pss_one (ps_ret (pv 2)))), ?_⟩
    have zl := tl_len t
    have szl : t.length ≤ sizeLine := Nat.le_trans tl (by decide)
    refine ⟨_, rfl, ?_⟩
    refine while_by (fun σ H' => H' = H ∧ ∃ e : Nat, σ = [some (.str t), some (.int k0), some (.int e)] ∧ e ≤ t.length ∧ dend t.cps.toList e = dend t.cps.toList k0) (fun σ _ => match σ with
      | [_, _, some (.int e)] => t.length - e.toNat
      | _ => 0) ⟨rfl, k0, rfl, hk, rfl⟩ ?_ ?_
    · rintro σ H' ⟨rfl, e, rfl, he, hd⟩
      refine ⟨_, rfl, _, rfl, _, rfl, szl, _, _, rfl, rfl, _, rfl, ite2 (fun h => ?_) (fun h => ?_)⟩
      · have h' : e < t.length := by
          have := of_decide_eq_true h
          omega
        have hlt : e < t.cps.toList.length := by omega
        have hget : t.cps.toList[e]? = some (t.cps.toList[e]'hlt) := List.getElem?_eq_getElem hlt
        have hg2 : t.cps[(e : Int).toNat]? = some (t.cps.toList[e]'hlt) := by
          rw [Int.toNat_natCast, ← Array.getElem?_toList]
          exact hget
        refine ⟨_, rfl, _, rfl, t, e, _, rfl, rfl, by omega, by omega, by omega, hg2, _, _, rfl, rfl, _, rfl, ?_⟩
        rw [in_digs]
        refine ite2 (fun hd2 => ?_) (fun hd2 => ?_)
        · refine ⟨_, rfl, _, _, rfl, rfl, ⟨rfl, e + 1, rfl, h', ?_⟩, ?_⟩
          · rw [← dend_step hget hd2]
            exact hd
          · show t.length - ((e : Int) + 1).toNat < t.length - (e : Int).toNat
            omega
        · refine ⟨_, rfl, ?_⟩
          rw [← dend_stop hget (by simpa using hd2), hd]
          exact k
      · have h' : ¬ e < t.length := fun z => h (decide_eq_true (by omega))
        refine iteF ?_
        refine ⟨_, rfl, ?_⟩
        have e1 : e = dend t.cps.toList k0 := by
          rw [← hd, dend_past (by omega)]
        rw [e1]
        exact k
    · intro σ H' Q1 Q2 hq h
      obtain ⟨v1, e1, v2, e2, z, ez, lz, i, j, e3, e4, kk, ek, h⟩ := h
      refine ⟨v1, e1, v2, e2, z, ez, lz, i, j, e3, e4, kk, ek, ?_⟩
      cases kk with
      | false => exact hq _ _ h
      | true =>
        obtain ⟨v3, e5, v4, e6, z2, i2, c2, a1, a2, a3, a4, a5, a6, c3, z3, b1, b2, k2, ek2, q⟩ := h
        exact ⟨v3, e5, v4, e6, z2, i2, c2, a1, a2, a3, a4, a5, a6, c3, z3, b1, b2, k2, ek2, hq _ _ q⟩
end
end Fk

set_option Elab.async false
set_option maxRecDepth 100000
namespace Fk
open PySem L2
abbrev badFs : List Str := ["line", "column"]
abbrev largeFs : List Str := ["what", "number", "limit"]
def badD (line col : Int) : List (Str × V) := [("column", .int col), ("line", .int line)]
def largeD (n : Int) : List (Str × V) := [("limit", .int 4000), ("number", .int n), ("what", .str "digits")]
theorem dv_lt (cs : List Nat) (h : NumText.AllDigits cs) : NumText.digitsVal cs < 10 ^ cs.length := by
  have z : ∀ (cs : List Nat), NumText.AllDigits cs → ∀ a : Nat, cs.foldl (fun acc c => acc * 10 + (c - 48)) a < (a + 1) * 10 ^ cs.length := by
    intro cs
    induction cs with
    | nil =>
      intro _ a
      show a < (a + 1) * 1
      omega
    | cons c cs ih =>
      intro h a
      have hc := h.head
      refine Nat.lt_of_lt_of_le (ih h.tail (a * 10 + (c - 48))) ?_
      show (a * 10 + (c - 48) + 1) * 10 ^ cs.length ≤ (a + 1) * 10 ^ (cs.length + 1)
      rw [Nat.pow_succ, Nat.mul_comm (10 ^ cs.length) 10, ← Nat.mul_assoc]
      exact Nat.mul_le_mul_right _ (by omega)
  have q := z cs h 0
  rw [Nat.zero_add, Nat.one_mul] at q
  exact q
theorem big13 {cs : List Nat} (h : NumText.AllDigits cs) (hl : cs.length ≤ 4000) : NumText.digitsVal cs < 2 ^ 13400 := by
  refine Nat.lt_of_lt_of_le (dv_lt cs h) (Nat.le_trans (Nat.pow_le_pow_right (by decide) hl) ?_)
  decide +kernel
theorem keq {j i : Int} (h : decide (V.int j = V.int i) = true) : j = i := V.int.inj (of_decide_eq_true h)
theorem kne {j i : Int} (h : ¬ decide (V.int j = V.int i) = true) : j ≠ i := fun e => h (by rw [e]; exact decide_eq_true rfl)
theorem raise_ok {C : Addr} {names : List Str} {ws : List V} {H : Hp} {Q : XK} (hl : ws.length = names.length) (hz : ws.length ≤ 1000) (k : ∀ d H', H d = none → Same H H' → H' d = some (.xd (names.zip ws).reverse) → Q (.ref C) (some d) H') :
    ws.length ≤ 1000 ∧ ∀ a, H a = none → spIni C names (.ref a :: (ws ++ [])) (upd H a (exo a C none))
      (fun v H2 => v = .non ∧ ∃ (d : Addr) (fs : List (Str × V)), H2 a = some (exo a C (some d)) ∧ H2 d = some (exd d fs) ∧ H d = none ∧ Q (.ref C) (some d) (upd (L2.del H2 a) d (.xd fs))) (fun _ _ _ => False) := by
  refine ⟨hz, fun a ha => ⟨a, ws, by rw [List.append_nil], hl, upd_same, fun d H' hd hn hk h1 h2 => ⟨rfl, d, _, h1, h2, ?_, ?_⟩⟩⟩
  · exact (raised (fs := (names.zip ws).reverse) ha hd hk).1
  · have z := raised (fs := (names.zip ws).reverse) ha hd hk
    exact k d _ z.1 z.2.1 z.2.2
end Fk

set_option Elab.async false
set_option maxRecDepth 100000
namespace Fk
open PySem L2
/-! ### the law's own sums: gcd, q, is_whole, is_ratio -/
abbrev sGcd : Stmt := top 57
abbrev sQ : Stmt := top 58
theorem gcd_step {x y i B : Nat} (hy : 0 < y) (h0 : i = 0 → x * y ≤ B) (h1 : 1 ≤ i → y < x ∧ x * y * 2 ^ i ≤ 2 * B) : x % y < y ∧ y * (x % y) * 2 ^ (i + 1) ≤ 2 * B := by
  refine ⟨Nat.mod_lt _ hy, ?_⟩
  by_cases hi : i = 0
  · subst hi
    have h := h0 rfl
    have z : y * (x % y) ≤ y * x := Nat.mul_le_mul_left _ (Nat.mod_le _ _)
    rw [Nat.mul_comm x y] at h
    show y * (x % y) * 2 ≤ 2 * B
    omega
  · obtain ⟨hl, h⟩ := h1 (by omega)
    have z2 : 2 * (x % y) ≤ x := by
      have e := Nat.mod_add_div x y
      have : 1 ≤ x / y := (Nat.one_le_div_iff hy).mpr (by omega)
      have z3 : y * 1 ≤ y * (x / y) := Nat.mul_le_mul_left _ this
      have z4 := Nat.mod_lt x hy
      omega
    have e : y * (x % y) * 2 ^ (i + 1) = y * (2 * (x % y)) * 2 ^ i := by
      rw [Nat.pow_succ, Nat.mul_comm (2 ^ i) 2, ← Nat.mul_assoc, Nat.mul_assoc y, Nat.mul_comm (x % y) 2]
    rw [e]
    refine Nat.le_trans (Nat.mul_le_mul_right _ (Nat.mul_le_mul_left y z2)) ?_
    rw [Nat.mul_comm y x]
    exact h
theorem gcd_done {x y m n : Nat} (hl : y < x) (h : x * y * 2 ^ m ≤ 2 * 2 ^ n) (hmn : n + 1 < m) : y = 0 := by
  by_cases hy : y = 0
  · exact hy
  · exfalso
    have z : 1 ≤ x * y := Nat.mul_pos (by omega) (by omega)
    have z2 : 1 * 2 ^ m ≤ x * y * 2 ^ m := Nat.mul_le_mul_right _ z
    have z3 : (2 : Nat) * 2 ^ n < 2 ^ m := by
      rw [Nat.mul_comm, ← Nat.pow_succ]
      exact Nat.pow_lt_pow_right (by decide) hmn
    rw [Nat.one_mul] at z2
    exact absurd (Nat.le_trans z2 h) (Nat.not_le_of_lt z3)
def spGcd : Sp := fun vs H Q _ => ∃ a b : Int, vs = [.int a, .int b] ∧ a.natAbs < 2 ^ 13400 ∧ b.natAbs < 2 ^ 13400 ∧ Q (.int (Nat.gcd a.natAbs b.natAbs : Nat)) H
abbrev psGcd : List Str := ["_law_one", "_law_two"]
theorem abs_if (i : Int) : (if i < 0 then -i else i) = ((i.natAbs : Nat) : Int) := by
  split <;> omega
section
variable {P : Program} {w : World} {K : PySem.W.Frag} {mg : Str → Option Value} {base : Heap}
theorem scGcd : FnScope ["_law_one", "_law_two", "_law_lap"] psGcd (defScope sGcd) := ⟨rfl, rfl, rfl, by decide +kernel, rfl, by decide +kernel, by decide +kernel⟩
theorem ok_gcd {f : Addr} {fd : FuncData} (F : Fun K "_law_gcd" "_law_gcd" sGcd f fd) (ma : mg "abs" = none) (mr : mg "range" = none) (mi : mg "int" = none) : FnOk P w K mg base CX0 1 f fd psGcd spGcd := by
  refine F.ok scGcd (fun vs H Q E h => ?_) (fun cdv A outer s H vs Q E hr h => ?_)
  · obtain ⟨a, b, rfl, _⟩ := h
    rfl
  · obtain ⟨a, b, rfl, ha, hb, k⟩ := h
    refine ⟨_, pss_cons (ps_par (i := 0) (j := 1) (by rfl) scGcd.nd rfl rfl (by decide) rfl rfl (pa_cons (pe_callB call_abs (by rfl) ma (by decide +kernel) (pa_cons (pv 0) pa_nil)) (pa_cons (pe_callB call_abs (by rfl) ma (by decide +kernel) (pa_cons (pv 1) pa_nil)) pa_nil)) (by rfl))
      (pss_cons (ps_for PassesOwn.never rfl (pi_range1 (by rfl) mr (pa_cons pe_int pa_nil)) (pg_name (i := 2) scGcd.nd rfl (Or.inl rfl))
        (pss_cons (ps_if (pt_cmpR op_eq (pv 1) pe_int (nomark _)) (pss_one ps_break) pss_nil)
        (pss_one (ps_par (i := 0) (j := 1) (by rfl) scGcd.nd rfl rfl (by decide) rfl rfl (pa_cons (pv 1) (pa_cons (pe_op op_mod (pe_callTy call_int1 (by rfl) mi (by decide +kernel) (pa_cons (pv 0) pa_nil)) (pv 1)) pa_nil)) (by rfl)))))
      (pss_one (ps_ret (pv 0)))), ?_⟩
    refine ⟨_, rfl, _, rfl, _, rfl, _, rfl, _, _, rfl, ?_⟩
    rw [abs_if, abs_if]
    generalize hx : a.natAbs = x at *
    generalize hy : b.natAbs = y at *
    refine ⟨60000, rfl, by decide, by decide, ?_⟩
    refine for_range (fun i σ H' => ∃ (u v : Nat) (r : Option V), σ = [some (.int u), some (.int v), r] ∧ H' = H ∧ Nat.gcd u v = Nat.gcd x y ∧ (i = 0 → u * v ≤ 2 ^ 26800) ∧ (1 ≤ i → v < u ∧ u * v * 2 ^ i ≤ 2 * 2 ^ 26800)) ⟨x, y, none, rfl, rfl, rfl, fun _ => ?_, fun z => absurd z (by decide)⟩ ?_ ?_
    · have e : (2 : Nat) ^ 26800 = 2 ^ 13400 * 2 ^ 13400 := by rw [← Nat.pow_add]
      rw [e]
      exact Nat.mul_le_mul (Nat.le_of_lt ha) (Nat.le_of_lt hb)
    · rintro i σ H' hi ⟨u, v, r, rfl, rfl, hg, h0, h1⟩
      refine ⟨_, rfl, rfl, _, rfl, ite2 (fun h => ?_) (fun h => ?_)⟩
      · have v0 : v = 0 := by
          have := keq h
          omega
        subst v0
        rw [Nat.gcd_zero_right] at hg
        refine ⟨_, rfl, ?_⟩
        rw [hg]
        exact k
      · have v0 : 0 < v := by
          have := kne h
          omega
        have z := gcd_step v0 h0 h1
        refine ⟨_, rfl, _, rfl, Or.inl ⟨_, rfl, _, rfl, _, _, rfl, rfl, by omega, _, _, rfl, ?_⟩⟩
        refine ⟨v, u % v, _, rfl, rfl, ?_, fun z => absurd z (by omega), fun _ => z⟩
        rw [← hg, Nat.gcd_comm u v, Nat.gcd_rec v u, Nat.gcd_comm]
    · rintro σ H' ⟨u, v, r, rfl, rfl, hg, h0, h1⟩
      obtain ⟨hl, hm⟩ := h1 (by show 1 ≤ (60000 : Int).toNat; decide)
      have v0 := gcd_done hl hm (by show 26800 + 1 < (60000 : Int).toNat; decide)
      subst v0
      rw [Nat.gcd_zero_right] at hg
      refine ⟨_, rfl, ?_⟩
      rw [hg]
      exact k
end
end Fk

set_option Elab.async false
set_option maxRecDepth 100000
namespace Fk
open PySem L2
abbrev psQ : List Str := ["_law_top", "_law_bottom"]
def spQ : Sp := fun vs H Q _ => ∃ (a b : Int), vs = [.int a, .int b] ∧ 0 < b ∧ a.natAbs < 2 ^ 13400 ∧ b.natAbs < 2 ^ 13400 ∧
  ∀ p, H p = none → Q (.ref p) (upd H p (.tup [.int (a / (Nat.gcd a.natAbs b.natAbs : Nat)), .int (b / (Nat.gcd a.natAbs b.natAbs : Nat))]))
section
variable {P : Program} {w : World} {K : PySem.W.Frag} {mg : Str → Option Value} {base : Heap}
theorem scQ : FnScope ["_law_top", "_law_bottom", "_law_by"] psQ (defScope sQ) := ⟨rfl, rfl, rfl, by decide +kernel, rfl, by decide +kernel, by decide +kernel⟩
theorem ok_q {f fG : Addr} {fd dG : FuncData} (F : Fun K "_law_q" "_law_q" sQ f fd) (G : Cl P w K mg base "_law_gcd" psGcd 1 spGcd fG dG) : FnOk P w K mg base CX0 2 f fd psQ spQ := by
  refine F.ok scQ (fun vs H Q E h => ?_) (fun cdv A outer s H vs Q E hr h => ?_)
  · obtain ⟨a, b, rfl, _⟩ := h
    rfl
  · obtain ⟨a, b, rfl, b0, a1, b1, k⟩ := h
    refine ⟨_, pss_cons (ps_set (i := 2) scQ.nd rfl (Or.inl rfl) (pe_call G.G hr (by rfl) G.g G.kp G.b .nil pass0 (pa_cons (pv 0) (pa_cons (pv 1) pa_nil))))
      (pss_cons (ps_if (pt_cmpR op_lt (pv 1) pe_int (nomark _)) (pss_one (ps_set (i := 2) scQ.nd rfl (Or.inl rfl) (pe_un un_neg (pv 2)))) pss_nil)
      (pss_one (ps_ret (pe_tup (pa_cons (pe_op op_fdivB (pv 0) (pv 2)) (pa_cons (pe_op op_fdivB (pv 1) (pv 2)) pa_nil)))))), ?_⟩
    have g0 : (0 : Int) < (Nat.gcd a.natAbs b.natAbs : Nat) := by
      have : 0 < Nat.gcd a.natAbs b.natAbs := Nat.gcd_pos_of_pos_right _ (by omega)
      omega
    refine ⟨_, rfl, _, rfl, a, b, rfl, a1, b1, ?_⟩
    refine ⟨_, rfl, _, _, rfl, rfl, _, rfl, ite2 (fun h => absurd (of_decide_eq_true h) (by omega)) (fun _ => ?_)⟩
    exact ⟨_, rfl, _, rfl, _, _, rfl, rfl, ⟨g0, a1⟩, _, rfl, _, rfl, _, _, rfl, rfl, ⟨g0, b1⟩, by show 2 ≤ sizeLine; decide, fun p hp => k p hp⟩
end
end Fk

set_option Elab.async false
set_option maxRecDepth 100000
namespace Fk
open PySem L2
/-! ### single signs of a text -/
abbrev sCharAt : Stmt := top 39
abbrev sOneOf : Stmt := top 40
abbrev sIntEnd : Stmt := top 41
abbrev sReadRatio : Stmt := top 42
abbrev sReadPower : Stmt := top 43
def at1 (cs : List Nat) (k : Nat) : Str := match cs[k]? with
  | some c => ⟨#[c]⟩
  | none => ⟨#[]⟩
theorem cut1 (z : Str) (k : Nat) : cutS z (some (k : Int)) (some ((k : Int) + 1)) = at1 z.cps.toList k := by
  by_cases h : k ≤ z.length
  · exact cutS_one z k h
  · have zl := tl_len z
    have e : z.cps.toList[k]? = none := List.getElem?_eq_none_iff.mpr (by omega)
    unfold at1
    rw [e]
    refine ext ?_
    have q := cutS_two' z k (k + 1)
    rw [Nat.min_eq_right (by omega : z.length ≤ k), Nat.min_eq_right (by omega : z.length ≤ k + 1)] at q
    refine Eq.trans q ?_
    unfold cut
    rw [Nat.sub_self, List.take_zero]
theorem at1_eq {cs : List Nat} {k n : Nat} {y : Str} (hy : y.cps.toList = [n]) : decide (V.str (at1 cs k) = V.str y) = decide (cs[k]? = some n) := by
  have ey : y = ⟨#[n]⟩ := ext hy
  rw [ey]
  unfold at1
  cases h : cs[k]? with
  | none =>
    rw [decide_eq_false (fun z : (none : Option Nat) = some n => nomatch z)]
    refine decide_eq_false fun z => ?_
    have z1 : (⟨#[]⟩ : Str) = ⟨#[n]⟩ := V.str.inj z
    have z2 : ([] : List Nat) = [n] := congrArg (fun s : Str => s.cps.toList) z1
    cases z2
  | some c =>
    by_cases hc : c = n
    · subst hc
      rw [decide_eq_true rfl, decide_eq_true rfl]
    · rw [decide_eq_false (fun z : some c = some n => hc (Option.some.inj z))]
      refine decide_eq_false fun z => hc ?_
      have z1 : (⟨#[c]⟩ : Str) = ⟨#[n]⟩ := V.str.inj z
      have z2 : [c] = [n] := congrArg (fun s : Str => s.cps.toList) z1
      exact (List.cons.inj z2).1
/-- the sign at k is one of those of y -/
def isIn (cs : List Nat) (k : Nat) (y : List Nat) : Bool := match cs[k]? with
  | some c => decide (c ∈ y)
  | none => false
def ie (cs : List Nat) (k : Nat) : Nat := if cs[k]? = some 48 then k + 1 else dend cs k
theorem ie_le {cs : List Nat} {k : Nat} (h : k ≤ cs.length) : ie cs k ≤ cs.length := by
  unfold ie
  split
  · rename_i g
    have := (List.getElem?_eq_some_iff.mp g).1
    omega
  · exact dend_le h
theorem ie_ge (cs : List Nat) (k : Nat) : k ≤ ie cs k := by
  unfold ie
  split
  · omega
  · exact dend_ge cs k
def spCharAt : Sp := fun vs H Q _ => ∃ (t : Str) (k : Nat), vs = [.str t, .int k] ∧ t.length ≤ 20000 ∧ Q (.str (at1 t.cps.toList k)) H
def spOneOf : Sp := fun vs H Q _ => ∃ (cs : List Nat) (k : Nat) (y : Str), vs = [.str (at1 cs k), .str y] ∧ Q (.bl (isIn cs k y.cps.toList)) H
def spIntEnd : Sp := fun vs H Q _ => ∃ (t : Str) (k : Nat), vs = [.str t, .int k] ∧ t.length ≤ 20000 ∧ k ≤ t.length ∧ Q (.int (ie t.cps.toList k : Nat)) H
abbrev psCA : List Str := ["text", "at"]
abbrev psOO : List Str := ["character", "characters"]
abbrev psTS : List Str := ["text", "start"]
/-- a ratio that begins at k -/
inductive Rr
  | bad (col : Nat)
  | ok (ab be : List Nat) (e : Nat)
def d19 : List Nat := [49, 50, 51, 52, 53, 54, 55, 56, 57]
def rr (cs : List Nat) (k : Nat) : Rr := if cs[ie cs k]? = some 47 then (if isIn cs (ie cs k + 1) d19 = true then .ok (cut cs k (ie cs k)) (cut cs (ie cs k + 1) (dend cs (ie cs k + 1))) (dend cs (ie cs k + 1)) else .bad (ie cs k + 2))
  else .ok (cut cs k (ie cs k)) [49] (ie cs k)
inductive Rp
  | bad (col : Nat)
  | ok (pw e : Nat)
def d26 : List Nat := [50, 51, 52, 53, 54]
def rp (cs : List Nat) (k : Nat) : Rp := if cs[k]? = some 101 then (if cs[k + 1]? = some 94 then (if isIn cs (k + 2) d26 = true then .ok ((cs.getD (k + 2) 0) - 48) (k + 3) else .bad (k + 3)) else .ok 1 (k + 1)) else .bad (k + 1)
def Bads (CB : Addr) (H : Hp) (E : XK) (col : Nat) : Prop := ∀ d H', H d = none → Same H H' → H' d = some (.xd (badD 1 col)) → E (.ref CB) (some d) H'
def spReadRatio (CB : Addr) : Sp := fun vs H Q E => ∃ (t : Str) (k : Nat), vs = [.str t, .int k] ∧ t.length ≤ 20000 ∧ k ≤ t.length ∧ (match rr t.cps.toList k with
  | .bad col => Bads CB H E col
  | .ok ab be e => ∀ (p : Addr) (H' : Hp) (x y : Str), Same H H' → H' p = some (.tup [.str x, .str y, .int e]) → x.cps.toList = ab → y.cps.toList = be → Q (.ref p) H')
def spReadPower (CB : Addr) : Sp := fun vs H Q E => ∃ (t : Str) (k : Nat), vs = [.str t, .int k] ∧ t.length ≤ 20000 ∧ (match rp t.cps.toList k with
  | .bad col => Bads CB H E col
  | .ok pw e => ∀ (p : Addr) (H' : Hp), Same H H' → H' p = some (.tup [.int pw, .int e]) → Q (.ref p) H')
theorem Bads.mono {CB : Addr} {H H1 : Hp} {E : XK} {col : Nat} (k : Bads CB H E col) (s : Same H H1) : Bads CB H1 E col := fun d H' hd hs he => k d H' (s.free hd) (s.trans hs) he
section
variable {P : Program} {w : World} {K : PySem.W.Frag} {mg : Str → Option Value} {base : Heap}
theorem scCharAt : FnScope psCA psCA (defScope sCharAt) := ⟨rfl, rfl, rfl, by decide +kernel, rfl, by decide +kernel, by decide +kernel⟩
theorem ok_char {f : Addr} {fd : FuncData} (F : Fun K "char_at" "char_at" sCharAt f fd) : FnOk P w K mg base CX0 1 f fd psCA spCharAt := by
  refine F.ok scCharAt (fun vs H Q E h => ?_) (fun cdv A outer s H vs Q E hr h => ?_)
  · obtain ⟨t, k, rfl, _⟩ := h
    rfl
  · obtain ⟨t, k, rfl, tl, q⟩ := h
    refine ⟨_, pss_one (ps_ret (pe_slice sl_str (pv 0) (po_some (pv 1)) (po_some (pe_op op_add (pv 1) pe_int)))), ?_⟩
    refine ⟨_, rfl, _, rfl, _, rfl, _, rfl, _, _, rfl, rfl, _, rfl, t, rfl, Nat.le_trans tl (by decide), ?_⟩
    rw [cut1]
    exact q
theorem scOneOf : FnScope psOO psOO (defScope sOneOf) := ⟨rfl, rfl, rfl, by decide +kernel, rfl, by decide +kernel, by decide +kernel⟩
theorem ok_oneof {f : Addr} {fd : FuncData} (F : Fun K "is_one_of" "is_one_of" sOneOf f fd) : FnOk P w K mg base CX0 1 f fd psOO spOneOf := by
  refine F.ok scOneOf (fun vs H Q E h => ?_) (fun cdv A outer s H vs Q E hr h => ?_)
  · obtain ⟨cs, k, y, rfl, _⟩ := h
    rfl
  · obtain ⟨cs, k, y, rfl, q⟩ := h
    refine ⟨_, pss_one (ps_ret (pe_and (pe_cmpR op_ne (pv 0) pe_str (nomark _)) (pe_one (pe_cmpR op_in_sign (pv 0) (pv 1) (by rfl))))), ?_⟩
    unfold isIn at q
    unfold at1
    cases hc : cs[k]? with
    | none =>
      rw [hc] at q
      exact ⟨_, rfl, rfl, false, rfl, iteF q⟩
    | some c =>
      rw [hc] at q
      refine ⟨_, rfl, rfl, true, ?_, iteT ⟨_, rfl, _, rfl, c, y, rfl, rfl, q⟩⟩
      have e : ¬ V.str (⟨#[c]⟩ : Str) = V.str "" := fun z => by
        have z1 := V.str.inj z
        have z2 : [c] = [] := congrArg (fun s : Str => s.cps.toList) z1
        cases z2
      show V.bl (!decide (V.str (⟨#[c]⟩ : Str) = V.str "")) = V.bl true
      rw [decide_eq_false e]
      rfl
theorem scIntEnd : FnScope psTS psTS (defScope sIntEnd) := ⟨rfl, rfl, rfl, by decide +kernel, rfl, by decide +kernel, by decide +kernel⟩
theorem ok_intend {f fC fD : Addr} {fd dC dD : FuncData} (F : Fun K "integer_end" "integer_end" sIntEnd f fd) (C : Cl P w K mg base "char_at" psCA 1 spCharAt fC dC) (D : Cl P w K mg base "digits_end" psTS 1 spDend fD dD) : FnOk P w K mg base CX0 2 f fd psTS spIntEnd := by
  refine F.ok scIntEnd (fun vs H Q E h => ?_) (fun cdv A outer s H vs Q E hr h => ?_)
  · obtain ⟨t, k, rfl, _⟩ := h
    rfl
  · obtain ⟨t, k, rfl, tl, hk, q⟩ := h
    refine ⟨_, pss_cons (ps_if (pt_cmpR op_eq (pe_call C.G hr (by rfl) C.g C.kp C.b .nil pass0 (pa_cons (pv 0) (pa_cons (pv 1) pa_nil))) pe_str (nomark _)) (pss_one (ps_ret (pe_op op_add (pv 1) pe_int))) pss_nil)
      (pss_one (ps_ret (pe_call D.G hr (by rfl) D.g D.kp D.b .nil pass0 (pa_cons (pv 0) (pa_cons (pv 1) pa_nil))))), ?_⟩
    unfold ie at q
    refine ⟨_, rfl, _, rfl, t, k, rfl, tl, rfl, _, rfl, ?_⟩
    rw [at1_eq (n := 48) (by decide +kernel)]
    refine ite2 (fun h => ?_) (fun h => ?_)
    · rw [if_pos (of_decide_eq_true h)] at q
      exact ⟨_, rfl, _, _, rfl, rfl, q⟩
    · rw [if_neg (fun z => h (decide_eq_true z))] at q
      exact ⟨_, rfl, _, rfl, t, k, rfl, tl, hk, q⟩
end
end Fk

set_option Elab.async false
set_option maxRecDepth 100000
namespace Fk
open PySem L2
abbrev sReadTerm : Stmt := top 44
def pows : Str := "23456"
theorem digs19 : (cutS digs (some 1) none).cps.toList = d19 := by decide +kernel
theorem pows26 : pows.cps.toList = d26 := by decide +kernel
theorem isIn_lt {cs : List Nat} {k : Nat} {y : List Nat} (h : isIn cs k y = true) : k < cs.length := by
  unfold isIn at h
  cases hc : cs[k]? with
  | none =>
    rw [hc] at h
    cases h
  | some c => exact (List.getElem?_eq_some_iff.mp hc).1
theorem isIn_some {cs : List Nat} {k : Nat} {y : List Nat} (h : isIn cs k y = true) : ∃ c, cs[k]? = some c ∧ c ∈ y := by
  unfold isIn at h
  cases hc : cs[k]? with
  | none =>
    rw [hc] at h
    cases h
  | some c =>
    rw [hc] at h
    exact ⟨c, rfl, of_decide_eq_true h⟩
theorem int26 {c : Nat} (h : c ∈ d26) : intText? (⟨#[c]⟩ : Str) = some ((c - 48 : Nat) : Int) := by
  unfold d26 at h
  simp only [List.mem_cons, List.not_mem_nil, or_false] at h
  rcases h with rfl | rfl | rfl | rfl | rfl <;> decide +kernel
inductive Rt
  | bad (col : Nat)
  | ok (ab be : List Nat) (pw e : Nat)
def rt (cs : List Nat) (k : Nat) : Rt := if isIn cs k digs.cps.toList = true then (match rr cs k with
    | .bad c => .bad c
    | .ok ab be e => if cs[e]? = some 42 then (match rp cs (e + 1) with
      | .bad c => .bad c
      | .ok pw e2 => .ok ab be pw e2) else .ok ab be 0 e)
  else (match rp cs k with
    | .bad c => .bad c
    | .ok pw e2 => .ok [49] [49] pw e2)
theorem rr_le {cs : List Nat} {k e : Nat} {ab be : List Nat} (hk : k ≤ cs.length) (h : rr cs k = .ok ab be e) : k ≤ e ∧ e ≤ cs.length := by
  have h1 := ie_le hk
  have h2 := ie_ge cs k
  unfold rr at h
  split at h
  · split at h
    · rename_i g
      have g2 := isIn_lt g
      cases h
      have h3 := dend_ge cs (ie cs k + 1)
      exact ⟨by omega, dend_le (by omega)⟩
    · cases h
  · cases h
    exact ⟨h2, h1⟩
theorem rp_le {cs : List Nat} {k e pw : Nat} (h : rp cs k = .ok pw e) : k < e ∧ e ≤ cs.length := by
  unfold rp at h
  split at h
  · rename_i g
    have g1 := (List.getElem?_eq_some_iff.mp g).1
    split at h
    · split at h
      · rename_i g2
        have g3 := isIn_lt g2
        cases h
        omega
      · cases h
    · cases h
      omega
  · cases h
theorem rt_le {cs : List Nat} {k e pw : Nat} {ab be : List Nat} (hk : k ≤ cs.length) (h : rt cs k = .ok ab be pw e) : k ≤ e ∧ e ≤ cs.length := by
  unfold rt at h
  split at h
  · split at h
    · cases h
    · rename_i ab' be' e' hr
      have h1 := rr_le hk hr
      split at h
      · split at h
        · cases h
        · rename_i pw' e2 hp
          have h2 := rp_le hp
          cases h
          omega
      · cases h
        exact h1
  · split at h
    · cases h
    · rename_i pw' e2 hp
      have h2 := rp_le hp
      cases h
      omega
def spReadTerm (CB : Addr) : Sp := fun vs H Q E => ∃ (t : Str) (k : Nat), vs = [.str t, .int k] ∧ t.length ≤ 20000 ∧ k ≤ t.length ∧ (match rt t.cps.toList k with
  | .bad col => Bads CB H E col
  | .ok ab be pw e => ∀ (p q : Addr) (H' : Hp) (x y : Str), Same H H' → H' p = some (.tup [.ref q, .int e]) → H' q = some (.tup [.str x, .str y, .int pw]) → x.cps.toList = ab → y.cps.toList = be → Q (.ref p) H')
theorem raiseB {CB : Addr} {H : Hp} {Q : XK} {col : Nat} (k : Bads CB H Q col) :
    ([V.int 1, V.int col] : List V).length ≤ 1000 ∧ ∀ a, H a = none → spIni CB badFs (.ref a :: ([V.int 1, V.int col] ++ [])) (upd H a (exo a CB none))
      (fun v H2 => v = .non ∧ ∃ (d : Addr) (fs : List (Str × V)), H2 a = some (exo a CB (some d)) ∧ H2 d = some (exd d fs) ∧ H d = none ∧ Q (.ref CB) (some d) (upd (L2.del H2 a) d (.xd fs))) (fun _ _ _ => False) :=
  raise_ok (C := CB) (names := badFs) (ws := [V.int 1, V.int col]) rfl (by show 2 ≤ 1000; decide) k
section
variable {P : Program} {w : World} {K : PySem.W.Frag} {mg : Str → Option Value} {base : Heap}
theorem scReadRatio : FnScope ["text", "start", "end", "last"] psTS (defScope sReadRatio) := ⟨rfl, rfl, rfl, by decide +kernel, rfl, by decide +kernel, by decide +kernel⟩
theorem ok_readratio {f CB gB fI fC fO fD : Addr} {fd dB dI dC dO dD : FuncData} {tk : Tok} (F : Fun K "read_ratio" "read_ratio" sReadRatio f fd) (EB : Err P w K mg base "BadText" badFs CB gB dB)
    (I : Cl P w K mg base "integer_end" psTS 2 spIntEnd fI dI) (C : Cl P w K mg base "char_at" psCA 1 spCharAt fC dC) (O : Cl P w K mg base "is_one_of" psOO 1 spOneOf fO dO) (D : Cl P w K mg base "digits_end" psTS 1 spDend fD dD)
    (mD : mg "DIGITS" = some (.str digs tk)) : FnOk P w K mg base (L2.CX P w) 3 f fd psTS (spReadRatio CB) := by
  refine F.okX scReadRatio (fun vs H Q E h => ?_) (fun cdv A outer s H vs Q E hr h => ?_)
  · obtain ⟨t, k, rfl, _⟩ := h
    rfl
  · obtain ⟨t, k, rfl, tl, hk, q⟩ := h
    have hr1 : Room 1 _ := hr.mono (by decide)
    refine ⟨_, pss_cons (ps_set (i := 2) scReadRatio.nd rfl (Or.inl rfl) (pe_call I.G hr (by rfl) I.g I.kp I.b .nil pass0 (pa_cons (pv 0) (pa_cons (pv 1) pa_nil))))
      (pss_cons (ps_if (pt_cmpR op_ne (pe_call C.G hr1 (by rfl) C.g C.kp C.b .nil pass0 (pa_cons (pv 0) (pa_cons (pv 2) pa_nil))) pe_str (nomark _)) (pss_one (ps_ret (pe_tup (pa_cons (pe_slice sl_str (pv 0) (po_some (pv 1)) (po_some (pv 2))) (pa_cons pe_str (pa_cons (pv 2) pa_nil)))))) pss_nil)
      (pss_cons (ps_if (pt_not (pt_val (pe_call O.G hr1 (by rfl) O.g O.kp O.b .nil pass0 (pa_cons (pe_call C.G hr1 (by rfl) C.g C.kp C.b .nil pass0 (pa_cons (pv 0) (pa_cons (pe_op op_add (pv 2) pe_int) pa_nil))) (pa_cons (pe_slice sl_str (pe_glob (v := .str digs) (by rfl) mD ⟨_, rfl⟩) (po_some pe_int) po_none) pa_nil)))))
          (pss_one (ps_raise rfl (takes_of rfl rfl rfl rfl) (pmk_oex EB.ox EB.iC EB.tI EB.G hr EB.b .nil pass0 (by rfl) EB.g (pa_cons pe_int (pa_cons (pe_op op_add (pv 2) pe_int) pa_nil))))) pss_nil)
      (pss_cons (ps_set (i := 3) scReadRatio.nd rfl (Or.inl rfl) (pe_call D.G hr1 (by rfl) D.g D.kp D.b .nil pass0 (pa_cons (pv 0) (pa_cons (pe_op op_add (pv 2) pe_int) pa_nil))))
      (pss_one (ps_ret (pe_tup (pa_cons (pe_slice sl_str (pv 0) (po_some (pv 1)) (po_some (pv 2))) (pa_cons (pe_slice sl_str (pv 0) (po_some (pe_op op_add (pv 2) pe_int)) (po_some (pv 3))) (pa_cons (pv 3) pa_nil))))))))), ?_⟩
    have zl := tl_len t
    have szl : t.length ≤ sizeLine := Nat.le_trans tl (by decide)
    generalize hcs : t.cps.toList = cs at *
    have mle := ie_le (cs := cs) (k := k) (by omega)
    have mge := ie_ge cs k
    refine ⟨_, rfl, _, rfl, t, k, rfl, tl, hk, ?_⟩
    rw [hcs]
    unfold rr at q
    generalize hm : ie cs k = m at q mle mge ⊢
    refine ⟨_, rfl, _, rfl, t, m, rfl, tl, rfl, _, rfl, ?_⟩
    rw [hcs, at1_eq (n := 47) (by decide +kernel)]
    by_cases h47 : cs[m]? = some 47
    · rw [decide_eq_true h47]
      rw [if_pos h47] at q
      refine iteF ?_
      refine ⟨_, rfl, _, rfl, _, _, rfl, rfl, t, m + 1, rfl, tl, _, rfl, digs, rfl, by decide +kernel, cs, m + 1, cutS digs (some 1) none, by rw [hcs]; rfl, ?_⟩
      rw [digs19]
      refine ⟨_, rfl, ?_⟩
      cases hi : isIn cs (m + 1) d19 with
      | false =>
        rw [hi, if_neg Bool.false_ne_true] at q
        exact iteT ⟨_, rfl, _, _, rfl, rfl, raiseB q⟩
      | true =>
        rw [hi, if_pos rfl] at q
        have lt := isIn_lt hi
        have hle := dend_le (cs := cs) (k := m + 1) (by omega)
        refine iteF ⟨_, rfl, _, rfl, _, _, rfl, rfl, t, m + 1, rfl, tl, by omega, ?_⟩
        rw [hcs]
        refine ⟨_, rfl, _, rfl, _, rfl, _, rfl, _, rfl, t, rfl, szl, _, rfl, _, rfl, _, _, rfl, rfl, _, rfl, _, rfl, _, rfl, t, rfl, szl, _, rfl, by show 3 ≤ sizeLine; decide, fun p hp => q p _ _ _ (same_new hp) upd_same ?_ ?_⟩
        · rw [cutS_two t (by omega) (by omega), hcs]
        · have z := cutS_two t (a := m + 1) (b := dend cs (m + 1)) (by omega) (by omega)
          rw [hcs] at z
          exact z
    · rw [decide_eq_false h47]
      rw [if_neg h47] at q
      refine iteT ⟨_, rfl, _, rfl, _, rfl, _, rfl, _, rfl, t, rfl, szl, _, rfl, by show 3 ≤ sizeLine; decide, fun p hp => q p _ _ _ (same_new hp) upd_same ?_ (by decide +kernel)⟩
      rw [cutS_two t (by omega) (by omega), hcs]
end
end Fk

set_option Elab.async false
set_option maxRecDepth 100000
namespace Fk
open PySem L2
section
variable {P : Program} {w : World} {K : PySem.W.Frag} {mg : Str → Option Value} {base : Heap}
theorem scReadPower : FnScope ["text", "start", "digit"] psTS (defScope sReadPower) := ⟨rfl, rfl, rfl, by decide +kernel, rfl, by decide +kernel, by decide +kernel⟩
theorem ok_readpower {f CB gB fC fO : Addr} {fd dB dC dO : FuncData} {tk : Tok} (F : Fun K "read_power" "read_power" sReadPower f fd) (EB : Err P w K mg base "BadText" badFs CB gB dB)
    (C : Cl P w K mg base "char_at" psCA 1 spCharAt fC dC) (O : Cl P w K mg base "is_one_of" psOO 1 spOneOf fO dO)
    (mP : mg "POWERS" = some (.str pows tk)) (mn : mg "int" = none) : FnOk P w K mg base (L2.CX P w) 3 f fd psTS (spReadPower CB) := by
  refine F.okX scReadPower (fun vs H Q E h => ?_) (fun cdv A outer s H vs Q E hr h => ?_)
  · obtain ⟨t, k, rfl, _⟩ := h
    rfl
  · obtain ⟨t, k, rfl, tl, q⟩ := h
    have hr1 : Room 1 _ := hr.mono (by decide)
    refine ⟨_, pss_cons (ps_if (pt_cmpR op_ne (pe_call C.G hr1 (by rfl) C.g C.kp C.b .nil pass0 (pa_cons (pv 0) (pa_cons (pv 1) pa_nil))) pe_str (nomark _))
          (pss_one (ps_raise rfl (takes_of rfl rfl rfl rfl) (pmk_oex EB.ox EB.iC EB.tI EB.G hr EB.b .nil pass0 (by rfl) EB.g (pa_cons pe_int (pa_cons (pe_op op_add (pv 1) pe_int) pa_nil))))) pss_nil)
      (pss_cons (ps_if (pt_cmpR op_ne (pe_call C.G hr1 (by rfl) C.g C.kp C.b .nil pass0 (pa_cons (pv 0) (pa_cons (pe_op op_add (pv 1) pe_int) pa_nil))) pe_str (nomark _)) (pss_one (ps_ret (pe_tup (pa_cons pe_int (pa_cons (pe_op op_add (pv 1) pe_int) pa_nil))))) pss_nil)
      (pss_cons (ps_set (i := 2) scReadPower.nd rfl (Or.inl rfl) (pe_call C.G hr1 (by rfl) C.g C.kp C.b .nil pass0 (pa_cons (pv 0) (pa_cons (pe_op op_add (pv 1) pe_int) pa_nil))))
      (pss_cons (ps_if (pt_not (pt_val (pe_call O.G hr1 (by rfl) O.g O.kp O.b .nil pass0 (pa_cons (pv 2) (pa_cons (pe_glob (v := .str pows) (by rfl) mP ⟨_, rfl⟩) pa_nil)))))
          (pss_one (ps_raise rfl (takes_of rfl rfl rfl rfl) (pmk_oex EB.ox EB.iC EB.tI EB.G hr EB.b .nil pass0 (by rfl) EB.g (pa_cons pe_int (pa_cons (pe_op op_add (pv 1) pe_int) pa_nil))))) pss_nil)
      (pss_one (ps_ret (pe_tup (pa_cons (pe_callTy call_int_str (by rfl) mn (by decide +kernel) (pa_cons (pv 2) pa_nil)) (pa_cons (pe_op op_add (pv 1) pe_int) pa_nil)))))))), ?_⟩
    generalize hcs : t.cps.toList = cs at *
    unfold rp at q
    refine ⟨_, rfl, _, rfl, t, k, rfl, tl, rfl, _, rfl, ?_⟩
    rw [hcs, at1_eq (n := 101) (by decide +kernel)]
    by_cases h1 : cs[k]? = some 101
    · rw [decide_eq_true h1]
      rw [if_pos h1] at q
      refine iteF ?_
      refine ⟨_, rfl, _, rfl, _, _, rfl, rfl, t, k + 1, rfl, tl, rfl, _, rfl, ?_⟩
      rw [hcs, at1_eq (n := 94) (by decide +kernel)]
      by_cases h2 : cs[k + 1]? = some 94
      · rw [decide_eq_true h2]
        rw [if_pos h2] at q
        refine iteF ?_
        refine ⟨_, rfl, _, rfl, _, _, rfl, rfl, t, k + 2, rfl, tl, ?_⟩
        rw [hcs]
        refine ⟨_, rfl, cs, k + 2, pows, rfl, ?_⟩
        rw [pows26]
        refine ⟨_, rfl, ?_⟩
        cases hi : isIn cs (k + 2) d26 with
        | false =>
          rw [hi, if_neg Bool.false_ne_true] at q
          exact iteT ⟨_, rfl, _, _, rfl, rfl, raiseB q⟩
        | true =>
          rw [hi, if_pos rfl] at q
          obtain ⟨c, hc, hm⟩ := isIn_some hi
          have e : at1 cs (k + 2) = (⟨#[c]⟩ : Str) := by
            unfold at1
            rw [hc]
          have eg : cs.getD (k + 2) 0 = c := by
            rw [List.getD_eq_getElem?_getD, hc]
            rfl
          rw [eg] at q
          refine iteF ⟨_, rfl, _, _, rfl, by rw [e]; exact int26 hm, by rw [e]; exact (show 1 ≤ 640 by decide), _, rfl, _, _, rfl, rfl, by show 2 ≤ sizeLine; decide, fun p hp => q p _ (same_new hp) upd_same⟩
      · rw [decide_eq_false h2]
        rw [if_neg h2] at q
        exact iteT ⟨_, rfl, _, _, rfl, rfl, by show 2 ≤ sizeLine; decide, fun p hp => q p _ (same_new hp) upd_same⟩
    · rw [decide_eq_false h1]
      rw [if_neg h1] at q
      exact iteT ⟨_, rfl, _, _, rfl, rfl, raiseB q⟩
theorem scReadTerm : FnScope ["text", "start", "above", "below", "at", "power"] psTS (defScope sReadTerm) := ⟨rfl, rfl, rfl, by decide +kernel, rfl, by decide +kernel, by decide +kernel⟩
theorem ok_readterm {f CB gB fC fO fR fP : Addr} {fd dB dC dO dR dP : FuncData} {tk : Tok} (F : Fun K "read_term" "read_term" sReadTerm f fd) (EB : Err P w K mg base "BadText" badFs CB gB dB)
    (C : Cl P w K mg base "char_at" psCA 1 spCharAt fC dC) (O : Cl P w K mg base "is_one_of" psOO 1 spOneOf fO dO)
    (RG : FnOk P w K mg base (L2.CX P w) 3 fR dR psTS (spReadRatio CB)) (Rg : mg "read_ratio" = some (.ref fR)) (Rk : PySem.W.keepIn K (.ref fR) = true) (Rb : Binds K dR psTS [])
    (PG : FnOk P w K mg base (L2.CX P w) 3 fP dP psTS (spReadPower CB)) (Pg : mg "read_power" = some (.ref fP)) (Pk : PySem.W.keepIn K (.ref fP) = true) (Pb : Binds K dP psTS [])
    (mD : mg "DIGITS" = some (.str digs tk)) : FnOk P w K mg base (L2.CX P w) 4 f fd psTS (spReadTerm CB) := by
  refine F.okX scReadTerm (fun vs H Q E h => ?_) (fun cdv A outer s H vs Q E hr h => ?_)
  · obtain ⟨t, k, rfl, _⟩ := h
    rfl
  · obtain ⟨t, k, rfl, tl, hk, q⟩ := h
    have hr1 : Room 1 _ := hr.mono (by decide)
    refine ⟨_, pss_cons (ps_par3 (i := 2) (j := 3) (l := 4) (by rfl) scReadTerm.nd rfl rfl rfl (by decide) (by decide) (by decide) rfl rfl rfl (pa_cons pe_str (pa_cons pe_str (pa_cons (pv 1) pa_nil))) (by rfl))
      (C8.pss_cut (ps_if (pt_val (pe_call O.G hr1 (by rfl) O.g O.kp O.b .nil pass0 (pa_cons (pe_call C.G hr1 (by rfl) C.g C.kp C.b .nil pass0 (pa_cons (pv 0) (pa_cons (pv 1) pa_nil))) (pa_cons (pe_glob (v := .str digs) (by rfl) mD ⟨_, rfl⟩) pa_nil))))
          (pss_cons (ps_asg (pe_callS RG hr (by rfl) Rg Rk Rb (passAt (takes_of rfl rfl rfl rfl)) (pa_cons (pv 0) (pa_cons (pv 1) pa_nil))) (pg_tup (by rfl) (pgs_cons (pg_name (i := 2) scReadTerm.nd rfl (Or.inl rfl)) (pgs_cons (pg_name (i := 3) scReadTerm.nd rfl (Or.inl rfl)) (pgs_cons (pg_name (i := 4) scReadTerm.nd rfl (Or.inl rfl)) pgs_nil)))))
          (pss_cons (ps_if (pt_cmpR op_ne (pe_call C.G hr1 (by rfl) C.g C.kp C.b .nil pass0 (pa_cons (pv 0) (pa_cons (pv 4) pa_nil))) pe_str (nomark _)) (pss_one (ps_ret (pe_tup (pa_cons (pe_tup (pa_cons (pv 2) (pa_cons (pv 3) (pa_cons pe_int pa_nil)))) (pa_cons (pv 4) pa_nil))))) pss_nil)
          (pss_one (ps_set (i := 4) scReadTerm.nd rfl (Or.inl rfl) (pe_op op_add (pv 4) pe_int))))) pss_nil)
      (pss_cons (ps_asg (pe_callS PG hr (by rfl) Pg Pk Pb (passAt (takes_of rfl rfl rfl rfl)) (pa_cons (pv 0) (pa_cons (pv 4) pa_nil))) (pg_tup (by rfl) (pgs_cons (pg_name (i := 5) scReadTerm.nd rfl (Or.inl rfl)) (pgs_cons (pg_name (i := 4) scReadTerm.nd rfl (Or.inl rfl)) pgs_nil))))
      (pss_one (ps_ret (pe_tup (pa_cons (pe_tup (pa_cons (pv 2) (pa_cons (pv 3) (pa_cons (pv 5) pa_nil)))) (pa_cons (pv 4) pa_nil))))))), ?_⟩
    have zl := tl_len t
    generalize hcs : t.cps.toList = cs at *
    unfold rt at q
    refine ⟨_, rfl, _, _, _, rfl, ?_⟩
    refine ⟨fun σ' H' => Same H H' ∧ ∃ (x y : Str) (e : Nat), σ' = [some (.str t), some (.int k), some (.str x), some (.str y), some (.int e), none] ∧ (match rp cs e with
      | .bad c => Bads CB H E c
      | .ok pw e2 => ∀ (p q : Addr) (H' : Hp) (x' y' : Str), Same H H' → H' p = some (.tup [.ref q, .int e2]) → H' q = some (.tup [.str x', .str y', .int pw]) → x'.cps.toList = x.cps.toList → y'.cps.toList = y.cps.toList → Q (.ref p) H'), ?_, ?_⟩
    · refine ⟨_, rfl, _, rfl, t, k, rfl, tl, ?_⟩
      rw [hcs]
      refine ⟨cs, k, digs, rfl, _, rfl, ?_⟩
      cases hi : isIn cs k digs.cps.toList with
      | false =>
        rw [hi, if_neg Bool.false_ne_true] at q
        refine iteF ⟨Same.refl H, "1", "1", k, rfl, ?_⟩
        cases hp : rp cs k with
        | bad c =>
          rw [hp] at q
          exact q
        | ok pw e2 =>
          rw [hp] at q
          exact fun p q' H' x' y' hs h1 h2 e1 e2 => q p q' H' x' y' hs h1 h2 (e1.trans (by decide +kernel)) (e2.trans (by decide +kernel))
      | true =>
        rw [hi, if_pos rfl] at q
        refine iteT ⟨_, rfl, _, rfl, t, k, rfl, tl, hk, ?_⟩
        rw [hcs]
        cases hr0 : rr cs k with
        | bad c =>
          rw [hr0] at q
          exact q
        | ok ab be e =>
          rw [hr0] at q
          dsimp only at q
          intro p H' x y hs hp ex ey
          refine ⟨p, _, rfl, Or.inl (Or.inl hp), rfl, _, _, rfl, _, _, rfl, _, _, rfl, rfl, ?_⟩
          refine ⟨_, rfl, _, rfl, t, e, rfl, tl, rfl, _, rfl, ?_⟩
          rw [hcs, at1_eq (n := 42) (by decide +kernel)]
          by_cases h42 : cs[e]? = some 42
          · rw [decide_eq_true h42]
            rw [if_pos h42] at q
            refine iteF ⟨_, rfl, _, _, rfl, rfl, hs, x, y, e + 1, rfl, ?_⟩
            cases hp2 : rp cs (e + 1) with
            | bad c =>
              rw [hp2] at q
              exact q
            | ok pw e2 =>
              rw [hp2] at q
              exact fun p q' H' x' y' hs h1 h2 e1 e2 => q p q' H' x' y' hs h1 h2 (e1.trans ex) (e2.trans ey)
          · rw [decide_eq_false h42]
            rw [if_neg h42] at q
            refine iteT ⟨_, rfl, _, rfl, by show 3 ≤ sizeLine; decide, fun p1 hp1 => ⟨_, rfl, by show 2 ≤ sizeLine; decide, fun p2 hp2 => ?_⟩⟩
            exact q p2 p1 _ x y ((hs.trans (same_new hp1)).trans (same_new hp2)) upd_same (same_new hp2 _ _ upd_same) ex ey
    · rintro σ1 H1 ⟨hs, x, y, e, rfl, kk⟩
      refine ⟨_, rfl, _, rfl, t, e, rfl, tl, ?_⟩
      rw [hcs]
      cases hp : rp cs e with
      | bad c =>
        rw [hp] at kk
        exact kk.mono hs
      | ok pw e2 =>
        rw [hp] at kk
        intro p H2 s2 h2
        refine ⟨p, _, rfl, Or.inl (Or.inl h2), rfl, _, _, rfl, _, _, rfl, rfl, ?_⟩
        refine ⟨_, rfl, _, rfl, _, rfl, by show 3 ≤ sizeLine; decide, fun p1 hp1 => ⟨_, rfl, by show 2 ≤ sizeLine; decide, fun p2 hp2 => ?_⟩⟩
        exact kk p2 p1 _ x y (((hs.trans s2).trans (same_new hp1)).trans (same_new hp2)) upd_same (same_new hp2 _ _ upd_same) rfl rfl
end
end Fk

set_option Elab.async false
set_option maxRecDepth 100000
namespace Fk
open PySem L2
/-! ### read_terms -/
abbrev sReadTerms : Stmt := top 45
structure Tm where
  sg : Int
  ab : List Nat
  be : List Nat
  pw : Nat
inductive Rs
  | bad (col : Nat)
  | ok (ts : List Tm)
def rts : Nat → List Nat → Nat → Int → List Tm → Rs
  | 0, _, _, _, _ => .bad 0
  | f + 1, cs, k, s, acc => match rt cs k with
    | .bad c => .bad c
    | .ok ab be pw e => if e = cs.length then .ok (acc ++ [⟨s, ab, be, pw⟩]) else if isIn cs e [43, 45] = true then rts f cs (e + 1) (if cs[e]? = some 43 then 1 else -1) (acc ++ [⟨s, ab, be, pw⟩]) else .bad (e + 1)
def TmAt (H : Hp) (p : Addr) (tm : Tm) : Prop := ∃ x y : Str, H p = some (.tup [.int tm.sg, .str x, .str y, .int tm.pw]) ∧ x.cps.toList = tm.ab ∧ y.cps.toList = tm.be
def TermsAt (H : Hp) (l : Addr) (ts : List Tm) : Prop := ∃ ps : List Addr, H l = some (.lst (ps.map V.ref)) ∧ Paired (TmAt H) ps ts
theorem Paired.imp {α β : Type} {R S : α → β → Prop} (h : ∀ a b, R a b → S a b) : ∀ {xs : List α} {ys : List β}, Paired R xs ys → Paired S xs ys
  | _, _, .nil => .nil
  | _, _, .cons a r => .cons (h _ _ a) (Paired.imp h r)
theorem Paired.snoc {α β : Type} {R : α → β → Prop} {a : α} {b : β} (h : R a b) : ∀ {xs : List α} {ys : List β}, Paired R xs ys → Paired R (xs ++ [a]) (ys ++ [b])
  | _, _, .nil => .cons h .nil
  | _, _, .cons c r => .cons c (Paired.snoc h r)
theorem Paired.len {α β : Type} {R : α → β → Prop} : ∀ {xs : List α} {ys : List β}, Paired R xs ys → xs.length = ys.length
  | _, _, .nil => rfl
  | _, _, .cons _ r => congrArg (· + 1) (Paired.len r)
theorem TmAt.same {H H' : Hp} {p : Addr} {tm : Tm} (h : TmAt H p tm) (s : Same H H') : TmAt H' p tm := by
  obtain ⟨x, y, a, b, c⟩ := h
  exact ⟨x, y, s _ _ a, b, c⟩
theorem TermsAt.same {H H' : Hp} {l : Addr} {ts : List Tm} (h : TermsAt H l ts) (s : Same H H') : TermsAt H' l ts := by
  obtain ⟨ps, a, b⟩ := h
  exact ⟨ps, s _ _ a, Paired.imp (fun _ _ z => z.same s) b⟩
theorem TmAt.upd {H : Hp} {l p : Addr} {tm : Tm} {xs : List V} {o : HO} (h : TmAt H p tm) (hl : H l = some (.lst xs)) : TmAt (L2.upd H l o) p tm := by
  obtain ⟨x, y, a, b, c⟩ := h
  refine ⟨x, y, ?_, b, c⟩
  rw [upd_ne (fun e => by rw [e, hl] at a; cases a)]
  exact a
def spReadTerms (CB : Addr) : Sp := fun vs H Q E => ∃ t : Str, vs = [.str t] ∧ t.length ≤ 20000 ∧ (match rts (t.length + 2) t.cps.toList (st t.cps.toList) (sgn (st t.cps.toList)) [] with
  | .bad col => Bads CB H E col
  | .ok ts => ∀ (l : Addr) (H' : Hp), Same H H' → TermsAt H' l ts → Q (.ref l) H')
theorem starts (t : Str) : Txt.startswith t "-" = decide (t.cps.toList.head? = some 45) := by
  have hy : TL.tl ("-" : Str) = [45] := by decide +kernel
  have z := TL.at_iff (x := t) (y := "-") (by rw [hy]; exact fun z => nomatch z) 0
  rw [hy, List.drop_zero] at z
  have e : Txt.startswith t "-" = true ↔ TL.pre [45] (TL.tl t) = true := by
    rw [← z]
    unfold Txt.startswith
    rw [Bool.and_eq_true, decide_eq_true_eq]
    exact Iff.rfl
  have e2 : TL.pre [45] (TL.tl t) = true ↔ t.cps.toList.head? = some 45 := by
    show ((t.cps.toList.take 1 == [45]) = true) ↔ _
    rw [beq_iff_eq]
    cases t.cps.toList with
    | nil => exact ⟨(fun z => nomatch z), (fun z => nomatch z)⟩
    | cons c r =>
      show [c] = [45] ↔ some c = some 45
      constructor
      · intro z
        rw [(List.cons.inj z).1]
      · intro z
        rw [Option.some.inj z]
  have e3 := e.trans e2
  by_cases h : t.cps.toList.head? = some 45
  · rw [decide_eq_true h, e3.mpr h]
  · rw [decide_eq_false h]
    cases q : Txt.startswith t "-" with
    | false => rfl
    | true => exact absurd (e3.mp q) h
theorem pm_list : ("+-" : Str).cps.toList = [43, 45] := by decide +kernel
section
variable {P : Program} {w : World} {K : PySem.W.Frag} {mg : Str → Option Value} {base : Heap}
theorem scReadTerms : FnScope ["text", "terms", "at", "sign", "above", "below", "power"] ["text"] (defScope sReadTerms) := ⟨rfl, rfl, rfl, by decide +kernel, rfl, by decide +kernel, by decide +kernel⟩
theorem ok_readterms {f CB gB fO fT : Addr} {fd dB dO dT : FuncData} (F : Fun K "read_terms" "read_terms" sReadTerms f fd) (EB : Err P w K mg base "BadText" badFs CB gB dB) (O : Cl P w K mg base "is_one_of" psOO 1 spOneOf fO dO)
    (TG : FnOk P w K mg base (L2.CX P w) 4 fT dT psTS (spReadTerm CB)) (Tg : mg "read_term" = some (.ref fT)) (Tk : PySem.W.keepIn K (.ref fT) = true) (Tb : Binds K dT psTS []) (ml : mg "len" = none) : FnOk P w K mg base (L2.CX P w) 5 f fd ["text"] (spReadTerms CB) := by
  refine F.okX scReadTerms (fun vs H Q E h => ?_) (fun cdv A outer s H vs Q E hr h => ?_)
  · obtain ⟨t, rfl, _⟩ := h
    rfl
  · obtain ⟨t, rfl, tl, q⟩ := h
    have hr1 : Room 1 _ := hr.mono (by decide)
    refine ⟨_, pss_cons (ps_set (i := 1) scReadTerms.nd rfl (Or.inl rfl) (pe_lst pa_nil))
      (pss_cons (ps_set (i := 2) scReadTerms.nd rfl (Or.inl rfl) pe_int)
      (pss_cons (ps_set (i := 3) scReadTerms.nd rfl (Or.inl rfl) pe_int)
      (C8.pss_cut (ps_if (pt_val (pe_bm PySem.F.plainAttrs_str PySem.F.slot_str_startswith PySem.F.type_str_startswith mt_startswith (pv 0) (pa_cons pe_str pa_nil))) (pss_cons (ps_set (i := 2) scReadTerms.nd rfl (Or.inl rfl) pe_int) (pss_one (ps_set (i := 3) scReadTerms.nd rfl (Or.inl rfl) (pe_un un_neg pe_int)))) pss_nil)
      (pss_one (ps_while (passes_of rfl) (pt_val pe_bl)
        (pss_cons (ps_asg (pe_callS TG hr (by rfl) Tg Tk Tb (passAt (takes_of rfl rfl rfl rfl)) (pa_cons (pv 0) (pa_cons (pv 2) pa_nil))) (pg_tup (by rfl) (pgs_cons (pg_tup (by rfl) (pgs_cons (pg_name (i := 4) scReadTerms.nd rfl (Or.inl rfl)) (pgs_cons (pg_name (i := 5) scReadTerms.nd rfl (Or.inl rfl)) (pgs_cons (pg_name (i := 6) scReadTerms.nd rfl (Or.inl rfl)) pgs_nil)))) (pgs_cons (pg_name (i := 2) scReadTerms.nd rfl (Or.inl rfl)) pgs_nil))))
        (pss_cons (ps_expr (pe_bm PySem.F.plainAttrs_list PySem.F.slot_list_append PySem.F.type_list_append mt_append (pv 1) (pa_cons (pe_tup (pa_cons (pv 3) (pa_cons (pv 4) (pa_cons (pv 5) (pa_cons (pv 6) pa_nil))))) pa_nil)))
        (pss_cons (ps_if (pt_cmpR op_eq (pv 2) (pe_callB call_len_str (by rfl) ml PySem.boot_len (pa_cons (pv 0) pa_nil)) (nomark _)) (pss_one (ps_ret (pv 1))) pss_nil)
        (pss_cons (ps_if (pt_not (pt_val (pe_call O.G hr1 (by rfl) O.g O.kp O.b .nil pass0 (pa_cons (pe_item_str (pv 0) (pv 2) (fun _ _ => rfl)) (pa_cons pe_str pa_nil))))) (pss_one (ps_raise rfl (takes_of rfl rfl rfl rfl) (pmk_oex EB.ox EB.iC EB.tI EB.G (hr.mono (by decide)) EB.b .nil pass0 (by rfl) EB.g (pa_cons pe_int (pa_cons (pe_op op_add (pv 2) pe_int) pa_nil))))) pss_nil)
        (pss_cons (ps_set (i := 3) scReadTerms.nd rfl (Or.inl rfl) (pe_ifExp (pt_cmpR op_eq (pe_item_str (pv 0) (pv 2) (fun _ _ => rfl)) pe_str (nomark _)) pe_int (pe_un un_neg pe_int)))
        (pss_one (ps_set (i := 2) scReadTerms.nd rfl (Or.inl rfl) (pe_op op_add (pv 2) pe_int))))))))))))), ?_⟩
    have zl := tl_len t
    have szl : t.length ≤ sizeLine := Nat.le_trans tl (by decide)
    generalize hcs : t.cps.toList = cs at *
    refine ⟨by show 0 ≤ sizeLine; decide, fun l hl => ?_⟩
    refine ⟨fun σ' H' => H' = upd H l (.lst []) ∧ σ' = [some (.str t), some (.ref l), some (.int (st cs : Nat)), some (.int (sgn (st cs))), none, none, none], ?_, ?_⟩
    · refine ⟨_, rfl, rfl, _, _, rfl, rfl, _, rfl, ?_⟩
      rw [starts, hcs]
      refine ite2 (fun h => ?_) (fun h => ?_)
      · have e : st cs = 1 := if_pos (of_decide_eq_true h)
        rw [e]
        exact ⟨_, rfl, rfl, rfl⟩
      · have e : st cs = 0 := if_neg (fun z => h (decide_eq_true z))
        rw [e]
        exact ⟨rfl, rfl⟩
    rintro σ1 H1 ⟨rfl, rfl⟩
    have s0 := same_new (o := .lst []) hl
    generalize hR : rts (t.length + 2) cs (st cs) (sgn (st cs)) [] = R at q
    have sle := st_le cs
    refine while_by (fun σ H' => ∃ (f at_ : Nat) (sg : Int) (acc : List Tm) (v4 v5 v6 : Option V), σ = [some (.str t), some (.ref l), some (.int at_), some (.int sg), v4, v5, v6] ∧ Same H H' ∧ TermsAt H' l acc ∧ at_ ≤ cs.length ∧ cs.length + 1 ≤ f + at_ ∧ acc.length ≤ at_ ∧ rts f cs at_ sg acc = R) (fun σ _ => match σ with
      | [_, _, some (.int a), _, _, _, _] => cs.length + 1 - a.toNat
      | _ => 0) ⟨t.length + 2, st cs, sgn (st cs), [], none, none, none, rfl, s0, ⟨[], upd_same, .nil⟩, sle, by omega, Nat.zero_le _, hR⟩ ?_ ?_
    · rintro σ H2 ⟨f, at_, sg, acc, v4, v5, v6, rfl, s2, ⟨ps, hl2, hps⟩, h1, h2, h3, hf⟩
      refine ⟨true, rfl, iteT ?_⟩
      refine ⟨_, rfl, _, rfl, t, at_, rfl, tl, by omega, ?_⟩
      rw [hcs]
      obtain ⟨f, rfl⟩ : ∃ g, f = g + 1 := ⟨f - 1, by omega⟩
      unfold rts at hf
      cases hrt : rt cs at_ with
      | bad c =>
        rw [hrt] at hf
        dsimp only at hf
        rw [← hf] at q
        exact q.mono s2
      | ok ab be pw e =>
        rw [hrt] at hf
        dsimp only at hf
        obtain ⟨e1, e2⟩ := rt_le h1 hrt
        intro p p1 H3 x y s3 hp hp1 ex ey
        have hl3 := s3 _ _ hl2
        refine ⟨p, _, rfl, Or.inl (Or.inl hp), rfl, _, _, rfl, p1, _, rfl, Or.inl (Or.inl hp1), rfl, _, _, rfl, _, _, rfl, _, _, rfl, rfl, _, _, rfl, rfl, ?_⟩
        refine ⟨_, rfl, .inl ⟨rfl, _, Or.inl (Or.inl hl3)⟩, _, rfl, _, rfl, _, rfl, _, rfl, by show 4 ≤ sizeLine; decide, fun r hr4 => ?_⟩
        have hl4 := same_new (o := .tup [.int sg, .str x, .str y, .int pw]) hr4 _ _ hl3
        have lps : ps.length = acc.length := Paired.len hps
        refine ⟨l, _, _, rfl, rfl, hl4, by rw [List.length_map]; exact Nat.lt_of_lt_of_le (by omega : ps.length < 20001) (by decide), ?_⟩
        have rl : r ≠ l := (ne_of_none hl3 hr4).symm
        have terms : TermsAt (upd (upd H3 r (.tup [.int sg, .str x, .str y, .int pw])) l (.lst (ps.map V.ref ++ [.ref r]))) l (acc ++ [⟨sg, ab, be, pw⟩]) := by
          refine ⟨ps ++ [r], ?_, Paired.snoc ⟨x, y, by rw [upd_ne rl, upd_same], ex, ey⟩ (Paired.imp (fun a b z => ((z.same s3).same (same_new hr4)).upd hl4) hps)⟩
          rw [upd_same, List.map_append]
          rfl
        have s5 : Same H (upd (upd H3 r (.tup [.int sg, .str x, .str y, .int pw])) l (.lst (ps.map V.ref ++ [.ref r]))) := fun b o eb => by
          rw [upd_ne (ne_of_none eb hl)]
          exact ((s2.trans s3).trans (same_new hr4)) _ _ eb
        generalize upd (upd H3 r (.tup [.int sg, .str x, .str y, .int pw])) l (.lst (ps.map V.ref ++ [.ref r])) = H5 at terms s5 ⊢
        refine ⟨_, rfl, _, rfl, t, rfl, szl, rfl, _, rfl, ite2 (fun h => ?_) (fun h => ?_)⟩
        · have ee : e = cs.length := by
            have := keq h
            omega
          rw [if_pos ee] at hf
          rw [← hf] at q
          exact ⟨_, rfl, q l H5 s5 terms⟩
        · have ne : ¬ e = cs.length := by
            have := kne h
            omega
          rw [if_neg ne] at hf
          have hlt : e < cs.length := by omega
          have hge : cs[e]? = some (cs[e]'hlt) := List.getElem?_eq_getElem hlt
          have hg2 : t.cps[(e : Int).toNat]? = some (cs[e]'hlt) := by
            rw [Int.toNat_natCast, ← Array.getElem?_toList, hcs]
            exact hge
          have ea : at1 cs e = (⟨#[cs[e]'hlt]⟩ : Str) := by
            unfold at1
            rw [hge]
          refine ⟨_, rfl, _, rfl, t, e, _, rfl, rfl, by omega, by omega, by omega, hg2, cs, e, "+-", by rw [ea]; rfl, ?_⟩
          rw [pm_list]
          refine ⟨_, rfl, ?_⟩
          cases hi : isIn cs e [43, 45] with
          | false =>
            rw [hi, if_neg Bool.false_ne_true] at hf
            rw [← hf] at q
            exact iteT ⟨_, rfl, _, _, rfl, rfl, raiseB (Bads.mono q s5)⟩
          | true =>
            rw [hi, if_pos rfl] at hf
            refine iteF ?_
            refine ⟨_, rfl, _, rfl, t, e, _, rfl, rfl, by omega, by omega, by omega, hg2, rfl, _, rfl, ?_⟩
            rw [← ea, at1_eq (n := 43) (by decide +kernel)]
            refine ite2 (fun h => ?_) (fun h => ?_)
            · rw [if_pos (of_decide_eq_true h)] at hf
              refine ⟨_, rfl, _, _, rfl, rfl, ⟨f, e + 1, _, _, _, _, _, rfl, s5, terms, by omega, by omega, by rw [List.length_append, List.length_singleton]; omega, hf⟩, ?_⟩
              show cs.length + 1 - ((e : Int) + 1).toNat < cs.length + 1 - (at_ : Int).toNat
              omega
            · rw [if_neg (fun z => h (decide_eq_true z))] at hf
              refine ⟨_, rfl, _, rfl, _, _, rfl, rfl, ⟨f, e + 1, _, _, _, _, _, rfl, s5, terms, by omega, by omega, by rw [List.length_append, List.length_singleton]; omega, hf⟩, ?_⟩
              show cs.length + 1 - ((e : Int) + 1).toNat < cs.length + 1 - (at_ : Int).toNat
              omega
    · rintro σ H' Q1 Q2 hq h
      obtain ⟨k, ek, h⟩ := h
      exact ⟨k, ek, hq _ _ h⟩
end
end Fk

set_option Elab.async false
set_option maxRecDepth 100000
set_option maxHeartbeats 4000000
namespace Fk
open PySem PySem.Spec L2 PyProof.Rows
/-! ### long numbers: str, {..}, // that goes by _pylong -/
section
variable {X : Cx} {pins : List (Addr × Obj)} {σ : L2.St} {H : Hp} {s : Shared}
theorem nodig_of (I : Inv X pins σ H s) (e : PySem.W.nsIn X.K cStatics "sys.int_max_str_digits" = some none) : s.heap.NoDigits :=
  let ⟨mc, h1, _⟩ := I.nolimit
  ⟨mc, h1, PySem.W.ns_none_of I.kIn h1 e⟩
theorem call_str_big (hh : X.A.handled = none) (e : PySem.W.nsIn X.K cStatics "sys.int_max_str_digits" = some none) : CallR X (.type "str") (fun xs H Q => ∃ i, xs = [.int i] ∧ i.natAbs < 10 ^ 4300 ∧ Q (.str (toString i)) H) := by
  intro pins s σ H xs us Q I rs h
  obtain ⟨i, rfl, hz, q⟩ := h
  obtain ⟨u, rfl, t, rfl⟩ := vals1 rs
  exact str_of_int_or hh (nodig_of I e) (fun _ => ⟨.str _, H, I.tok _, ⟨_, rfl⟩, q⟩) fun g => absurd hz (Nat.not_lt.mpr g)
def tFmtB (te : TE) : TE := fun σ H Q => te σ H fun x H1 => ∃ i : Int, x = .int i ∧ i.natAbs < 10 ^ 4300 ∧ Q (.str (toString i)) H1
theorem pe_fmtB {ee : Expr} {te : TE} {pos : Pos} (hh : X.A.handled = none) (e : PySem.W.nsIn X.K cStatics "sys.int_max_str_digits" = some none) (he : PE X ee te) : PE X (.FormattedValue ee (-1) none pos) (tFmtB te) := by
  refine ⟨fun pins s σ H Q I h => ?_⟩
  refine wpAny_FormattedValue_plain (thn (he.run pins s σ H _ I h) fun v s1 hv => ?_)
  obtain ⟨x, H1, I1, r1, i, rfl, hz, q⟩ := hv
  obtain ⟨t, rfl⟩ := r1
  exact PyProof.Rows.formatField_int hh (nodig_of I1 e) (fun _ => ⟨.str (toString i), H1, I1.tok _, ⟨_, rfl⟩, q⟩) fun g => absurd hz (Nat.not_lt.mpr g)
/-- what must stand in the heap for a // that goes by _pylong: looks at four objects -/
def fr1 (h : Heap) (a : Addr) : PySem.W.Frag := He.frG h.get? [a]
def bmOf (h : Heap) : Addr := match PySem.W.nsIn (fr1 h mainGlobals) mainGlobals "__builtins__" with
  | some (some (.ref bm)) => bm
  | _ => 0
def modB : Option Obj → Bool
  | some ob => decide (ob.cls = .type "module") && decide (ob.dict = some builtinsNs)
  | none => false
def seeB (h : Heap) : Bool := PySem.W.nsOkIn (fr1 h sysModules) sysModules && (decide (PySem.W.nsIn (fr1 h sysModules) sysModules "_pylong" = some none) && (decide (PySem.W.nsIn (fr1 h cStatics) cStatics "sys.audit-hooks" = some none) && (decide (PySem.W.nsIn (fr1 h cStatics) cStatics "sys.dict" = some none) &&
  (decide (PySem.W.nsIn (fr1 h mainGlobals) mainGlobals "__builtins__" = some (some (.ref (bmOf h)))) && modB (h.get? (bmOf h))))))
theorem fr1_in {h : Heap} {a : Addr} : (fr1 h a).In h := He.frG_in
theorem noseer_of (I : Inv X pins σ H s) (S : seeB X.base = true) : s.heap.NoSeer := by
  unfold seeB at S
  simp only [Bool.and_eq_true, decide_eq_true_eq] at S
  obtain ⟨u1, u2, u3, u4, u5, u6⟩ := S
  obtain ⟨mc, h1, _⟩ := I.nolimit
  obtain ⟨mb, hb, hbb⟩ := I.mod.blt
  have hg := I.mod.glob
  have i1 : (fr1 X.base sysModules).In s.heap := fr1_in.keeps I.bk
  have i2 : (fr1 X.base cStatics).In s.heap := fr1_in.keeps I.bk
  cases ho : X.base.get? (bmOf X.base) with
  | none =>
    rw [ho] at u6
    cases u6
  | some ob =>
    rw [ho] at u6
    unfold modB at u6
    simp only [Bool.and_eq_true, decide_eq_true_eq] at u6
    exact ⟨⟨mc, h1, PySem.W.ns_none_of i2 h1 u3, PySem.W.ns_none_of i2 h1 u4⟩, ⟨_, .of_isNs (PySem.W.isNs_of_in i1 u1), PySem.W.nsMap_none_of_in i1 u1 u2⟩, ⟨mb, hb.keeps I.bk, hbb⟩, ⟨X.mg, _, ob, hg.keeps I.bk, PySem.W.mg_of fr1_in hg u5, I.bk _ _ ho, u6.1, u6.2⟩⟩
theorem op_fdivP (S : seeB X.base = true) (ht : X.prog.given.tree = none) (hd : X.A.depth + 100 < recursionLimit) (hs : X.stack = X.env :: X.outer) (h1 : X.env.scope.isGenerator = false) (h2 : X.env.scope.isCoroutine = false)
    (h3 : X.env.builtins = builtinsNs) (h4 : X.env.globals = mainGlobals) : OpR X (binaryOp .FloorDiv) (rI (fun _ j => 0 < j) fun i j => .int (i / j)) := by
  intro pins s σ H x y v u Q I rx ry h
  obtain ⟨i, j, rfl, rfl, hj, q⟩ := h
  obtain ⟨t, rfl⟩ := rx
  obtain ⟨t', rfl⟩ := ry
  have hj' : (0 : Int) < j := hj
  refine floordiv_int (by omega) ?_ (.inr (PylongRoom.of I.nolimit hd (SeerAt.of (noseer_of I S) ht (hs ▸ I.ok.frames) h1 h2 h3 h4)))
  rw [Int.fdiv_eq_ediv_of_nonneg i (by omega)]
  exact ⟨.int _, H, I.tok _, ⟨_, rfl⟩, q⟩
end
end Fk

set_option Elab.async false
set_option maxRecDepth 100000
namespace Fk
open PySem L2
/-! ### the program's sums -/
abbrev sPlus : Stmt := top 14
abbrev sShared : Stmt := top 16
abbrev sIsInt : Stmt := top 10
abbrev sTrimmed : Stmt := top 22
abbrev sContent : Stmt := top 26
def low (a b : Int) : Int × Int := (a / (Nat.gcd a.natAbs b.natAbs : Nat), b / (Nat.gcd a.natAbs b.natAbs : Nat))
def addF (x y : Int × Int) : Int × Int := low (x.1 * y.2 + y.1 * x.2) (x.2 * y.2)
def FrAt (H : Hp) (p : Addr) (x : Int × Int) : Prop := H p = some (.tup [.int x.1, .int x.2])
def spLowP : Sp := fun vs H Q _ => ∃ (a b : Int), vs = [.int a, .int b] ∧ 0 < b ∧ ∀ p H', Same H H' → FrAt H' p (low a b) → Q (.ref p) H'
def Sm (x : Int) : Prop := x.natAbs < 2 ^ 200000
def spPlus : Sp := fun vs H Q _ => ∃ (p q : Addr) (x y : Int × Int), vs = [.ref p, .ref q] ∧ FrAt H p x ∧ FrAt H q y ∧ 0 < x.2 ∧ 0 < y.2 ∧ Sm x.1 ∧ Sm x.2 ∧ Sm y.1 ∧ Sm y.2 ∧ ∀ r H', Same H H' → FrAt H' r (addF x y) → Q (.ref r) H'
abbrev psTB : List Str := ["top", "bottom"]
abbrev psOO2 : List Str := ["one", "other"]
abbrev psV : List Str := ["value"]
theorem Sm.mul {x y : Int} (hx : Sm x) (hy : Sm y) : CMulW x y := wide_mul hx hy (by decide) (by decide) (by decide)
section
variable {P : Program} {w : World} {K : PySem.W.Frag} {mg : Str → Option Value} {base : Heap}
theorem ok_lowP {f : Addr} {fd : FuncData} (F : Fun K "lowest" "lowest" sLowest f fd) (S : seeB base = true) (ht : P.given.tree = none) (mgc : mg "gcd" = some (.builtin "math.gcd")) : FnOk P w K mg base CX0 40 f fd psTB spLowP := by
  refine F.ok scLowest (fun vs H Q E h => ?_) (fun cdv A outer s H vs Q E hr h => ?_)
  · obtain ⟨a, b, rfl, _⟩ := h
    rfl
  · obtain ⟨a, b, rfl, b0, k⟩ := h
    have hdp : (A.deeper (PyProof.Rows.envOfC "lowest" (defScope sLowest) s.heap.objs.size f cdv)).depth + 100 < recursionLimit := by
      have := hr.dp
      omega
    refine ⟨_, pss_cons (ps_set (i := 2) scLowest.nd rfl (Or.inl rfl) (pe_callBfun cr_gcd (by rfl) mgc (pa_cons (pv 0) (pa_cons (pv 1) pa_nil))))
      (pss_cons (ps_if (pt_cmpR op_lt (pv 1) pe_int (nomark _)) (pss_one (ps_set (i := 2) scLowest.nd rfl (Or.inl rfl) (pe_un un_neg (pv 2)))) pss_nil)
      (pss_one (ps_ret (pe_tup (pa_cons (pe_op (op_fdivP S ht hdp rfl rfl rfl rfl rfl) (pv 0) (pv 2)) (pa_cons (pe_op (op_fdivP S ht hdp rfl rfl rfl rfl rfl) (pv 1) (pv 2)) pa_nil)))))), ?_⟩
    have g0 : (0 : Int) < (Nat.gcd a.natAbs b.natAbs : Nat) := by
      have : 0 < Nat.gcd a.natAbs b.natAbs := Nat.gcd_pos_of_pos_right _ (by omega)
      omega
    refine ⟨_, rfl, _, rfl, a, b, rfl, ?_⟩
    refine ⟨_, rfl, _, _, rfl, rfl, _, rfl, ite2 (fun h => absurd (of_decide_eq_true h) (by omega)) (fun _ => ?_)⟩
    exact ⟨_, rfl, _, rfl, _, _, rfl, rfl, g0, _, rfl, _, rfl, _, _, rfl, rfl, g0, by show 2 ≤ sizeLine; decide, fun p hp => k p _ (same_new hp) upd_same⟩
theorem scPlus : FnScope psOO2 psOO2 (defScope sPlus) := ⟨rfl, rfl, rfl, by decide +kernel, rfl, by decide +kernel, by decide +kernel⟩
theorem ok_plus {f fL : Addr} {fd dL : FuncData} (F : Fun K "plus" "plus" sPlus f fd) (L : Cl P w K mg base "lowest" psTB 40 spLowP fL dL) : FnOk P w K mg base CX0 41 f fd psOO2 spPlus := by
  refine F.ok scPlus (fun vs H Q E h => ?_) (fun cdv A outer s H vs Q E hr h => ?_)
  · obtain ⟨p, q, x, y, rfl, _⟩ := h
    rfl
  · obtain ⟨p, q, ⟨a, b⟩, ⟨c, d⟩, rfl, hp, hq, b0, d0, sa, sb, sc, sd, k⟩ := h
    have st1 : SqT K H p [.int a, .int b] := Or.inl (Or.inl hp)
    have st2 : SqT K H q [.int c, .int d] := Or.inl (Or.inl hq)
    refine ⟨_, pss_one (ps_ret (pe_call L.G hr (by rfl) L.g L.kp L.b .nil pass0 (pa_cons (pe_op op_add (pe_op op_mulW (pe_ix ix_tup (pv 0) pe_int (fun _ _ => rfl)) (pe_ix ix_tup (pv 1) pe_int (fun _ _ => rfl))) (pe_op op_mulW (pe_ix ix_tup (pv 1) pe_int (fun _ _ => rfl)) (pe_ix ix_tup (pv 0) pe_int (fun _ _ => rfl))))
      (pa_cons (pe_op op_mulW (pe_ix ix_tup (pv 0) pe_int (fun _ _ => rfl)) (pe_ix ix_tup (pv 1) pe_int (fun _ _ => rfl))) pa_nil)))), ?_⟩
    refine ⟨_, rfl, p, _, 0, _, rfl, rfl, st1, rfl, _, rfl, q, _, 1, _, rfl, rfl, st2, rfl, _, _, rfl, rfl, Sm.mul sa sd, ?_⟩
    refine ⟨_, rfl, q, _, 0, _, rfl, rfl, st2, rfl, _, rfl, p, _, 1, _, rfl, rfl, st1, rfl, _, _, rfl, rfl, Sm.mul sc sb, _, _, rfl, rfl, ?_⟩
    refine ⟨_, rfl, p, _, 1, _, rfl, rfl, st1, rfl, _, rfl, q, _, 1, _, rfl, rfl, st2, rfl, _, _, rfl, rfl, Sm.mul sb sd, ?_⟩
    exact ⟨_, _, rfl, Int.mul_pos b0 d0, k⟩
end
end Fk

set_option Elab.async false
set_option maxRecDepth 100000
namespace Fk
open PySem L2
/-! ### rows of integers -/
abbrev sIsRow : Stmt := top 21
def iv (xs : List Int) : List V := xs.map V.int
def cont (xs : List Int) : Nat := xs.foldl (fun g i => Nat.gcd g i.natAbs) 0
def Trim (xs ys : List Int) : Prop := ∃ m, m ≤ xs.length ∧ ys = xs.take m ∧ (∀ i, m ≤ i → i < xs.length → xs[i]? = some 0) ∧ (m = 0 ∨ ∃ z, xs[m - 1]? = some z ∧ z ≠ 0)
def spIsInt1 : Sp := fun vs H Q _ => ∃ i : Int, vs = [.int i] ∧ Q (.bl true) H
def spContent (K : PySem.W.Frag) : Sp := fun vs H Q _ => ∃ (p : Addr) (xs : List Int), vs = [.ref p] ∧ SqT K H p (iv xs) ∧ Q (.int (cont xs : Nat)) H
def spTrimmed : Sp := fun vs H Q _ => ∃ (l : Addr) (xs : List Int), vs = [.ref l] ∧ H l = some (.lst (iv xs)) ∧ xs.length ≤ 100 ∧ ∀ ys p H', Trim xs ys → Same H H' → H' p = some (.tup (iv ys)) → Q (.ref p) H'
theorem ty_of_sqt {K : PySem.W.Frag} {H : Hp} {a : Addr} {xs : List V} (h : SqT K H a xs) : TyX K H (.ref a) (.type "tuple") := by
  rcases h with (e | ⟨o, e⟩) | ⟨o, _, _, e, c, _⟩
  · exact .base (.tup e)
  · exact .fTuple e
  · exact .kTuple e c
def spIsRow (K : PySem.W.Frag) : Sp := fun vs H Q _ => ∃ (p : Addr) (xs : List Int), vs = [.ref p] ∧ SqT K H p (iv xs) ∧ (xs = [] ∨ ∃ z, xs[xs.length - 1]? = some z ∧ z ≠ 0) ∧ Q (.bl true) H
theorem iv_at {xs : List Int} {i : Nat} {x : V} (h : (iv xs)[i]? = some x) : ∃ z, xs[i]? = some z ∧ x = .int z := by
  unfold iv at h
  rw [List.getElem?_map] at h
  cases e : xs[i]? with
  | none =>
    rw [e] at h
    cases h
  | some z =>
    rw [e] at h
    exact ⟨z, rfl, (Option.some.inj h).symm⟩
theorem iv_get {xs : List Int} {i : Nat} {z : Int} (h : xs[i]? = some z) : (iv xs)[i]? = some (.int z) := by
  unfold iv
  rw [List.getElem?_map, h]
  rfl
theorem iv_len (xs : List Int) : (iv xs).length = xs.length := List.length_map ..
theorem cont_take {xs : List Int} {i : Nat} {z : Int} (h : xs[i]? = some z) : cont (xs.take (i + 1)) = Nat.gcd (cont (xs.take i)) z.natAbs := by
  have hlt : i < xs.length := (List.getElem?_eq_some_iff.mp h).1
  unfold cont
  rw [List.take_add_one, h]
  show List.foldl _ 0 (xs.take i ++ [z]) = _
  rw [List.foldl_append]
  rfl
section
variable {P : Program} {w : World} {K : PySem.W.Frag} {mg : Str → Option Value} {base : Heap}
theorem scIsInt : FnScope psV psV (defScope sIsInt) := ⟨rfl, rfl, rfl, by decide +kernel, rfl, by decide +kernel, by decide +kernel⟩
theorem ok_isint {f : Addr} {fd : FuncData} (F : Fun K "is_integer" "is_integer" sIsInt f fd) (mi : mg "isinstance" = none) (mn : mg "int" = none) (mb : mg "bool" = none) : FnOk P w K mg base CX0 1 f fd psV spIsInt1 := by
  refine F.ok scIsInt (fun vs H Q E h => ?_) (fun cdv A outer s H vs Q E hr h => ?_)
  · obtain ⟨i, rfl, _⟩ := h
    rfl
  · obtain ⟨i, rfl, k⟩ := h
    refine ⟨_, pss_one (ps_ret (pe_and (pe_callB call_isi (by rfl) mi (by decide +kernel) (pa_cons (pv 0) (pa_cons (pe_bltn (v := .ty "int") (by rfl) mn (by decide +kernel) rfl) pa_nil)))
      (pe_one (pe_not (pe_callB call_isi (by rfl) mi (by decide +kernel) (pa_cons (pv 0) (pa_cons (pe_bltn (v := .ty "bool") (by rfl) mb (by decide +kernel) rfl) pa_nil))))))), ?_⟩
    exact ⟨_, rfl, _, _, _, _, true, rfl, .ty _, .base (.int i), kit_ty (by decide), true, rfl, _, rfl, _, _, _, _, false, rfl, .ty _, .base (.int i), kit_ty (by decide), false, rfl, k⟩
theorem scContent : FnScope ["row", "shared", "item"] ["row"] (defScope sContent) := ⟨rfl, rfl, rfl, by decide +kernel, rfl, by decide +kernel, by decide +kernel⟩
theorem ok_content {f : Addr} {fd : FuncData} (F : Fun K "content" "content" sContent f fd) (mgc : mg "gcd" = some (.builtin "math.gcd")) : FnOk P w K mg base CX0 1 f fd ["row"] (spContent K) := by
  refine F.ok scContent (fun vs H Q E h => ?_) (fun cdv A outer s H vs Q E hr h => ?_)
  · obtain ⟨p, xs, rfl, _⟩ := h
    rfl
  · obtain ⟨p, xs, rfl, st, k⟩ := h
    refine ⟨_, pss_cons (ps_set (i := 1) scContent.nd rfl (Or.inl rfl) pe_int)
      (pss_cons (ps_for PassesOwn.never rfl (pi_tup (pv 0)) (pg_name (i := 2) scContent.nd rfl (Or.inl rfl))
        (pss_one (ps_set (i := 1) scContent.nd rfl (Or.inl rfl) (pe_callBfun cr_gcd (by rfl) mgc (pa_cons (pv 1) (pa_cons (pv 2) pa_nil))))))
      (pss_one (ps_ret (pv 1)))), ?_⟩
    refine ⟨_, rfl, p, rfl, ⟨_, st⟩, for_tup (K := K) (a := p) (xs := iv xs) (fun i σ H' => H' = H ∧ ∃ v : Option V, σ = [some (.ref p), some (.int (cont (xs.take i) : Nat)), v]) ⟨rfl, none, rfl⟩ (fun i σ H' _ ⟨e, _⟩ => e ▸ st) ?_ ?_⟩
    · rintro i x σ H' hx ⟨rfl, v, rfl⟩
      obtain ⟨z, hz, rfl⟩ := iv_at hx
      refine ⟨_, rfl, _, rfl, _, _, rfl, rfl, some (.int z), ?_⟩
      rw [cont_take hz, Int.natAbs_natCast]
      rfl
    · rintro σ H' ⟨rfl, v, rfl⟩
      rw [iv_len, List.take_length]
      exact ⟨_, rfl, k⟩
theorem scTrimmed : FnScope ["items", "many"] ["items"] (defScope sTrimmed) := ⟨rfl, rfl, rfl, by decide +kernel, rfl, by decide +kernel, by decide +kernel⟩
theorem ok_trimmed {f : Addr} {fd : FuncData} (F : Fun K "trimmed" "trimmed" sTrimmed f fd) (ml : mg "len" = none) (mt : mg "tuple" = none) : FnOk P w K mg base CX0 1 f fd ["items"] spTrimmed := by
  refine F.ok scTrimmed (fun vs H Q E h => ?_) (fun cdv A outer s H vs Q E hr h => ?_)
  · obtain ⟨p, xs, rfl, _⟩ := h
    rfl
  · obtain ⟨l, xs, rfl, hl, hn, k⟩ := h
    refine ⟨_, pss_cons (ps_set (i := 1) scTrimmed.nd rfl (Or.inl rfl) (pe_callB call_len_seq (by rfl) ml PySem.boot_len (pa_cons (pv 0) pa_nil)))
      (pss_cons (ps_while PassesOwn.never (PW.pt (pw_and (pt_cmpR op_gt (pv 1) pe_int (nomark _)) (pw_and1 (pt_cmpR op_eq (pe_ix ix_list (pv 0) (pe_op op_sub (pv 1) pe_int) (fun _ _ => rfl)) pe_int (nomark _)))))
        (pss_one (ps_set (i := 1) scTrimmed.nd rfl (Or.inl rfl) (pe_op op_sub (pv 1) pe_int))))
      (pss_one (ps_ret (pe_callTy call_tuple_of (by rfl) mt (by decide +kernel) (pa_cons (pe_slice sl_list (pv 0) po_none (po_some (pv 1))) pa_nil))))), ?_⟩
    have sq : SqL K H l (iv xs) := Or.inl (Or.inl hl)
    refine ⟨_, rfl, l, _, rfl, .inl sq, ?_⟩
    rw [iv_len]
    refine while_by (fun σ H' => H' = H ∧ ∃ m : Nat, σ = [some (.ref l), some (.int m)] ∧ m ≤ xs.length ∧ (∀ i, m ≤ i → i < xs.length → xs[i]? = some 0)) (fun σ _ => match σ with
      | [_, some (.int m)] => m.toNat
      | _ => 0) ⟨rfl, xs.length, rfl, Nat.le_refl _, fun i h1 h2 => absurd h2 (by omega)⟩ ?_ ?_
    · rintro σ H' ⟨rfl, m, rfl, hm, hz⟩
      have fin : (m = 0 ∨ ∃ z, xs[m - 1]? = some z ∧ z ≠ 0) → tRet (tCB (fun vs H Q => ∃ p ys, vs = [V.ref p] ∧ ((SqL K H p ys ∧ ∀ l, H l = none → Q (.ref l) (upd H l (.tup ys))) ∨ (SqT K H p ys ∧ Q (.ref p) H))) (tCons (tSl (rSlL K) (tVar 0) tNoPart (tPart (tVar 1))) tNil)) { nx := fun _ H' => Q .non H', rt := Q } [some (.ref l), some (.int m)] H' := fun hm0 => by
        refine ⟨_, rfl, _, rfl, _, rfl, l, _, rfl, sq, fun q hq => ?_⟩
        have e : cutV (iv xs) none (some (m : Int)) = iv (xs.take m) := by
          unfold cutV
          rw [HT.sIx_nat, HT.sIx_none, List.drop_zero, Nat.sub_zero, iv_len, Nat.min_eq_left hm]
          exact (List.map_take ..).symm
        rw [e]
        refine ⟨q, _, rfl, .inl ⟨Or.inl (Or.inl upd_same), fun p hp => ?_⟩⟩
        exact k _ p _ ⟨m, hm, rfl, hz, hm0⟩ ((same_new hq).trans (same_new hp)) upd_same
      refine ⟨_, rfl, _, _, rfl, rfl, _, rfl, ite2 (fun h => ?_) (fun h => ?_)⟩
      · have m0 : 0 < m := by
          have := of_decide_eq_true h
          omega
        have hlt : m - 1 < xs.length := by omega
        have hg : xs[m - 1]? = some (xs[m - 1]) := List.getElem?_eq_getElem hlt
        have ha : atI (iv xs) ((m : Int) - 1) = some (.int xs[m - 1]) := by
          have := atI_nat (iv_get hg)
          rw [show ((m - 1 : Nat) : Int) = (m : Int) - 1 by omega] at this
          exact this
        refine ⟨_, rfl, _, rfl, _, _, rfl, rfl, l, _, _, _, rfl, rfl, sq, ha, rfl, _, rfl, ite2 (fun h0 => ?_) (fun h0 => ?_)⟩
        · have z0 : xs[m - 1] = 0 := keq h0
          refine ⟨_, rfl, _, _, rfl, rfl, ⟨rfl, m - 1, ?_, by omega, fun i h1 h2 => ?_⟩, ?_⟩
          · rw [show ((m - 1 : Nat) : Int) = (m : Int) - 1 by omega]
            rfl
          · by_cases hi : i = m - 1
            · rw [hi, hg, z0]
            · exact hz i (by omega) h2
          · show ((m : Int) - 1).toNat < (m : Int).toNat
            omega
        · exact fin (.inr ⟨_, hg, kne h0⟩)
      · have m0 : m = 0 := by
          have h' : ¬ (0 : Int) < (m : Int) := fun z => h (decide_eq_true z)
          omega
        exact iteF (fin (.inl m0))
    · rintro σ H' Q1 Q2 hq h
      obtain ⟨x1, a1, x2, x3, a2, a3, k1, a4, h⟩ := h
      refine ⟨x1, a1, x2, x3, a2, a3, k1, a4, ?_⟩
      cases k1 with
      | false => exact hq _ _ h
      | true =>
        obtain ⟨y1, b1, y2, b2, y3, y4, b3, b4, y5, y6, y7, y8, b5, b6, b7, b8, b9, k2, b10, h⟩ := h
        exact ⟨y1, b1, y2, b2, y3, y4, b3, b4, y5, y6, y7, y8, b5, b6, b7, b8, b9, k2, b10, hq _ _ h⟩
theorem scIsRow : FnScope ["value", "item"] ["value"] (defScope sIsRow) := ⟨rfl, rfl, rfl, by decide +kernel, rfl, by decide +kernel, by decide +kernel⟩
theorem atI_m1 {α : Type} {xs : List α} {x : α} (h : xs[xs.length - 1]? = some x) : atI xs (-1) = some x := by
  have h0 : 0 < xs.length := by
    have := (List.getElem?_eq_some_iff.mp h).1
    omega
  have e : ixN xs.length (-1) = some (xs.length - 1) := by
    unfold ixN
    rw [if_neg (by decide), if_pos (by omega)]
    exact congrArg some (by omega)
  unfold atI
  rw [e]
  exact h
theorem ok_isrow {f fI : Addr} {fd dI : FuncData} (F : Fun K "is_row" "is_row" sIsRow f fd) (mi : mg "isinstance" = none) (mt : mg "tuple" = none) (ml : mg "len" = none) (I : Cl P w K mg base "is_integer" psV 1 spIsInt1 fI dI) : FnOk P w K mg base CX0 2 f fd psV (spIsRow K) := by
  refine F.ok scIsRow (fun vs H Q E h => ?_) (fun cdv A outer s H vs Q E hr h => ?_)
  · obtain ⟨p, xs, rfl, _⟩ := h
    rfl
  · obtain ⟨p, xs, rfl, st, hl, k⟩ := h
    refine ⟨_, pss_cons (ps_if (pt_not (pt_val (pe_callB call_isi (by rfl) mi (by decide +kernel) (pa_cons (pv 0) (pa_cons (pe_bltn (v := .ty "tuple") (by rfl) mt (by decide +kernel) rfl) pa_nil))))) (pss_one (ps_ret pe_bl)) pss_nil)
      (pss_cons (ps_for PassesOwn.never rfl (pi_tup (pv 0)) (pg_name (i := 1) scIsRow.nd rfl (Or.inl rfl)) (pss_one (ps_if (pt_not (pt_val (pe_call I.G hr (by rfl) I.g I.kp I.b .nil pass0 (pa_cons (pv 1) pa_nil)))) (pss_one (ps_ret pe_bl)) pss_nil)))
      (pss_one (ps_ret (pe_or (pe_cmpR op_eq (pe_callB call_len_seq (by rfl) ml PySem.boot_len (pa_cons (pv 0) pa_nil)) pe_int (nomark _)) (pe_one (pe_cmpR op_ne (pe_ix ix_tup (pv 0) (pe_un un_neg pe_int) (fun _ _ => rfl)) pe_int (nomark _))))))), ?_⟩
    refine ⟨_, rfl, _, _, _, _, true, rfl, .ty _, ty_of_sqt st, kit_ty (by decide), true, rfl, iteF ?_⟩
    refine ⟨_, rfl, p, rfl, ⟨_, st⟩, for_tup (K := K) (a := p) (xs := iv xs) (fun i σ H' => H' = H ∧ ∃ v : Option V, σ = [some (.ref p), v]) ⟨rfl, none, rfl⟩ (fun i σ H' _ ⟨e, _⟩ => e ▸ st) ?_ ?_⟩
    · rintro i x σ H' hx ⟨rfl, v, rfl⟩
      obtain ⟨z, hz, rfl⟩ := iv_at hx
      exact ⟨_, rfl, z, rfl, true, rfl, iteF ⟨rfl, some (.int z), rfl⟩⟩
    · rintro σ H' ⟨rfl, v, rfl⟩
      refine ⟨_, rfl, p, _, rfl, .inr st, rfl, _, rfl, ?_⟩
      rw [iv_len]
      rcases hl with rfl | ⟨z, hz, z0⟩
      · exact iteT k
      · have n0 : xs.length ≠ 0 := by
          have := (List.getElem?_eq_some_iff.mp hz).1
          omega
        rw [decide_eq_false (fun e => n0 (by have := V.int.inj e; omega) : ¬ V.int (xs.length : Nat) = V.int 0)]
        refine iteF ⟨_, rfl, _, rfl, p, _, _, _, rfl, rfl, st, atI_m1 (by rw [iv_len]; exact iv_get hz), rfl, ?_⟩
        rw [decide_eq_false (fun e => z0 (V.int.inj e) : ¬ V.int z = V.int 0)]
        exact k
end
end Fk

set_option Elab.async false
set_option maxRecDepth 100000
namespace Fk
open PySem L2
/-! ### the law's own reading -/
abbrev sLDend : Stmt := top 62
abbrev sLetter : Stmt := top 63
abbrev psDe : List Str := ["_law_text", "_law_at"]
theorem in_one (c : Nat) : inV (.str ⟨#[c]⟩) (signsOf digs) = isD c := by
  rw [← in_digs]
  unfold inV signsOf
  rw [List.any_map, Bool.eq_iff_iff, List.any_eq_true, decide_eq_true_iff]
  constructor
  · rintro ⟨d, hd, e⟩
    have e1 : (⟨#[d]⟩ : Str) == ⟨#[c]⟩ := e
    have e2 : (⟨#[d]⟩ : Str) = ⟨#[c]⟩ := beq_iff_eq.mp e1
    have e3 : [d] = [c] := congrArg (fun z : Str => z.cps.toList) e2
    rw [← (List.cons.inj e3).1]
    exact hd
  · intro h
    refine ⟨c, h, ?_⟩
    show ((⟨#[c]⟩ : Str) == ⟨#[c]⟩) = true
    exact beq_self_eq_true _
theorem in_at (cs : List Nat) (k : Nat) (y : Str) : inV (.str (at1 cs k)) (signsOf y) = isIn cs k y.cps.toList := by
  unfold isIn at1
  cases h : cs[k]? with
  | none =>
    unfold inV signsOf
    rw [List.any_map, Bool.eq_false_iff]
    intro h
    obtain ⟨d, hd, e⟩ := List.any_eq_true.mp h
    have e1 : (⟨#[d]⟩ : Str) == ⟨#[]⟩ := e
    have e2 : (⟨#[d]⟩ : Str) = ⟨#[]⟩ := beq_iff_eq.mp e1
    have e3 : [d] = [] := congrArg (fun z : Str => z.cps.toList) e2
    cases e3
  | some c =>
    unfold inV signsOf
    rw [List.any_map, Bool.eq_iff_iff, List.any_eq_true, decide_eq_true_iff]
    constructor
    · rintro ⟨d, hd, e⟩
      have e1 : (⟨#[d]⟩ : Str) == ⟨#[c]⟩ := e
      have e2 : (⟨#[d]⟩ : Str) = ⟨#[c]⟩ := beq_iff_eq.mp e1
      have e3 : [d] = [c] := congrArg (fun z : Str => z.cps.toList) e2
      rw [← (List.cons.inj e3).1]
      exact hd
    · intro h
      refine ⟨c, h, ?_⟩
      show ((⟨#[c]⟩ : Str) == ⟨#[c]⟩) = true
      exact beq_self_eq_true _
theorem flat_signs (z : Str) : (signsOf z).all flatV = true := by
  unfold signsOf
  rw [List.all_map]
  exact List.all_eq_true.mpr fun _ _ => rfl
def spLDend : Sp := fun vs H Q _ => ∃ (t : Str) (k : Nat), vs = [.str t, .int k] ∧ t.length ≤ 20000 ∧ k ≤ t.length ∧ ∀ H', Same H H' → Q (.int (ie t.cps.toList k : Nat)) H'
def spLetter : Sp := fun vs H Q _ => ∃ (t : Str) (k : Nat), vs = [.str t, .int k] ∧ t.length ≤ 20000 ∧ t.cps.toList[k]? = some 101 ∧ (match rp t.cps.toList k with
  | .bad col => ∀ (p : Addr) (H' : Hp) (e : Nat), Same H H' → H' p = some (.tup [.int e, .int 0, .int col]) → Q (.ref p) H'
  | .ok pw e => ∀ (p : Addr) (H' : Hp), Same H H' → H' p = some (.tup [.int e, .int pw, .int 0]) → Q (.ref p) H')
section
variable {P : Program} {w : World} {K : PySem.W.Frag} {mg : Str → Option Value} {base : Heap}
theorem scLDend : FnScope ["_law_text", "_law_at", "_law_lap"] psDe (defScope sLDend) := ⟨rfl, rfl, rfl, by decide +kernel, rfl, by decide +kernel, by decide +kernel⟩
theorem ok_ldend {f : Addr} {fd : FuncData} (F : Fun K "_law_digits_end" "_law_digits_end" sLDend f fd) (mr : mg "range" = none) (ml : mg "len" = none) (mt : mg "tuple" = none) : FnOk P w K mg base CX0 1 f fd psDe spLDend := by
  refine F.ok scLDend (fun vs H Q E h => ?_) (fun cdv A outer s H vs Q E hr h => ?_)
  · obtain ⟨t, k, rfl, _⟩ := h
    rfl
  · obtain ⟨t, k0, rfl, tl, hk, k⟩ := h
    refine ⟨_, pss_cons (ps_if (pt_cmpR op_eq (pe_slice sl_str (pv 0) (po_some (pv 1)) (po_some (pe_op op_add (pv 1) pe_int))) pe_str (nomark _)) (pss_one (ps_ret (pe_op op_add (pv 1) pe_int))) pss_nil)
      (pss_cons (ps_for PassesOwn.never rfl (pi_range1 (by rfl) mr (pa_cons (pe_callB call_len_str (by rfl) ml PySem.boot_len (pa_cons (pv 0) pa_nil)) pa_nil)) (pg_name (i := 2) scLDend.nd rfl (Or.inl rfl))
        (pss_cons (ps_if (pt_cmpR op_notIn_seq (pe_slice sl_str (pv 0) (po_some (pv 1)) (po_some (pe_op op_add (pv 1) pe_int))) (pe_callTy call_tupS (by rfl) mt (by decide +kernel) (pa_cons pe_str pa_nil)) (by with_unfolding_all rfl)) (pss_one ps_break) pss_nil)
        (pss_one (ps_set (i := 1) scLDend.nd rfl (Or.inl rfl) (pe_op op_add (pv 1) pe_int)))))
      (pss_one (ps_ret (pv 1)))), ?_⟩
    have zl := tl_len t
    have szl : t.length ≤ sizeLine := Nat.le_trans tl (by decide)
    generalize hcs : t.cps.toList = cs at *
    refine ⟨_, rfl, _, rfl, _, rfl, _, rfl, _, _, rfl, rfl, _, rfl, t, rfl, szl, rfl, _, rfl, ?_⟩
    rw [cut1, hcs, at1_eq (n := 48) (by decide +kernel)]
    unfold ie at k
    refine ite2 (fun h => ?_) (fun h => ?_)
    · rw [if_pos (of_decide_eq_true h)] at k
      exact ⟨_, rfl, _, _, rfl, rfl, k _ (Same.refl _)⟩
    rw [if_neg (fun z => h (decide_eq_true z))] at k
    refine ⟨_, rfl, t, rfl, szl, (t.length : Int), rfl, by omega, by omega, ?_⟩
    have en : (t.length : Int).toNat = t.length := by omega
    rw [en]
    refine for_range (fun i σ H' => Same H H' ∧ i ≤ t.length ∧ k0 + i ≤ t.length ∧ dend cs (k0 + i) = dend cs k0 ∧ ∃ r : Option V, σ = [some (.str t), some (.int ((k0 + i : Nat) : Int)), r]) ⟨Same.refl H, by omega, by omega, rfl, none, rfl⟩ ?_ ?_
    · rintro i σ H' hi ⟨hs, h1, h2, h3, r, rfl⟩
      refine ⟨_, rfl, _, rfl, _, rfl, _, rfl, _, _, rfl, rfl, _, rfl, t, rfl, szl, digs, rfl, hr.hd, by decide, fun p hp => ?_⟩
      refine ⟨p, _, rfl, Or.inr (Or.inl (Or.inl upd_same)), rfl, flat_signs _, _, rfl, ?_⟩
      rw [cut1, hcs, in_at]
      have hu : isIn cs (k0 + i) digs.cps.toList = (match cs[k0 + i]? with | some c => isD c | none => false) := by
        unfold isIn
        cases cs[k0 + i]? with
        | none => rfl
        | some c => exact in_digs c
      rw [hu]
      cases hc : cs[k0 + i]? with
      | none =>
        refine iteT ⟨_, rfl, ?_⟩
        have hge : cs.length ≤ k0 + i := List.getElem?_eq_none_iff.mp hc
        rw [← dend_past hge, h3]
        exact k _ (hs.trans (same_new hp))
      | some c =>
        have hlt : k0 + i < cs.length := (List.getElem?_eq_some_iff.mp hc).1
        dsimp only
        cases hd : isD c with
        | false =>
          refine iteT ⟨_, rfl, ?_⟩
          rw [← dend_stop hc hd, h3]
          exact k _ (hs.trans (same_new hp))
        | true =>
          refine iteF ⟨_, rfl, _, _, rfl, rfl, hs.trans (same_new hp), by omega, by omega, ?_, some _, rfl⟩
          rw [← h3, dend_step hc hd]
          rfl
    · rintro σ H' ⟨hs, h1, h2, h3, r, rfl⟩
      refine ⟨_, rfl, ?_⟩
      rw [← dend_past (by omega : cs.length ≤ k0 + t.length), h3]
      exact k _ hs
theorem scLetter : FnScope psDe psDe (defScope sLetter) := ⟨rfl, rfl, rfl, by decide +kernel, rfl, by decide +kernel, by decide +kernel⟩
theorem ok_letter {f : Addr} {fd : FuncData} (F : Fun K "_law_letter_end" "_law_letter_end" sLetter f fd) (mt : mg "tuple" = none) (mn : mg "int" = none) : FnOk P w K mg base CX0 1 f fd psDe spLetter := by
  refine F.ok scLetter (fun vs H Q E h => ?_) (fun cdv A outer s H vs Q E hr h => ?_)
  · obtain ⟨t, k, rfl, _⟩ := h
    rfl
  · obtain ⟨t, k0, rfl, tl, h101, q⟩ := h
    refine ⟨_, pss_cons (ps_if (pt_cmpR op_ne (pe_slice sl_str (pv 0) (po_some (pe_op op_add (pv 1) pe_int)) (po_some (pe_op op_add (pv 1) pe_int))) pe_str (nomark _)) (pss_one (ps_ret (pe_tup (pa_cons (pe_op op_add (pv 1) pe_int) (pa_cons pe_int (pa_cons pe_int pa_nil)))))) pss_nil)
      (pss_cons (ps_if (pt_cmpR op_notIn_seq (pe_slice sl_str (pv 0) (po_some (pe_op op_add (pv 1) pe_int)) (po_some (pe_op op_add (pv 1) pe_int))) (pe_callTy call_tupS (by rfl) mt (by decide +kernel) (pa_cons pe_str pa_nil)) (by with_unfolding_all rfl)) (pss_one (ps_ret (pe_tup (pa_cons (pv 1) (pa_cons pe_int (pa_cons (pe_op op_add (pv 1) pe_int) pa_nil)))))) pss_nil)
      (pss_one (ps_ret (pe_tup (pa_cons (pe_op op_add (pv 1) pe_int) (pa_cons (pe_callTy call_int_str (by rfl) mn (by decide +kernel) (pa_cons (pe_item_str (pv 0) (pe_op op_add (pv 1) pe_int) (fun _ _ => rfl)) pa_nil)) (pa_cons pe_int pa_nil))))))), ?_⟩
    have zl := tl_len t
    have szl : t.length ≤ sizeLine := Nat.le_trans tl (by decide)
    generalize hcs : t.cps.toList = cs at *
    unfold rp at q
    rw [if_pos h101] at q
    have c1 : cutS t (some ((k0 : Int) + 1)) (some ((k0 : Int) + 2)) = at1 cs (k0 + 1) := by
      have z := cut1 t (k0 + 1)
      rw [hcs] at z
      rw [← z]
      rfl
    have c2 : cutS t (some ((k0 : Int) + 2)) (some ((k0 : Int) + 3)) = at1 cs (k0 + 2) := by
      have z := cut1 t (k0 + 2)
      rw [hcs] at z
      rw [← z]
      rfl
    refine ⟨_, rfl, _, rfl, _, _, rfl, rfl, _, rfl, _, rfl, _, _, rfl, rfl, _, rfl, t, rfl, szl, rfl, _, rfl, ?_⟩
    rw [c1, at1_eq (n := 94) (by decide +kernel)]
    by_cases h2 : cs[k0 + 1]? = some 94
    · rw [decide_eq_true h2]
      rw [if_pos h2] at q
      refine iteF ?_
      refine ⟨_, rfl, _, rfl, _, _, rfl, rfl, _, rfl, _, rfl, _, _, rfl, rfl, _, rfl, t, rfl, szl, pows, rfl, hr.hd, by decide, fun p hp => ?_⟩
      refine ⟨p, _, rfl, Or.inr (Or.inl (Or.inl upd_same)), ?_⟩
      rw [c2]
      refine ⟨rfl, flat_signs _, _, rfl, ?_⟩
      rw [in_at, pows26]
      cases hi : isIn cs (k0 + 2) d26 with
      | false =>
        rw [hi, if_neg Bool.false_ne_true] at q
        exact iteT ⟨_, rfl, _, rfl, _, _, rfl, rfl, by show 3 ≤ sizeLine; decide, fun p1 hp1 => q p1 _ _ ((same_new hp).trans (same_new hp1)) upd_same⟩
      | true =>
        rw [hi, if_pos rfl] at q
        obtain ⟨c, hc, hm⟩ := isIn_some hi
        have eg : cs.getD (k0 + 2) 0 = c := by
          rw [List.getD_eq_getElem?_getD, hc]
          rfl
        rw [eg] at q
        have hlt : k0 + 2 < cs.length := (List.getElem?_eq_some_iff.mp hc).1
        have hg2 : t.cps[((k0 : Int) + 2).toNat]? = some c := by
          rw [show ((k0 : Int) + 2).toNat = k0 + 2 by omega, ← Array.getElem?_toList, hcs]
          exact hc
        exact iteF ⟨_, rfl, _, _, rfl, rfl, _, rfl, _, rfl, _, _, rfl, rfl, t, _, c, rfl, rfl, by omega, by omega, by omega, hg2, _, _, rfl, int26 hm, (show 1 ≤ 640 by decide), by show 3 ≤ sizeLine; decide, fun p1 hp1 => q p1 _ ((same_new hp).trans (same_new hp1)) upd_same⟩
    · rw [decide_eq_false h2]
      rw [if_neg h2] at q
      exact iteT ⟨_, rfl, _, _, rfl, rfl, by show 3 ≤ sizeLine; decide, fun p1 hp1 => q p1 _ (same_new hp1) upd_same⟩
end
end Fk

set_option Elab.async false
set_option maxRecDepth 100000
namespace Fk
open PySem L2
abbrev sTerm : Stmt := top 64
def dv (l : List Nat) : Int := ((NumText.digitsVal l : Nat) : Int)
theorem digs_iff (cs : List Nat) (k : Nat) : isIn cs k digs.cps.toList = true ↔ ∃ c, cs[k]? = some c ∧ isD c = true := by
  constructor
  · intro h
    obtain ⟨c, hc, hm⟩ := isIn_some h
    refine ⟨c, hc, ?_⟩
    rw [← in_digs]
    exact decide_eq_true hm
  · rintro ⟨c, hc, hd⟩
    unfold isIn
    rw [hc]
    rw [← in_digs] at hd
    exact hd
theorem ie_cut {cs : List Nat} {k : Nat} (h : isIn cs k digs.cps.toList = true) (hr : ∀ j, nd cs j ≤ 4300) : k < ie cs k ∧ NumText.AllDigits (cut cs k (ie cs k)) ∧ (cut cs k (ie cs k)).length ≤ 4300 := by
  obtain ⟨c, hc, hd⟩ := (digs_iff cs k).mp h
  have hlt := (List.getElem?_eq_some_iff.mp hc).1
  unfold ie
  by_cases h48 : cs[k]? = some 48
  · rw [if_pos h48]
    have e : cut cs k (k + 1) = [48] := by
      unfold cut
      rw [List.drop_eq_getElem_cons hlt, Nat.add_sub_cancel_left, List.take_succ_cons, List.take_zero]
      have := (List.getElem?_eq_some_iff.mp h48).2
      rw [this]
    rw [e]
    exact ⟨by omega, fun c hc => by rw [List.mem_singleton.mp hc]; exact ⟨by decide, by decide⟩, by decide⟩
  · rw [if_neg h48]
    have e := nd_step hc hd
    have hl : (cut cs k (dend cs k)).length = nd cs k := by
      rw [cut_dend]
      rfl
    refine ⟨?_, cut_digits cs k, by rw [hl]; exact hr k⟩
    unfold dend
    omega
theorem ie_none {cs : List Nat} {k : Nat} (h : isIn cs k digs.cps.toList = false) : ie cs k = k := by
  have h1 : ∀ c, cs[k]? = some c → isD c = false := fun c hc => by
    cases hd : isD c with
    | false => rfl
    | true =>
      have := (digs_iff cs k).mpr ⟨c, hc, hd⟩
      rw [h] at this
      cases this
  unfold ie
  rw [if_neg (fun z => by have := h1 _ z; revert this; decide)]
  cases hc : cs[k]? with
  | none => exact dend_past (List.getElem?_eq_none_iff.mp hc)
  | some c => exact dend_stop hc (h1 c hc)
theorem e_not (cs : List Nat) (k : Nat) (h : cs[k]? = some 101) : isIn cs k digs.cps.toList = false := by
  cases hi : isIn cs k digs.cps.toList with
  | false => rfl
  | true =>
    obtain ⟨c, hc, hd⟩ := (digs_iff cs k).mp hi
    rw [h] at hc
    cases hc
    revert hd
    decide
theorem d19_iff (cs : List Nat) (k : Nat) : isIn cs k d19 = true ↔ isIn cs k digs.cps.toList = true ∧ ¬ cs[k]? = some 48 := by
  rw [digs_iff]
  constructor
  · intro h
    obtain ⟨c, hc, hm⟩ := isIn_some h
    unfold d19 at hm
    simp only [List.mem_cons, List.not_mem_nil, or_false] at hm
    refine ⟨⟨c, hc, isD_iff.mpr (by omega)⟩, fun z => ?_⟩
    rw [hc] at z
    cases z
    omega
  · rintro ⟨⟨c, hc, hd⟩, h48⟩
    have := isD_iff.mp hd
    have h2 : c ≠ 48 := fun z => h48 (z ▸ hc)
    unfold isIn
    rw [hc]
    refine decide_eq_true ?_
    unfold d19
    simp only [List.mem_cons, List.not_mem_nil, or_false]
    omega
theorem int_cut {z : Str} {l : List Nat} (hz : z.cps.toList = l) (hd : NumText.AllDigits l) (h0 : 0 < l.length) (hl : l.length ≤ 4300) : (∀ c ∈ z.cps.toList, c = 45 ∨ (48 ≤ c ∧ c ≤ 57)) ∧ intText? z = some (dv l) ∧ z.length ≤ sizeLine := by
  have zl := tl_len z
  have sz : sizeLine ≥ 4300 := by decide
  rw [hz] at zl
  refine ⟨fun c hc => .inr (hd c (hz ▸ hc)), ?_, by omega⟩
  rw [PySem.intText_digits (hz ▸ hd) (fun q => ?_) (by omega), hz]
  · rfl
  · rw [hz] at q
    rw [q] at h0
    cases h0
theorem iteT' {b : Bool} {t u : Prop} (hb : b = true) (h : t) : if b = true then t else u := by rw [if_pos hb]; exact h
def spTerm : Sp := fun vs H Q _ => ∃ (t : Str) (k : Nat), vs = [.str t, .int k] ∧ t.length ≤ 20000 ∧ k ≤ t.length ∧ (∀ j, nd t.cps.toList j ≤ 4300) ∧ (match rt t.cps.toList k with
  | .bad col => ∀ (p q : Addr) (H' : Hp) (e pw : Nat), Same H H' → H' p = some (.tup [.int e, .ref q, .int pw, .int col]) → Q (.ref p) H'
  | .ok ab be pw e => ∀ (p q : Addr) (H' : Hp), Same H H' → H' p = some (.tup [.int e, .ref q, .int pw, .int 0]) → H' q = some (.tup [.int (dv ab), .int (dv be)]) → Q (.ref p) H')
section
variable {P : Program} {w : World} {K : PySem.W.Frag} {mg : Str → Option Value} {base : Heap}
theorem scTerm : FnScope ["_law_text", "_law_at", "_law_ratio", "_law_end", "_law_top", "_law_bottom", "_law_last", "_law_power", "_law_column"] psDe (defScope sTerm) := ⟨rfl, rfl, rfl, by decide +kernel, rfl, by decide +kernel, by decide +kernel⟩
theorem ok_term {f fD fL : Addr} {fd dD dL : FuncData} (F : Fun K "_law_term" "_law_term" sTerm f fd) (D : Cl P w K mg base "_law_digits_end" psDe 1 spLDend fD dD) (L : Cl P w K mg base "_law_letter_end" psDe 1 spLetter fL dL)
    (mn : mg "int" = none) (dg : PySem.W.nsIn K cStatics "sys.int_max_str_digits" = some none) : FnOk P w K mg base CX0 2 f fd psDe spTerm := by
  refine F.ok scTerm (fun vs H Q E h => ?_) (fun cdv A outer s H vs Q E hr h => ?_)
  · obtain ⟨t, k, rfl, _⟩ := h
    rfl
  · obtain ⟨t, k0, rfl, tl, hk, hrun, q⟩ := h
    refine ⟨_, pss_cons (ps_set (i := 2) scTerm.nd rfl (Or.inl rfl) (pe_tup (pa_cons pe_int (pa_cons pe_int pa_nil))))
      (C8.pss_cut (ps_if (pt_cmpR op_ne (pe_slice sl_str (pv 0) (po_some (pv 1)) (po_some (pe_op op_add (pv 1) pe_int))) pe_str (nomark _))
          (pss_cons (ps_set (i := 3) scTerm.nd rfl (Or.inl rfl) (pe_call D.G hr (by rfl) D.g D.kp D.b .nil pass0 (pa_cons (pv 0) (pa_cons (pv 1) pa_nil))))
          (pss_cons (ps_if (pt_cmpR op_eq (pv 3) (pv 1) (nomark _)) (pss_one (ps_ret (pe_tup (pa_cons (pv 1) (pa_cons (pv 2) (pa_cons pe_int (pa_cons (pe_op op_add (pv 1) pe_int) pa_nil))))))) pss_nil)
          (pss_cons (ps_par (i := 4) (j := 5) (by rfl) scTerm.nd rfl rfl (by decide) rfl rfl (pa_cons (pe_callTy (call_int_big dg) (by rfl) mn (by decide +kernel) (pa_cons (pe_slice sl_str (pv 0) (po_some (pv 1)) (po_some (pv 3))) pa_nil)) (pa_cons pe_int pa_nil)) (by rfl))
          (C8.pss_cut (ps_if (pt_cmpR op_eq (pe_slice sl_str (pv 0) (po_some (pv 3)) (po_some (pe_op op_add (pv 3) pe_int))) pe_str (nomark _))
              (pss_cons (ps_set (i := 6) scTerm.nd rfl (Or.inl rfl) (pe_call D.G hr (by rfl) D.g D.kp D.b .nil pass0 (pa_cons (pv 0) (pa_cons (pe_op op_add (pv 3) pe_int) pa_nil))))
              (pss_cons (ps_if (PW.pt (pw_or (pt_cmpR op_eq (pv 6) (pe_op op_add (pv 3) pe_int) (nomark _)) (pw_or1 (pt_cmpR op_eq (pe_item_str (pv 0) (pe_op op_add (pv 3) pe_int) (fun _ _ => rfl)) pe_str (nomark _))))) (pss_one (ps_ret (pe_tup (pa_cons (pv 1) (pa_cons (pv 2) (pa_cons pe_int (pa_cons (pe_op op_add (pv 3) pe_int) pa_nil))))))) pss_nil)
              (pss_one (ps_par (i := 5) (j := 3) (by rfl) scTerm.nd rfl rfl (by decide) rfl rfl (pa_cons (pe_callTy (call_int_big dg) (by rfl) mn (by decide +kernel) (pa_cons (pe_slice sl_str (pv 0) (po_some (pe_op op_add (pv 3) pe_int)) (po_some (pv 6))) pa_nil)) (pa_cons (pv 6) pa_nil)) (by rfl))))) pss_nil)
          (pss_cons (ps_set (i := 2) scTerm.nd rfl (Or.inl rfl) (pe_tup (pa_cons (pv 4) (pa_cons (pv 5) pa_nil))))
          (pss_cons (ps_if (pt_cmpR op_ne (pe_slice sl_str (pv 0) (po_some (pv 3)) (po_some (pe_op op_add (pv 3) pe_int))) pe_str (nomark _)) (pss_one (ps_ret (pe_tup (pa_cons (pv 3) (pa_cons (pv 2) (pa_cons pe_int (pa_cons pe_int pa_nil))))))) pss_nil)
          (pss_cons (ps_if (pt_cmpR op_ne (pe_slice sl_str (pv 0) (po_some (pe_op op_add (pv 3) pe_int)) (po_some (pe_op op_add (pv 3) pe_int))) pe_str (nomark _)) (pss_one (ps_ret (pe_tup (pa_cons (pv 1) (pa_cons (pv 2) (pa_cons pe_int (pa_cons (pe_op op_add (pv 3) pe_int) pa_nil))))))) pss_nil)
          (pss_one (ps_set (i := 1) scTerm.nd rfl (Or.inl rfl) (pe_op op_add (pv 3) pe_int)))))))))) pss_nil)
      (pss_cons (ps_asg (pe_call L.G hr (by rfl) L.g L.kp L.b .nil pass0 (pa_cons (pv 0) (pa_cons (pv 1) pa_nil))) (pg_tup (by rfl) (pgs_cons (pg_name (i := 3) scTerm.nd rfl (Or.inl rfl)) (pgs_cons (pg_name (i := 7) scTerm.nd rfl (Or.inl rfl)) (pgs_cons (pg_name (i := 8) scTerm.nd rfl (Or.inl rfl)) pgs_nil)))))
      (pss_one (ps_ret (pe_tup (pa_cons (pv 3) (pa_cons (pv 2) (pa_cons (pv 7) (pa_cons (pv 8) pa_nil))))))))), ?_⟩
    have zl := tl_len t
    have szl : t.length ≤ sizeLine := Nat.le_trans tl (by decide)
    have cu : ∀ k : Nat, cutS t (some (k : Int)) (some ((k : Int) + 1)) = at1 t.cps.toList k := fun k => cut1 t k
    generalize hcs : t.cps.toList = cs at *
    refine ⟨by show 2 ≤ sizeLine; decide, fun r0 hr0 => ?_⟩
    have hr00 : (upd H r0 (.tup [.int 1, .int 1])) r0 = some (.tup [.int 1, .int 1]) := upd_same
    have s0 := same_new (o := .tup [.int 1, .int 1]) hr0
    generalize upd H r0 (.tup [.int 1, .int 1]) = H0 at hr00 s0 ⊢
    refine ⟨fun σ' H' => ∃ (a : Nat) (r : Addr) (ab be : List Nat) (v3 v4 v5 v6 : Option V), σ' = [some (.str t), some (.int a), some (.ref r), v3, v4, v5, v6, none, none] ∧ Same H H' ∧ H' r = some (.tup [.int (dv ab), .int (dv be)]) ∧ cs[a]? = some 101 ∧
      (match rp cs a with
        | .bad col => ∀ (p q : Addr) (H' : Hp) (e pw : Nat), Same H H' → H' p = some (.tup [.int e, .ref q, .int pw, .int col]) → Q (.ref p) H'
        | .ok pw e => ∀ (p q : Addr) (H' : Hp), Same H H' → H' p = some (.tup [.int e, .ref q, .int pw, .int 0]) → H' q = some (.tup [.int (dv ab), .int (dv be)]) → Q (.ref p) H'), ?_, ?_⟩
    · refine ⟨_, rfl, _, rfl, _, rfl, _, rfl, _, _, rfl, rfl, _, rfl, t, rfl, szl, rfl, _, rfl, ?_⟩
      rw [cu, at1_eq (n := 101) (by decide +kernel)]
      unfold rt at q
      by_cases h101 : cs[k0]? = some 101
      · rw [decide_eq_true h101]
        rw [e_not cs k0 h101, if_neg Bool.false_ne_true] at q
        refine iteF ⟨k0, r0, [49], [49], _, _, _, _, rfl, s0, ?_, h101, ?_⟩
        · exact hr00
        · cases hp : rp cs k0 with
          | bad c =>
            rw [hp] at q
            exact q
          | ok pw e =>
            rw [hp] at q
            exact q
      · rw [decide_eq_false h101]
        refine iteT ?_
        refine ⟨_, rfl, _, rfl, t, k0, rfl, tl, hk, fun H1 s1 => ?_⟩
        rw [hcs]
        have s2 := s0.trans s1
        have hr1 := s1 _ _ hr00
        cases hi : isIn cs k0 digs.cps.toList with
        | false =>
          rw [ie_none hi]
          rw [hi, if_neg Bool.false_ne_true] at q
          have hp : rp cs k0 = .bad (k0 + 1) := by
            unfold rp
            rw [if_neg h101]
          rw [hp] at q
          refine ⟨_, rfl, _, rfl, rfl, _, rfl, iteT' (decide_eq_true rfl) ?_⟩
          exact ⟨_, rfl, _, rfl, _, rfl, _, _, rfl, rfl, by show 4 ≤ sizeLine; decide, fun p hp => q p r0 _ k0 0 (s2.trans (same_new hp)) upd_same⟩
        | true =>
          rw [hi, if_pos rfl] at q
          obtain ⟨i1, i2, i3⟩ := ie_cut hi hrun
          have ile := ie_le (cs := cs) (k := k0) (by omega)
          generalize hm : ie cs k0 = m at i1 i2 i3 ile ⊢
          have i4 : (cut cs k0 m).length = m - k0 := cut_len ile
          have hz : (cutS t (some (k0 : Int)) (some (m : Int))).cps.toList = cut cs k0 m := by
            rw [cutS_two t (by omega) (by omega), hcs]
          obtain ⟨a1, a2, a3⟩ := int_cut hz i2 (by omega) i3
          refine ⟨_, rfl, _, rfl, rfl, _, rfl, ite2 (fun h => absurd (keq h) (by omega)) (fun _ => ?_)⟩
          refine ⟨_, rfl, _, rfl, _, rfl, _, rfl, _, rfl, t, rfl, szl, _, _, rfl, a1, a2, a3, _, _, rfl, ?_⟩
          refine ⟨fun σ' H' => ∃ (e : Nat) (be : List Nat) (v6 : Option V), σ' = [some (.str t), some (.int k0), some (.ref r0), some (.int e), some (.int (dv (cut cs k0 m))), some (.int (dv be)), v6, none, none] ∧ Same H H' ∧ rr cs k0 = .ok (cut cs k0 m) be e, ?_, ?_⟩
          · refine ⟨_, rfl, _, rfl, _, rfl, _, rfl, _, _, rfl, rfl, _, rfl, t, rfl, szl, rfl, _, rfl, ?_⟩
            rw [cu, at1_eq (n := 47) (by decide +kernel)]
            by_cases h47 : cs[m]? = some 47
            · rw [decide_eq_true h47]
              have mlt : m < cs.length := (List.getElem?_eq_some_iff.mp h47).1
              refine iteT ⟨_, rfl, _, rfl, _, _, rfl, rfl, t, m + 1, rfl, tl, by omega, fun H2 s3 => ?_⟩
              rw [hcs]
              have s4 := s2.trans s3
              have bad : isIn cs (m + 1) d19 = false → rr cs k0 = .bad (m + 2) := fun hb => by
                unfold rr
                rw [hm, if_pos h47, hb, if_neg Bool.false_ne_true]
              refine ⟨_, rfl, _, rfl, _, _, rfl, rfl, rfl, _, rfl, ite2 (fun h => ?_) (fun h => ?_)⟩
              · have e1 : ie cs (m + 1) = m + 1 := by
                  have := keq h
                  omega
                have hb : isIn cs (m + 1) d19 = false := by
                  cases hd : isIn cs (m + 1) d19 with
                  | false => rfl
                  | true =>
                    have := (ie_cut ((d19_iff cs (m + 1)).mp hd).1 hrun).1
                    omega
                rw [bad hb] at q
                refine iteT ⟨_, rfl, _, rfl, _, rfl, _, _, rfl, rfl, by show 4 ≤ sizeLine; decide, fun p hp => q p r0 _ k0 0 (s4.trans (same_new hp)) upd_same⟩
              · have e1 : ie cs (m + 1) ≠ m + 1 := by
                  have := kne h
                  omega
                have hd : isIn cs (m + 1) digs.cps.toList = true := by
                  cases hd : isIn cs (m + 1) digs.cps.toList with
                  | true => rfl
                  | false => exact absurd (ie_none hd) e1
                obtain ⟨c, hc, _⟩ := isIn_some hd
                have hlt : m + 1 < cs.length := (List.getElem?_eq_some_iff.mp hc).1
                have hg2 : t.cps[((m : Int) + 1).toNat]? = some c := by
                  rw [show ((m : Int) + 1).toNat = m + 1 by omega, ← Array.getElem?_toList, hcs]
                  exact hc
                have ea : at1 cs (m + 1) = (⟨#[c]⟩ : Str) := by
                  unfold at1
                  rw [hc]
                refine ⟨_, rfl, _, rfl, _, _, rfl, rfl, t, _, c, rfl, rfl, by omega, by omega, by omega, hg2, rfl, _, rfl, ?_⟩
                rw [← ea, at1_eq (n := 48) (by decide +kernel)]
                by_cases h48 : cs[m + 1]? = some 48
                · rw [decide_eq_true h48]
                  have hb : isIn cs (m + 1) d19 = false := by
                    cases hd : isIn cs (m + 1) d19 with
                    | false => rfl
                    | true => exact absurd h48 ((d19_iff cs (m + 1)).mp hd).2
                  rw [bad hb] at q
                  refine iteT ⟨_, rfl, _, rfl, _, rfl, _, _, rfl, rfl, by show 4 ≤ sizeLine; decide, fun p hp => q p r0 _ k0 0 (s4.trans (same_new hp)) upd_same⟩
                · rw [decide_eq_false h48]
                  have h19 := (d19_iff cs (m + 1)).mpr ⟨hd, h48⟩
                  have eie : ie cs (m + 1) = dend cs (m + 1) := by
                    unfold ie
                    rw [if_neg h48]
                  obtain ⟨j1, j2, j3⟩ := ie_cut hd hrun
                  rw [eie] at j1 j2 j3 ⊢
                  have jle := dend_le (cs := cs) (k := m + 1) (by omega)
                  have j4 : (cut cs (m + 1) (dend cs (m + 1))).length = dend cs (m + 1) - (m + 1) := cut_len jle
                  have hz2 : (cutS t (some ((m : Int) + 1)) (some ((dend cs (m + 1) : Nat) : Int))).cps.toList = cut cs (m + 1) (dend cs (m + 1)) := by
                    have z := cutS_two t (a := m + 1) (b := dend cs (m + 1)) (by omega) (by omega)
                    rw [hcs] at z
                    exact z
                  obtain ⟨b1, b2, b3⟩ := int_cut hz2 j2 (by omega) j3
                  refine iteF ⟨_, rfl, _, rfl, _, _, rfl, rfl, _, rfl, _, rfl, _, rfl, t, rfl, szl, _, _, rfl, b1, b2, b3, _, rfl, _, _, rfl, ?_⟩
                  refine ⟨dend cs (m + 1), cut cs (m + 1) (dend cs (m + 1)), _, rfl, s4, ?_⟩
                  unfold rr
                  rw [hm, if_pos h47, if_pos h19]
            · rw [decide_eq_false h47]
              refine iteF ⟨m, [49], _, rfl, s2, ?_⟩
              unfold rr
              rw [hm, if_neg h47]
          · rintro σ3 H3 ⟨e, be, v6, rfl, s3, hrr⟩
            rw [hrr] at q
            dsimp only at q
            refine ⟨_, rfl, _, rfl, by show 2 ≤ sizeLine; decide, fun r1 hr1 => ?_⟩
            have s4 := s3.trans (same_new (o := .tup [.int (dv (cut cs k0 m)), .int (dv be)]) hr1)
            have hr2 : (upd H3 r1 (.tup [.int (dv (cut cs k0 m)), .int (dv be)])) r1 = some (.tup [.int (dv (cut cs k0 m)), .int (dv be)]) := upd_same
            refine ⟨_, rfl, _, rfl, _, rfl, _, rfl, _, _, rfl, rfl, _, rfl, t, rfl, szl, rfl, _, rfl, ?_⟩
            rw [cu, at1_eq (n := 42) (by decide +kernel)]
            by_cases h42 : cs[e]? = some 42
            · rw [decide_eq_true h42]
              rw [if_pos h42] at q
              have c2 : cutS t (some ((e : Int) + 1)) (some ((e : Int) + 2)) = at1 cs (e + 1) := by
                have z := cu (e + 1)
                rw [← z]
                rfl
              refine iteF ⟨_, rfl, _, rfl, _, _, rfl, rfl, _, rfl, _, rfl, _, _, rfl, rfl, _, rfl, t, rfl, szl, rfl, _, rfl, ?_⟩
              rw [c2, at1_eq (n := 101) (by decide +kernel)]
              by_cases h1 : cs[e + 1]? = some 101
              · rw [decide_eq_true h1]
                refine iteF ⟨_, rfl, _, _, rfl, rfl, e + 1, r1, _, _, _, _, _, _, rfl, s4, hr2, h1, ?_⟩
                cases hp : rp cs (e + 1) with
                | bad c =>
                  rw [hp] at q
                  exact q
                | ok pw e2 =>
                  rw [hp] at q
                  exact q
              · rw [decide_eq_false h1]
                have hp : rp cs (e + 1) = .bad (e + 1 + 1) := by
                  unfold rp
                  rw [if_neg h1]
                rw [hp] at q
                exact iteT ⟨_, rfl, _, rfl, _, rfl, _, _, rfl, rfl, by show 4 ≤ sizeLine; decide, fun p hp => q p r1 _ k0 0 (s4.trans (same_new hp)) upd_same⟩
            · rw [decide_eq_false h42]
              rw [if_neg h42] at q
              exact iteT ⟨_, rfl, _, rfl, by show 4 ≤ sizeLine; decide, fun p hp => q p r1 _ (s4.trans (same_new hp)) upd_same ((same_new hp) _ _ hr2)⟩
    · rintro σ1 H1 ⟨a, r, ab, be, v3, v4, v5, v6, rfl, s1, hr1, h101, kk⟩
      refine ⟨_, rfl, _, rfl, t, a, rfl, tl, by rw [hcs]; exact h101, ?_⟩
      rw [hcs]
      cases hp : rp cs a with
      | bad c =>
        rw [hp] at kk
        intro p H2 e s2 h2
        refine ⟨p, _, rfl, Or.inl (Or.inl h2), rfl, _, _, rfl, _, _, rfl, _, _, rfl, rfl, ?_⟩
        exact ⟨_, rfl, _, rfl, _, rfl, _, rfl, by show 4 ≤ sizeLine; decide, fun p2 hp2 => kk p2 r _ e 0 ((s1.trans s2).trans (same_new hp2)) upd_same⟩
      | ok pw e =>
        rw [hp] at kk
        intro p H2 s2 h2
        refine ⟨p, _, rfl, Or.inl (Or.inl h2), rfl, _, _, rfl, _, _, rfl, _, _, rfl, rfl, ?_⟩
        exact ⟨_, rfl, _, rfl, _, rfl, _, rfl, by show 4 ≤ sizeLine; decide, fun p2 hp2 => kk p2 r _ ((s1.trans s2).trans (same_new hp2)) upd_same ((s2.trans (same_new hp2)) _ _ hr1)⟩
end
end Fk

set_option Elab.async false
set_option maxRecDepth 100000
namespace Fk
open PySem L2
/-! ### the law's own sums, wider -/
abbrev sLPlus : Stmt := top 59
def spGcd2 : Sp := fun vs H Q _ => ∃ a b : Int, vs = [.int a, .int b] ∧ a.natAbs < 2 ^ 29900 ∧ b.natAbs < 2 ^ 29900 ∧ Q (.int (Nat.gcd a.natAbs b.natAbs : Nat)) H
section
variable {P : Program} {w : World} {K : PySem.W.Frag} {mg : Str → Option Value} {base : Heap}
theorem ok_gcd2 {f : Addr} {fd : FuncData} (F : Fun K "_law_gcd" "_law_gcd" sGcd f fd) (ma : mg "abs" = none) (mr : mg "range" = none) (mi : mg "int" = none) : FnOk P w K mg base CX0 1 f fd psGcd spGcd2 := by
  refine F.ok scGcd (fun vs H Q E h => ?_) (fun cdv A outer s H vs Q E hr h => ?_)
  · obtain ⟨a, b, rfl, _⟩ := h
    rfl
  · obtain ⟨a, b, rfl, ha, hb, k⟩ := h
    refine ⟨_, pss_cons (ps_par (i := 0) (j := 1) (by rfl) scGcd.nd rfl rfl (by decide) rfl rfl (pa_cons (pe_callB call_abs (by rfl) ma (by decide +kernel) (pa_cons (pv 0) pa_nil)) (pa_cons (pe_callB call_abs (by rfl) ma (by decide +kernel) (pa_cons (pv 1) pa_nil)) pa_nil)) (by rfl))
      (pss_cons (ps_for PassesOwn.never rfl (pi_range1 (by rfl) mr (pa_cons pe_int pa_nil)) (pg_name (i := 2) scGcd.nd rfl (Or.inl rfl))
        (pss_cons (ps_if (pt_cmpR op_eq (pv 1) pe_int (nomark _)) (pss_one ps_break) pss_nil)
        (pss_one (ps_par (i := 0) (j := 1) (by rfl) scGcd.nd rfl rfl (by decide) rfl rfl (pa_cons (pv 1) (pa_cons (pe_op op_mod (pe_callTy call_int1 (by rfl) mi (by decide +kernel) (pa_cons (pv 0) pa_nil)) (pv 1)) pa_nil)) (by rfl)))))
      (pss_one (ps_ret (pv 0)))), ?_⟩
    refine ⟨_, rfl, _, rfl, _, rfl, _, rfl, _, _, rfl, ?_⟩
    rw [abs_if, abs_if]
    generalize hx : a.natAbs = x at *
    generalize hy : b.natAbs = y at *
    refine ⟨60000, rfl, by decide, by decide, ?_⟩
    refine for_range (fun i σ H' => ∃ (u v : Nat) (r : Option V), σ = [some (.int u), some (.int v), r] ∧ H' = H ∧ Nat.gcd u v = Nat.gcd x y ∧ (i = 0 → u * v ≤ 2 ^ 59800) ∧ (1 ≤ i → v < u ∧ u * v * 2 ^ i ≤ 2 * 2 ^ 59800)) ⟨x, y, none, rfl, rfl, rfl, fun _ => ?_, fun z => absurd z (by decide)⟩ ?_ ?_
    · have e : (2 : Nat) ^ 59800 = 2 ^ 29900 * 2 ^ 29900 := by rw [← Nat.pow_add]
      rw [e]
      exact Nat.mul_le_mul (Nat.le_of_lt ha) (Nat.le_of_lt hb)
    · rintro i σ H' hi ⟨u, v, r, rfl, rfl, hg, h0, h1⟩
      refine ⟨_, rfl, rfl, _, rfl, ite2 (fun h => ?_) (fun h => ?_)⟩
      · have v0 : v = 0 := by
          have := keq h
          omega
        subst v0
        rw [Nat.gcd_zero_right] at hg
        refine ⟨_, rfl, ?_⟩
        rw [hg]
        exact k
      · have v0 : 0 < v := by
          have := kne h
          omega
        have z := gcd_step v0 h0 h1
        refine ⟨_, rfl, _, rfl, Or.inl ⟨_, rfl, _, rfl, _, _, rfl, rfl, by omega, _, _, rfl, ?_⟩⟩
        refine ⟨v, u % v, _, rfl, rfl, ?_, fun z => absurd z (by omega), fun _ => z⟩
        rw [← hg, Nat.gcd_comm u v, Nat.gcd_rec v u, Nat.gcd_comm]
    · rintro σ H' ⟨u, v, r, rfl, rfl, hg, h0, h1⟩
      obtain ⟨hl, hm⟩ := h1 (by show 1 ≤ (60000 : Int).toNat; decide)
      have v0 := gcd_done hl hm (by show 59800 + 1 < (60000 : Int).toNat; decide)
      subst v0
      rw [Nat.gcd_zero_right] at hg
      refine ⟨_, rfl, ?_⟩
      rw [hg]
      exact k
def spQ2 : Sp := fun vs H Q _ => ∃ (a b : Int), vs = [.int a, .int b] ∧ 0 < b ∧ a.natAbs < 2 ^ 29900 ∧ b.natAbs < 2 ^ 29900 ∧ ∀ p H', Same H H' → FrAt H' p (low a b) → Q (.ref p) H'
theorem ok_q2 {f fG : Addr} {fd dG : FuncData} (F : Fun K "_law_q" "_law_q" sQ f fd) (S : seeB base = true) (ht : P.given.tree = none) (G : Cl P w K mg base "_law_gcd" psGcd 1 spGcd2 fG dG) : FnOk P w K mg base CX0 40 f fd psQ spQ2 := by
  refine F.ok scQ (fun vs H Q E h => ?_) (fun cdv A outer s H vs Q E hr h => ?_)
  · obtain ⟨a, b, rfl, _⟩ := h
    rfl
  · obtain ⟨a, b, rfl, b0, a1, b1, k⟩ := h
    have hdp : (A.deeper (PyProof.Rows.envOfC "_law_q" (defScope sQ) s.heap.objs.size f cdv)).depth + 100 < recursionLimit := by
      have := hr.dp
      omega
    refine ⟨_, pss_cons (ps_set (i := 2) scQ.nd rfl (Or.inl rfl) (pe_call G.G (hr.mono (by decide)) (by rfl) G.g G.kp G.b .nil pass0 (pa_cons (pv 0) (pa_cons (pv 1) pa_nil))))
      (pss_cons (ps_if (pt_cmpR op_lt (pv 1) pe_int (nomark _)) (pss_one (ps_set (i := 2) scQ.nd rfl (Or.inl rfl) (pe_un un_neg (pv 2)))) pss_nil)
      (pss_one (ps_ret (pe_tup (pa_cons (pe_op (op_fdivP S ht hdp rfl rfl rfl rfl rfl) (pv 0) (pv 2)) (pa_cons (pe_op (op_fdivP S ht hdp rfl rfl rfl rfl rfl) (pv 1) (pv 2)) pa_nil)))))), ?_⟩
    have g0 : (0 : Int) < (Nat.gcd a.natAbs b.natAbs : Nat) := by
      have : 0 < Nat.gcd a.natAbs b.natAbs := Nat.gcd_pos_of_pos_right _ (by omega)
      omega
    refine ⟨_, rfl, _, rfl, a, b, rfl, a1, b1, ?_⟩
    refine ⟨_, rfl, _, _, rfl, rfl, _, rfl, ite2 (fun h => absurd (of_decide_eq_true h) (by omega)) (fun _ => ?_)⟩
    exact ⟨_, rfl, _, rfl, _, _, rfl, rfl, g0, _, rfl, _, rfl, _, _, rfl, rfl, g0, by show 2 ≤ sizeLine; decide, fun p hp => k p _ (same_new hp) upd_same⟩
/-- a fraction whose numbers have at most k figures -/
def Fig (k : Nat) (x : Int × Int) : Prop := 0 < x.2 ∧ x.1.natAbs ≤ 10 ^ k ∧ x.2.natAbs ≤ 10 ^ k
theorem fig_small {k : Nat} {x : Int} (h : x.natAbs ≤ 10 ^ k) (hk : k ≤ 8500) : x.natAbs < 2 ^ 29900 := by
  have h1 : 10 ^ k ≤ 10 ^ 8500 := Nat.pow_le_pow_right (by decide) hk
  have h2 : (10 : Nat) ^ 8500 < 2 ^ 29900 := by decide +kernel
  omega
theorem small_sm {x : Int} (h : x.natAbs < 2 ^ 29900) : Sm x := Nat.lt_trans h (Nat.pow_lt_pow_right (by decide) (by decide))
theorem low_fig {k : Nat} {a b : Int} (b0 : 0 < b) (ha : a.natAbs ≤ 10 ^ k) (hb : b.natAbs ≤ 10 ^ k) : Fig k (low a b) := by
  have g0 : 0 < Nat.gcd a.natAbs b.natAbs := Nat.gcd_pos_of_pos_right _ (by omega)
  unfold low Fig
  generalize hg : Nat.gcd a.natAbs b.natAbs = g at g0
  have gb : g ∣ b.natAbs := hg ▸ Nat.gcd_dvd_right _ _
  have ga : g ∣ a.natAbs := hg ▸ Nat.gcd_dvd_left _ _
  have gb' : (g : Int) ∣ b := Int.natAbs_dvd_natAbs.mp (by rw [Int.natAbs_natCast]; exact gb)
  have ga' : (g : Int) ∣ a := Int.natAbs_dvd_natAbs.mp (by rw [Int.natAbs_natCast]; exact ga)
  refine ⟨?_, ?_, ?_⟩
  · exact Int.ediv_pos_of_pos_of_dvd b0 (by omega) gb'
  · show (a / (g : Int)).natAbs ≤ 10 ^ k
    rw [Int.natAbs_ediv_of_dvd ga', Int.natAbs_natCast]
    exact Nat.le_trans (Nat.div_le_self _ _) ha
  · show (b / (g : Int)).natAbs ≤ 10 ^ k
    rw [Int.natAbs_ediv_of_dvd gb', Int.natAbs_natCast]
    exact Nat.le_trans (Nat.div_le_self _ _) hb
theorem add_parts {s t : Nat} {x y : Int × Int} (hx : Fig s x) (hy : Fig t y) : 0 < x.2 * y.2 ∧ (x.1 * y.2 + y.1 * x.2).natAbs ≤ 10 ^ (s + t + 1) ∧ (x.2 * y.2).natAbs ≤ 10 ^ (s + t + 1) := by
  obtain ⟨x0, x1, x2⟩ := hx
  obtain ⟨y0, y1, y2⟩ := hy
  have e : 10 ^ (s + t + 1) = 10 ^ s * 10 ^ t * 10 := by rw [Nat.pow_succ, Nat.pow_add]
  have m : ∀ a b : Int, a.natAbs ≤ 10 ^ s → b.natAbs ≤ 10 ^ t → (a * b).natAbs ≤ 10 ^ s * 10 ^ t := fun a b ha hb => by
    rw [Int.natAbs_mul]
    exact Nat.mul_le_mul ha hb
  have h1 := m x.1 y.2 x1 y2
  have h2 := m x.2 y.1 x2 y1
  have h3 := m x.2 y.2 x2 y2
  have h4 := Int.natAbs_add_le (x.1 * y.2) (y.1 * x.2)
  rw [Int.mul_comm y.1 x.2] at h4 ⊢
  rw [e]
  refine ⟨Int.mul_pos x0 y0, by omega, by omega⟩
theorem add_fig {s t : Nat} {x y : Int × Int} (hx : Fig s x) (hy : Fig t y) : Fig (s + t + 1) (addF x y) := by
  obtain ⟨h1, h2, h3⟩ := add_parts hx hy
  exact low_fig h1 h2 h3
def spLPlus : Sp := fun vs H Q _ => ∃ (p q : Addr) (x y : Int × Int) (s t : Nat), vs = [.ref p, .ref q] ∧ FrAt H p x ∧ FrAt H q y ∧ Fig s x ∧ Fig t y ∧ s + t + 1 ≤ 8500 ∧ ∀ r H', Same H H' → FrAt H' r (addF x y) → Q (.ref r) H'
theorem scLPlus : FnScope psGcd psGcd (defScope sLPlus) := ⟨rfl, rfl, rfl, by decide +kernel, rfl, by decide +kernel, by decide +kernel⟩
theorem ok_lplus {f fQ : Addr} {fd dQ : FuncData} (F : Fun K "_law_plus" "_law_plus" sLPlus f fd) (L : Cl P w K mg base "_law_q" psQ 40 spQ2 fQ dQ) : FnOk P w K mg base CX0 41 f fd psGcd spLPlus := by
  refine F.ok scLPlus (fun vs H Q E h => ?_) (fun cdv A outer s H vs Q E hr h => ?_)
  · obtain ⟨p, q, x, y, s, t, rfl, _⟩ := h
    rfl
  · obtain ⟨p, q, ⟨a, b⟩, ⟨c, d⟩, m, n, rfl, hp, hq, fx, fy, hmn, k⟩ := h
    have st1 : SqT K H p [.int a, .int b] := Or.inl (Or.inl hp)
    have st2 : SqT K H q [.int c, .int d] := Or.inl (Or.inl hq)
    have sm1 : ∀ {z : Int}, z.natAbs ≤ 10 ^ m → Sm z := fun h => small_sm (fig_small h (by omega))
    have sm2 : ∀ {z : Int}, z.natAbs ≤ 10 ^ n → Sm z := fun h => small_sm (fig_small h (by omega))
    obtain ⟨h1, h2, h3⟩ := add_parts fx fy
    refine ⟨_, pss_one (ps_ret (pe_call L.G hr (by rfl) L.g L.kp L.b .nil pass0 (pa_cons (pe_op op_add (pe_op op_mulW (pe_ix ix_tup (pv 0) pe_int (fun _ _ => rfl)) (pe_ix ix_tup (pv 1) pe_int (fun _ _ => rfl))) (pe_op op_mulW (pe_ix ix_tup (pv 1) pe_int (fun _ _ => rfl)) (pe_ix ix_tup (pv 0) pe_int (fun _ _ => rfl))))
      (pa_cons (pe_op op_mulW (pe_ix ix_tup (pv 0) pe_int (fun _ _ => rfl)) (pe_ix ix_tup (pv 1) pe_int (fun _ _ => rfl))) pa_nil)))), ?_⟩
    refine ⟨_, rfl, p, _, 0, _, rfl, rfl, st1, rfl, _, rfl, q, _, 1, _, rfl, rfl, st2, rfl, _, _, rfl, rfl, Sm.mul (sm1 fx.2.1) (sm2 fy.2.2), ?_⟩
    refine ⟨_, rfl, q, _, 0, _, rfl, rfl, st2, rfl, _, rfl, p, _, 1, _, rfl, rfl, st1, rfl, _, _, rfl, rfl, Sm.mul (sm2 fy.2.1) (sm1 fx.2.2), _, _, rfl, rfl, ?_⟩
    refine ⟨_, rfl, p, _, 1, _, rfl, rfl, st1, rfl, _, rfl, q, _, 1, _, rfl, rfl, st2, rfl, _, _, rfl, rfl, Sm.mul (sm1 fx.2.2) (sm2 fy.2.2), ?_⟩
    exact ⟨_, _, rfl, h1, fig_small h2 hmn, fig_small h3 hmn, k⟩
end
end Fk

set_option Elab.async false
set_option maxRecDepth 100000
namespace Fk
open PySem L2
/-! ### what is due: the sums of the terms -/
abbrev sDue : Stmt := top 65
def rep7 : List (Int × Int) := List.replicate 7 (0, 1)
def termF (tm : Tm) : Int × Int := low (tm.sg * dv tm.ab) (dv tm.be)
def stepF (acc : List (Int × Int)) (tm : Tm) : List (Int × Int) := acc.set tm.pw (addF (acc.getD tm.pw (0, 1)) (termF tm))
def sums (ts : List Tm) : List (Int × Int) := ts.foldl stepF rep7
theorem sums_snoc (ts : List Tm) (tm : Tm) : sums (ts ++ [tm]) = stepF (sums ts) tm := by
  unfold sums
  rw [List.foldl_append]
  rfl
theorem sums_len (ts : List Tm) : (sums ts).length = 7 := by
  unfold sums
  suffices h : ∀ (ts : List Tm) (acc : List (Int × Int)), acc.length = 7 → (ts.foldl stepF acc).length = 7 from h ts rep7 rfl
  intro ts
  induction ts with
  | nil => exact fun acc h => h
  | cons t ts ih =>
    intro acc h
    refine ih _ ?_
    unfold stepF
    rw [List.length_set]
    exact h
def FracsAt (H : Hp) (l : Addr) (fs : List (Int × Int)) : Prop := ∃ ps : List Addr, H l = some (.lst (ps.map V.ref)) ∧ Paired (FrAt H) ps fs
theorem Paired.get {α β : Type} {R : α → β → Prop} : ∀ {xs : List α} {ys : List β}, Paired R xs ys → ∀ {j : Nat} {y : β}, ys[j]? = some y → ∃ x, xs[j]? = some x ∧ R x y
  | _, _, .nil, _, _, h => nomatch h
  | _, _, .cons a r, 0, _, h => by
    cases h
    exact ⟨_, rfl, a⟩
  | _, _, .cons a r, j + 1, _, h => Paired.get r (j := j) h
theorem Paired.put {α β : Type} {R : α → β → Prop} {x : α} {y : β} (h : R x y) : ∀ {xs : List α} {ys : List β}, Paired R xs ys → ∀ (j : Nat), Paired R (xs.set j x) (ys.set j y)
  | _, _, .nil, _ => .nil
  | _, _, .cons a r, 0 => .cons h r
  | _, _, .cons a r, j + 1 => .cons a (Paired.put h r j)
theorem fr_upd {H : Hp} {l p : Addr} {x : Int × Int} {xs : List V} {o : HO} (h : FrAt H p x) (hl : H l = some (.lst xs)) : FrAt (L2.upd H l o) p x := by
  unfold FrAt at *
  rw [upd_ne (fun e => by rw [e, hl] at h; cases h)]
  exact h
theorem fr_same {H H' : Hp} {p : Addr} {x : Int × Int} (h : FrAt H p x) (s : Same H H') : FrAt H' p x := s _ _ h
theorem FracsAt.same {H H' : Hp} {l : Addr} {fs : List (Int × Int)} (h : FracsAt H l fs) (s : Same H H') : FracsAt H' l fs := by
  obtain ⟨ps, a, b⟩ := h
  exact ⟨ps, s _ _ a, Paired.imp (fun _ _ z => fr_same z s) b⟩
def Figs (n : Nat) (fs : List (Int × Int)) : Prop := ∃ ss : List Nat, ss.length = fs.length ∧ (∀ (j : Nat) (x : Int × Int) (s : Nat), fs[j]? = some x → ss[j]? = some s → Fig s x) ∧ ss.sum ≤ n
theorem sum_put : ∀ (ss : List Nat) (j s v : Nat), ss[j]? = some s → (ss.set j v).sum + s = ss.sum + v
  | [], _, _, _, h => nomatch h
  | a :: ss, 0, s, v, h => by
    cases h
    show (v :: ss).sum + a = (a :: ss).sum + v
    rw [List.sum_cons, List.sum_cons]
    omega
  | a :: ss, j + 1, s, v, h => by
    have z := sum_put ss j s v h
    show (a :: ss.set j v).sum + s = (a :: ss).sum + v
    rw [List.sum_cons, List.sum_cons]
    omega
theorem le_sum : ∀ (ss : List Nat) (j s : Nat), ss[j]? = some s → s ≤ ss.sum
  | [], _, _, h => nomatch h
  | a :: ss, 0, s, h => by
    cases h
    rw [List.sum_cons]
    omega
  | a :: ss, j + 1, s, h => by
    have z := le_sum ss j s h
    rw [List.sum_cons]
    omega
theorem Figs.get {n j : Nat} {fs : List (Int × Int)} {x : Int × Int} (h : Figs n fs) (hx : fs[j]? = some x) : ∃ s, s ≤ n ∧ Fig s x := by
  obtain ⟨ss, h1, h2, h3⟩ := h
  have hj := (List.getElem?_eq_some_iff.mp hx).1
  have e : ss[j]? = some ss[j] := List.getElem?_eq_getElem (by omega)
  exact ⟨ss[j], Nat.le_trans (le_sum ss j _ e) h3, h2 j x _ hx e⟩
theorem Figs.put {n j t : Nat} {fs : List (Int × Int)} {x y : Int × Int} (h : Figs n fs) (hx : fs[j]? = some x) (hy : Fig t y) : Figs (n + t + 1) (fs.set j (addF x y)) := by
  obtain ⟨ss, h1, h2, h3⟩ := h
  have hj := (List.getElem?_eq_some_iff.mp hx).1
  have e : ss[j]? = some ss[j] := List.getElem?_eq_getElem (by omega)
  have z := sum_put ss j _ (ss[j] + t + 1) e
  refine ⟨ss.set j (ss[j] + t + 1), by rw [List.length_set, List.length_set, h1], fun i u v hu hv => ?_, by omega⟩
  by_cases hi : j = i
  · subst hi
    rw [List.getElem?_set_self hj] at hu
    rw [List.getElem?_set_self (by omega)] at hv
    cases hu
    cases hv
    exact add_fig (h2 j x _ hx e) hy
  · rw [List.getElem?_set_ne hi] at hu hv
    exact h2 i u v hu hv
theorem Figs.start : Figs 0 rep7 := by
  refine ⟨List.replicate 7 0, rfl, fun j x s hx hs => ?_, by decide⟩
  unfold rep7 at hx
  rw [List.getElem?_replicate] at hx hs
  split at hx
  · split at hs
    · cases hx
      cases hs
      exact ⟨by decide, by decide, by decide⟩
    · rename_i a b
      exact absurd a b
  · cases hx
theorem Figs.mono {m n : Nat} {fs : List (Int × Int)} (h : Figs m fs) (hmn : m ≤ n) : Figs n fs := by
  obtain ⟨ss, h1, h2, h3⟩ := h
  exact ⟨ss, h1, h2, by omega⟩
/-- the figures of a term -/
theorem dv_le {l : List Nat} (h : NumText.AllDigits l) : (dv l).natAbs ≤ 10 ^ l.length := by
  unfold dv
  rw [Int.natAbs_natCast]
  exact Nat.le_of_lt (dv_lt l h)
theorem dv_pos {cs : List Nat} {k : Nat} (h : isIn cs k d19 = true) (hd : NumText.AllDigits (cut cs k (dend cs k))) (hl : k < dend cs k) : 0 < dv (cut cs k (dend cs k)) := by
  obtain ⟨c, hc, hm⟩ := isIn_some h
  have hlt := (List.getElem?_eq_some_iff.mp hc).1
  have e : cut cs k (dend cs k) = c :: (cs.drop (k + 1)).take (dend cs k - k - 1) := by
    unfold cut
    rw [List.drop_eq_getElem_cons hlt]
    obtain ⟨m, hm2⟩ : ∃ m, dend cs k - k = m + 1 := ⟨dend cs k - k - 1, by omega⟩
    rw [hm2, List.take_succ_cons, (List.getElem?_eq_some_iff.mp hc).2]
    rfl
  rw [e]
  unfold dv
  have c49 : 49 ≤ c := by
    unfold d19 at hm
    simp only [List.mem_cons, List.not_mem_nil, or_false] at hm
    omega
  exact Int.ofNat_lt.mpr (NumText.digitsVal_pos c49)
theorem fig1 : NumText.AllDigits [49] := fun c hc => by rw [List.mem_singleton.mp hc]; exact ⟨by decide, by decide⟩
theorem rr_fig {cs : List Nat} {k e : Nat} {ab be : List Nat} (hr : ∀ j, nd cs j ≤ 4300) (hi : isIn cs k digs.cps.toList = true) (h : rr cs k = .ok ab be e) : ∃ t, t + k ≤ e ∧ (dv ab).natAbs ≤ 10 ^ t ∧ 0 < dv be ∧ (dv be).natAbs ≤ 10 ^ t := by
  obtain ⟨i1, i2, _⟩ := ie_cut hi hr
  have hk : k ≤ cs.length := by
    have := isIn_lt hi
    omega
  have ile := ie_le hk
  have l1 : (cut cs k (ie cs k)).length = ie cs k - k := cut_len ile
  have d1 := dv_le i2
  rw [l1] at d1
  unfold rr at h
  split at h
  · rename_i h47
    have mlt := (List.getElem?_eq_some_iff.mp h47).1
    split at h
    · rename_i h19
      have jd := (d19_iff cs (ie cs k + 1)).mp h19
      have j1 := (ie_cut jd.1 hr).1
      have eie : ie cs (ie cs k + 1) = dend cs (ie cs k + 1) := if_neg jd.2
      rw [eie] at j1
      have jle := dend_le (cs := cs) (k := ie cs k + 1) (by omega)
      have l2 : (cut cs (ie cs k + 1) (dend cs (ie cs k + 1))).length = dend cs (ie cs k + 1) - (ie cs k + 1) := cut_len jle
      have d2 := dv_le (cut_digits cs (ie cs k + 1))
      rw [l2] at d2
      cases h
      refine ⟨dend cs (ie cs k + 1) - k, by omega, Nat.le_trans d1 (Nat.pow_le_pow_right (by decide) (by omega)), dv_pos h19 (cut_digits _ _) j1, Nat.le_trans d2 (Nat.pow_le_pow_right (by decide) (by omega))⟩
    · cases h
  · cases h
    exact ⟨ie cs k - k, by omega, d1, by decide, by show 1 ≤ 10 ^ (ie cs k - k); exact Nat.pow_pos (by decide)⟩
theorem rp_pw {cs : List Nat} {k e pw : Nat} (h : rp cs k = .ok pw e) : pw ≤ 6 := by
  unfold rp at h
  split at h
  · split at h
    · split at h
      · rename_i g
        obtain ⟨c, hc, hm⟩ := isIn_some g
        have eg : cs.getD (k + 2) 0 = c := by
          rw [List.getD_eq_getElem?_getD, hc]
          rfl
        rw [eg] at h
        cases h
        unfold d26 at hm
        simp only [List.mem_cons, List.not_mem_nil, or_false] at hm
        omega
      · cases h
    · cases h
      decide
  · cases h
theorem rt_fig {cs : List Nat} {k e pw : Nat} {ab be : List Nat} (hr : ∀ j, nd cs j ≤ 4300) (h : rt cs k = .ok ab be pw e) : pw ≤ 6 ∧ ∃ t, t + k ≤ e ∧ (dv ab).natAbs ≤ 10 ^ t ∧ 0 < dv be ∧ (dv be).natAbs ≤ 10 ^ t := by
  unfold rt at h
  split at h
  · rename_i hi
    split at h
    · cases h
    · rename_i ab' be' e' hrr
      obtain ⟨t, t1, t2, t3, t4⟩ := rr_fig hr hi hrr
      split at h
      · split at h
        · cases h
        · rename_i pw' e2 hp
          have h2 := rp_le hp
          have h3 := rp_pw hp
          cases h
          exact ⟨h3, t, by omega, t2, t3, t4⟩
      · cases h
        exact ⟨by decide, t, t1, t2, t3, t4⟩
  · split at h
    · cases h
    · rename_i pw' e2 hp
      have h2 := rp_le hp
      have h3 := rp_pw hp
      cases h
      exact ⟨h3, 0, by omega, by decide, by decide, by decide⟩
end Fk

set_option Elab.async false
set_option maxRecDepth 100000
namespace Fk
open PySem L2
/-! ### due -/
abbrev psT : List Str := ["_law_text"]
def spDue : Sp := fun vs H Q _ => ∃ t : Str, vs = [.str t] ∧ t.length ≤ 8300 ∧ (∀ j, nd t.cps.toList j ≤ 4300) ∧ (match rts (t.length + 2) t.cps.toList (st t.cps.toList) (sgn (st t.cps.toList)) [] with
  | .bad col => ∀ H', Same H H' → Q (.int col) H'
  | .ok ts => ∀ (l : Addr) (H' : Hp), Same H H' → FracsAt H' l (sums ts) → Q (.ref l) H')
theorem first_sign (t : Str) : decide (V.str (cutS t none (some 1)) = V.str "-") = decide (t.cps.toList.head? = some 45) := by
  have e : (cutS t none (some ((1 : Nat) : Int))).cps.toList = t.cps.toList.take 1 := by
    unfold cutS
    rw [HT.sIx_nat, HT.sIx_none, List.toList_toArray, List.drop_zero, Nat.sub_zero, ← tl_len t]
    cases t.cps.toList with
    | nil => rfl
    | cons c r => rw [Nat.min_eq_left (by show 1 ≤ r.length + 1; omega)]
  by_cases h : t.cps.toList.head? = some 45
  · rw [decide_eq_true h]
    refine decide_eq_true ?_
    have z : cutS t none (some ((1 : Nat) : Int)) = ("-" : Str) := ext (by
      rw [e]
      cases q : t.cps.toList with
      | nil =>
        rw [q] at h
        cases h
      | cons c r =>
        rw [q] at h
        rw [Option.some.inj h]
        rfl)
    exact congrArg V.str z
  · rw [decide_eq_false h]
    refine decide_eq_false fun z => h ?_
    have z1 : cutS t none (some ((1 : Nat) : Int)) = ("-" : Str) := V.str.inj z
    have z2 := congrArg (fun s : Str => s.cps.toList) z1
    have z3 : (cutS t none (some ((1 : Nat) : Int))).cps.toList = [45] := z2
    rw [e] at z3
    cases q : t.cps.toList with
    | nil =>
      rw [q] at z3
      cases z3
    | cons c r =>
      rw [q] at z3
      have z4 : [c] = [45] := z3
      rw [(List.cons.inj z4).1]
      rfl
theorem rp_bad {cs : List Nat} {k c : Nat} (h : rp cs k = .bad c) : 1 ≤ c := by
  unfold rp at h
  split at h
  · split at h
    · split at h
      · cases h
      · cases h
        omega
    · cases h
  · cases h
    omega
theorem rt_bad {cs : List Nat} {k c : Nat} (h : rt cs k = .bad c) : 1 ≤ c := by
  unfold rt at h
  split at h
  · split at h
    · rename_i c' hrr
      unfold rr at hrr
      split at hrr
      · split at hrr
        · cases hrr
        · cases hrr
          cases h
          omega
      · cases hrr
    · split at h
      · split at h
        · rename_i c' hp
          have := rp_bad hp
          cases h
          exact this
        · cases h
      · cases h
  · split at h
    · rename_i c' hp
      have := rp_bad hp
      cases h
      exact this
    · cases h
theorem pm_signs : signsOf ("+-" : Str) = [V.str "+", V.str "-"] := by
  have e1 : (⟨#[43]⟩ : Str) = "+" := ext (by decide +kernel)
  have e2 : (⟨#[45]⟩ : Str) = "-" := ext (by decide +kernel)
  unfold signsOf
  rw [pm_list]
  show [V.str ⟨#[43]⟩, V.str ⟨#[45]⟩] = _
  rw [e1, e2]
section
variable {P : Program} {w : World} {K : PySem.W.Frag} {mg : Str → Option Value} {base : Heap}
theorem scDue : FnScope ["_law_text", "_law_found", "_law_sign", "_law_at", "_law_lap", "_law_end", "_law_ratio", "_law_power", "_law_column"] psT (defScope sDue) := ⟨rfl, rfl, rfl, by decide +kernel, rfl, by decide +kernel, by decide +kernel⟩
theorem ok_due {f fT fP fQ : Addr} {fd dT dP dQ : FuncData} (F : Fun K "_law_due" "_law_due" sDue f fd) (T : Cl P w K mg base "_law_term" psDe 2 spTerm fT dT) (A1 : Cl P w K mg base "_law_plus" psGcd 41 spLPlus fP dP) (C : Cl P w K mg base "_law_q" psQ 40 spQ2 fQ dQ)
    (ml : mg "len" = none) (mr : mg "range" = none) : FnOk P w K mg base CX0 42 f fd psT spDue := by
  refine F.ok scDue (fun vs H Q E h => ?_) (fun cdv A outer s H vs Q E hr h => ?_)
  · obtain ⟨t, rfl, _⟩ := h
    rfl
  · obtain ⟨t, rfl, tl, hrun, q⟩ := h
    have hr2 : Room 2 _ := hr.mono (by decide)
    have hr40 : Room 40 _ := hr.mono (by decide)
    refine ⟨_, pss_cons (ps_set (i := 1) scDue.nd rfl (Or.inl rfl) (pe_op op_rep (pe_lst (pa_cons (pe_tup (pa_cons pe_int (pa_cons pe_int pa_nil))) pa_nil)) pe_int))
      (C8.pss_cut (ps_asg (pe_ifExp (pt_cmpR op_eq (pe_slice sl_str (pv 0) po_none (po_some pe_int)) pe_str (nomark _)) (pe_tup (pa_cons (pe_un un_neg pe_int) (pa_cons pe_int pa_nil))) (pe_tup (pa_cons pe_int (pa_cons pe_int pa_nil)))) (pg_tup (by rfl) (pgs_cons (pg_name (i := 2) scDue.nd rfl (Or.inl rfl)) (pgs_cons (pg_name (i := 3) scDue.nd rfl (Or.inl rfl)) pgs_nil))))
      (pss_cons (ps_for PassesOwn.never rfl (pi_range1 (by rfl) mr (pa_cons (pe_op op_add (pe_callB call_len_str (by rfl) ml PySem.boot_len (pa_cons (pv 0) pa_nil)) pe_int) pa_nil)) (pg_name (i := 4) scDue.nd rfl (Or.inl rfl))
        (pss_cons (ps_asg (pe_call T.G hr2 (by rfl) T.g T.kp T.b .nil pass0 (pa_cons (pv 0) (pa_cons (pv 3) pa_nil))) (pg_tup (by rfl) (pgs_cons (pg_name (i := 5) scDue.nd rfl (Or.inl rfl)) (pgs_cons (pg_name (i := 6) scDue.nd rfl (Or.inl rfl)) (pgs_cons (pg_name (i := 7) scDue.nd rfl (Or.inl rfl)) (pgs_cons (pg_name (i := 8) scDue.nd rfl (Or.inl rfl)) pgs_nil))))))
        (pss_cons (ps_if (pt_cmpR op_gt (pv 8) pe_int (nomark _)) (pss_one (ps_ret (pv 8))) pss_nil)
        (pss_cons (ps_asg (pe_call A1.G hr (by rfl) A1.g A1.kp A1.b .nil pass0 (pa_cons (pe_ix ix_list (pv 1) (pv 7) (fun _ _ => rfl)) (pa_cons (pe_call C.G hr40 (by rfl) C.g C.kp C.b .nil pass0 (pa_cons (pe_op op_mul (pv 2) (pe_ix ix_tup (pv 6) pe_int (fun _ _ => rfl))) (pa_cons (pe_ix ix_tup (pv 6) pe_int (fun _ _ => rfl)) pa_nil))) pa_nil))) (pg_sub (pv 1) (pv 7) set_list))
        (pss_cons (ps_if (pt_cmpR op_eq (pv 5) (pe_callB call_len_str (by rfl) ml PySem.boot_len (pa_cons (pv 0) pa_nil)) (nomark _)) (pss_one (ps_ret (pv 1))) pss_nil)
        (pss_cons (ps_if (pt_cmpR op_notIn_seq (pe_item_str (pv 0) (pv 5) (fun _ _ => rfl)) (pe_lst (pa_cons pe_str (pa_cons pe_str pa_nil))) (by with_unfolding_all rfl)) (pss_one (ps_ret (pe_op op_add (pv 5) pe_int))) pss_nil)
        (pss_one (ps_par (i := 2) (j := 3) (by rfl) scDue.nd rfl rfl (by decide) rfl rfl (pa_cons (pe_ifExp (pt_cmpR op_eq (pe_item_str (pv 0) (pv 5) (fun _ _ => rfl)) pe_str (nomark _)) pe_int (pe_un un_neg pe_int)) (pa_cons (pe_op op_add (pv 5) pe_int) pa_nil)) (by rfl)))))))))
      (pss_one (ps_ret pe_non)))), ?_⟩
    have zl := tl_len t
    have szl : t.length ≤ sizeLine := Nat.le_trans tl (by decide)
    generalize hcs : t.cps.toList = cs at *
    have sle := st_le cs
    refine ⟨by show 2 ≤ sizeLine; decide, fun p0 hp0 => ⟨by show 1 ≤ sizeLine; decide, fun l0 hl0 => ?_⟩⟩
    refine ⟨l0, 7, _, rfl, rfl, upd_same, by decide, by decide, by show 1 * 7 ≤ sizeLine; decide, fun l hl => ?_⟩
    have s0 : Same H (upd (upd (upd H p0 (.tup [.int 0, .int 1])) l0 (.lst [.ref p0])) l (.lst (List.replicate (7 : Int).toNat [V.ref p0]).flatten)) := ((same_new hp0).trans (same_new hl0)).trans (same_new hl)
    have hlH : H l = none := ((same_new hp0).trans (same_new hl0)).free hl
    have f0 : FracsAt (upd (upd (upd H p0 (.tup [.int 0, .int 1])) l0 (.lst [.ref p0])) l (.lst (List.replicate (7 : Int).toNat [V.ref p0]).flatten)) l rep7 := by
      have z : FrAt (upd (upd (upd H p0 (.tup [.int 0, .int 1])) l0 (.lst [.ref p0])) l (.lst (List.replicate (7 : Int).toNat [V.ref p0]).flatten)) p0 (0, 1) := ((same_new hl0).trans (same_new hl)) _ _ upd_same
      exact ⟨List.replicate 7 p0, upd_same, .cons z (.cons z (.cons z (.cons z (.cons z (.cons z (.cons z .nil))))))⟩
    generalize upd (upd (upd H p0 (.tup [.int 0, .int 1])) l0 (.lst [.ref p0])) l (.lst (List.replicate (7 : Int).toNat [V.ref p0]).flatten) = H0 at s0 f0 ⊢
    refine ⟨fun σ' H' => σ' = [some (.str t), some (.ref l), some (.int (sgn (st cs))), some (.int (st cs : Nat)), none, none, none, none, none] ∧ Same H H' ∧ FracsAt H' l rep7, ?_, ?_⟩
    · refine ⟨_, rfl, _, rfl, t, rfl, szl, rfl, _, rfl, ?_⟩
      rw [first_sign, hcs]
      refine ite2 (fun h => ?_) (fun h => ?_)
      · have e : st cs = 1 := if_pos (of_decide_eq_true h)
        rw [e]
        refine ⟨_, rfl, by show 2 ≤ sizeLine; decide, fun p hp => ⟨p, _, rfl, Or.inl (Or.inl upd_same), rfl, _, _, rfl, _, _, rfl, rfl, rfl, s0.trans (same_new hp), f0.same (same_new hp)⟩⟩
      · have e : st cs = 0 := if_neg (fun z => h (decide_eq_true z))
        rw [e]
        refine ⟨by show 2 ≤ sizeLine; decide, fun p hp => ⟨p, _, rfl, Or.inl (Or.inl upd_same), rfl, _, _, rfl, _, _, rfl, rfl, rfl, s0.trans (same_new hp), f0.same (same_new hp)⟩⟩
    clear s0 f0
    rintro σ1 H1 ⟨rfl, s1, f1⟩
    generalize hR : rts (t.length + 2) cs (st cs) (sgn (st cs)) [] = R at q
    refine ⟨_, rfl, t, rfl, szl, _, _, rfl, rfl, (t.length : Int) + 1, rfl, by omega, by omega, ?_⟩
    have en : ((t.length : Int) + 1).toNat = t.length + 1 := by omega
    rw [en]
    refine for_range (fun i σ H' => ∃ (f at_ : Nat) (sg : Int) (ts0 : List Tm) (v4 v5 v6 v7 v8 : Option V), σ = [some (.str t), some (.ref l), some (.int sg), some (.int at_), v4, v5, v6, v7, v8] ∧ Same H H' ∧ FracsAt H' l (sums ts0) ∧ Figs at_ (sums ts0) ∧ at_ ≤ cs.length ∧ cs.length + 1 ≤ f + at_ ∧ i ≤ at_ ∧ (sg = 1 ∨ sg = -1) ∧ rts f cs at_ sg ts0 = R)
      ⟨t.length + 2, st cs, sgn (st cs), [], none, none, none, none, none, rfl, s1, f1, Figs.start.mono (Nat.zero_le _), sle, by omega, Nat.zero_le _, ?_, hR⟩ ?_ ?_
    · unfold sgn
      split
      · exact .inr rfl
      · exact .inl rfl
    · rintro i σ H2 hi ⟨f, at_, sg, ts0, v4, v5, v6, v7, v8, rfl, s2, f2, g2, h1, h2, h3, hsg, hf⟩
      refine ⟨_, rfl, _, rfl, t, at_, rfl, by omega, by omega, by rw [hcs]; exact hrun, ?_⟩
      rw [hcs]
      obtain ⟨f, rfl⟩ : ∃ g, f = g + 1 := ⟨f - 1, by omega⟩
      unfold rts at hf
      cases hrt : rt cs at_ with
      | bad c =>
        rw [hrt] at hf
        dsimp only at hf
        rw [← hf] at q
        have c1 := rt_bad hrt
        intro p p1 H3 e pw s3 hp
        refine ⟨p, _, rfl, Or.inl (Or.inl hp), rfl, _, _, rfl, _, _, rfl, _, _, rfl, _, _, rfl, rfl, ?_⟩
        refine ⟨_, rfl, _, _, rfl, rfl, _, rfl, iteT' (decide_eq_true (by omega)) ⟨_, rfl, q H3 (s2.trans s3)⟩⟩
      | ok ab be pw e =>
        rw [hrt] at hf
        dsimp only at hf
        obtain ⟨e1, e2⟩ := rt_le h1 hrt
        obtain ⟨pw6, tt, t1, t2, t3, t4⟩ := rt_fig hrun hrt
        intro p p1 H3 s3 hp hp1
        refine ⟨p, _, rfl, Or.inl (Or.inl hp), rfl, _, _, rfl, _, _, rfl, _, _, rfl, _, _, rfl, rfl, ?_⟩
        refine ⟨_, rfl, _, _, rfl, rfl, _, rfl, iteF ?_⟩
        have f3 := f2.same s3
        obtain ⟨ps, hl3, hps⟩ := f3
        have l7 := sums_len ts0
        have hx : (sums ts0)[pw]? = some ((sums ts0).getD pw (0, 1)) := by
          rw [List.getD_eq_getElem?_getD, List.getElem?_eq_getElem (by omega)]
          rfl
        obtain ⟨pj, hpj, hfr⟩ := Paired.get hps hx
        generalize hxx : (sums ts0).getD pw (0, 1) = x at hx hfr
        obtain ⟨sx, sx1, sx2⟩ := g2.get hx
        have sq3 : SqL K H3 l (ps.map V.ref) := Or.inl (Or.inl hl3)
        have st3 : SqT K H3 p1 [.int (dv ab), .int (dv be)] := Or.inl (Or.inl hp1)
        have hat : atI (ps.map V.ref) ((pw : Nat) : Int) = some (.ref pj) := atI_nat (by rw [List.getElem?_map, hpj]; rfl)
        have sga : (sg * dv ab).natAbs = (dv ab).natAbs := by
          rcases hsg with rfl | rfl
          · rw [Int.one_mul]
          · rw [Int.neg_mul, Int.one_mul, Int.natAbs_neg]
        have t2' : (sg * dv ab).natAbs ≤ 10 ^ tt := by rw [sga]; exact t2
        have fy : Fig tt (low (sg * dv ab) (dv be)) := low_fig t3 t2' t4
        refine ⟨_, rfl, _, rfl, l, _, _, _, rfl, rfl, sq3, hat, _, rfl, _, rfl, p1, _, 0, _, rfl, rfl, st3, rfl, _, _, rfl, rfl, Or.inl ⟨by rcases hsg with rfl | rfl <;> decide, by rcases hsg with rfl | rfl <;> decide⟩, ?_⟩
        refine ⟨_, rfl, p1, _, 1, _, rfl, rfl, st3, rfl, _, _, rfl, t3, fig_small t2' (by omega), fig_small t4 (by omega), fun r2 H4 s4 hr4 => ?_⟩
        refine ⟨pj, r2, x, _, sx, tt, rfl, fr_same hfr s4, hr4, sx2, fy, by omega, fun r3 H5 s5 hr5 => ?_⟩
        have s35 := s4.trans s5
        have hl5 := s35 _ _ hl3
        have pl : ps.length = (sums ts0).length := Paired.len hps
        have hix : ixN (ps.map V.ref).length ((pw : Nat) : Int) = some pw := by
          unfold ixN
          rw [if_pos (by omega), if_pos (by rw [List.length_map]; omega)]
          rfl
        refine ⟨_, rfl, _, rfl, l, _, _, pw, rfl, rfl, hl5, hix, ?_⟩
        have esum : (sums ts0).set pw (addF x (low (sg * dv ab) (dv be))) = sums (ts0 ++ [⟨sg, ab, be, pw⟩]) := by
          rw [sums_snoc]
          unfold stepF termF
          rw [hxx]
        have f6 : FracsAt (upd H5 l (.lst ((ps.map V.ref).set pw (.ref r3)))) l (sums (ts0 ++ [⟨sg, ab, be, pw⟩])) := by
          rw [← esum]
          refine ⟨ps.set pw r3, by rw [upd_same, List.map_set], Paired.put (fr_upd hr5 hl5) (Paired.imp (fun a b z => fr_upd (fr_same z s35) hl5) hps) pw⟩
        have s6 : Same H (upd H5 l (.lst ((ps.map V.ref).set pw (.ref r3)))) := fun b o eb => by
          rw [upd_ne (ne_of_none eb hlH)]
          exact ((s2.trans s3).trans s35) _ _ eb
        have g6 : Figs (e + 1) (sums (ts0 ++ [⟨sg, ab, be, pw⟩])) := by
          rw [← esum]
          exact (g2.put hx fy).mono (by omega)
        generalize upd H5 l (.lst ((ps.map V.ref).set pw (.ref r3))) = H6 at f6 s6 ⊢
        refine ⟨_, rfl, _, rfl, t, rfl, szl, rfl, _, rfl, ite2 (fun h => ?_) (fun h => ?_)⟩
        · have ee : e = cs.length := by
            have := keq h
            omega
          rw [if_pos ee] at hf
          rw [← hf] at q
          exact ⟨_, rfl, q l H6 s6 f6⟩
        · have ne : ¬ e = cs.length := by
            have := kne h
            omega
          rw [if_neg ne] at hf
          have hlt : e < cs.length := by omega
          have hge : cs[e]? = some (cs[e]'hlt) := List.getElem?_eq_getElem hlt
          have hg2 : t.cps[(e : Int).toNat]? = some (cs[e]'hlt) := by
            rw [Int.toNat_natCast, ← Array.getElem?_toList, hcs]
            exact hge
          have ea : at1 cs e = (⟨#[cs[e]'hlt]⟩ : Str) := by
            unfold at1
            rw [hge]
          refine ⟨_, rfl, _, rfl, t, e, _, rfl, rfl, by omega, by omega, by omega, hg2, by show 2 ≤ sizeLine; decide, fun lq hlq => ?_⟩
          refine ⟨lq, _, rfl, .inl (Or.inl (Or.inl upd_same)), rfl, rfl, _, rfl, ?_⟩
          rw [← ea, ← pm_signs, in_at, pm_list]
          have f7 := f6.same (same_new (o := .lst [V.str "+", V.str "-"]) hlq)
          have s7 := s6.trans (same_new (o := .lst [V.str "+", V.str "-"]) hlq)
          rw [pm_signs]
          generalize upd H6 lq (.lst [V.str "+", V.str "-"]) = H7 at f7 s7 ⊢
          cases hi : isIn cs e [43, 45] with
          | false =>
            rw [hi, if_neg Bool.false_ne_true] at hf
            rw [← hf] at q
            exact iteT ⟨_, rfl, _, _, rfl, rfl, q H7 s7⟩
          | true =>
            rw [hi, if_pos rfl] at hf
            refine iteF ?_
            refine ⟨_, rfl, _, rfl, t, e, _, rfl, rfl, by omega, by omega, by omega, hg2, rfl, _, rfl, ?_⟩
            rw [← ea, at1_eq (n := 43) (by decide +kernel)]
            refine ite2 (fun h => ?_) (fun h => ?_)
            · rw [if_pos (of_decide_eq_true h)] at hf
              exact ⟨_, rfl, _, _, rfl, rfl, _, _, rfl, f, e + 1, _, _, _, _, _, _, _, rfl, s7, f7, g6, by omega, by omega, by omega, .inl rfl, hf⟩
            · rw [if_neg (fun z => h (decide_eq_true z))] at hf
              exact ⟨_, rfl, _, rfl, _, _, rfl, rfl, _, _, rfl, f, e + 1, _, _, _, _, _, _, _, rfl, s7, f7, g6, by omega, by omega, by omega, .inr rfl, hf⟩
    · rintro σ H2 ⟨f, at_, sg, ts0, v4, v5, v6, v7, v8, rfl, s2, f2, g2, h1, h2, h3, hsg, hf⟩
      omega
end
end Fk

set_option Elab.async false
set_option maxRecDepth 100000
namespace Fk
open PySem L2
/-! ### shared_bottom -/
def shStep (s : Int) (x : Int × Int) : Int := s / (Nat.gcd s.natAbs x.2.natAbs : Nat) * x.2
def shF (fs : List (Int × Int)) : Int := fs.foldl shStep 1
theorem shF_snoc (fs : List (Int × Int)) (x : Int × Int) : shF (fs ++ [x]) = shStep (shF fs) x := by
  unfold shF
  rw [List.foldl_append]
  rfl
theorem gcd_dvd_int (a b : Int) : ((Nat.gcd a.natAbs b.natAbs : Nat) : Int) ∣ a := Int.natAbs_dvd_natAbs.mp (by rw [Int.natAbs_natCast]; exact Nat.gcd_dvd_left _ _)
theorem gcd_dvd_int' (a b : Int) : ((Nat.gcd a.natAbs b.natAbs : Nat) : Int) ∣ b := Int.natAbs_dvd_natAbs.mp (by rw [Int.natAbs_natCast]; exact Nat.gcd_dvd_right _ _)
theorem gcd_pos_int {a b : Int} (h : 0 < b) : (0 : Int) < (Nat.gcd a.natAbs b.natAbs : Nat) := by
  have : 0 < Nat.gcd a.natAbs b.natAbs := Nat.gcd_pos_of_pos_right _ (by omega)
  omega
theorem shStep_pos {s : Int} {x : Int × Int} (hs : 0 < s) (hx : 0 < x.2) : 0 < shStep s x :=
  Int.mul_pos (Int.ediv_pos_of_pos_of_dvd hs (by have := gcd_pos_int (a := s) hx; omega) (gcd_dvd_int s x.2)) hx
theorem shStep_old {s : Int} {x : Int × Int} : s ∣ shStep s x := by
  obtain ⟨c, hc⟩ := gcd_dvd_int' s x.2
  obtain ⟨d, hd⟩ := gcd_dvd_int s x.2
  refine ⟨c, ?_⟩
  unfold shStep
  generalize hg : ((Nat.gcd s.natAbs x.2.natAbs : Nat) : Int) = g at *
  by_cases g0 : g = 0
  · rw [g0, Int.zero_mul] at hd
    rw [hd, Int.zero_ediv, Int.zero_mul, Int.zero_mul]
  · have e : s / g = d := by
      rw [hd, Int.mul_ediv_cancel_left _ g0]
    rw [e, hc, hd, ← Int.mul_assoc, Int.mul_comm d g]
theorem shStep_new {s : Int} {x : Int × Int} : x.2 ∣ shStep s x := ⟨s / (Nat.gcd s.natAbs x.2.natAbs : Nat), by unfold shStep; rw [Int.mul_comm]⟩
theorem shF_facts : ∀ (fs : List (Int × Int)) (s : Int), 0 < s → (∀ x ∈ fs, 0 < x.2) → 0 < fs.foldl shStep s ∧ s ∣ fs.foldl shStep s ∧ ∀ x ∈ fs, x.2 ∣ fs.foldl shStep s
  | [], s, h, _ => ⟨h, Int.dvd_refl s, fun _ hx => nomatch hx⟩
  | x :: fs, s, h, hp => by
    have hx := hp x (List.mem_cons_self ..)
    obtain ⟨h1, h2, h3⟩ := shF_facts fs (shStep s x) (shStep_pos h hx) fun y hy => hp y (List.mem_cons_of_mem _ hy)
    refine ⟨h1, Int.dvd_trans shStep_old h2, fun y hy => ?_⟩
    rcases List.mem_cons.mp hy with rfl | hy
    · exact Int.dvd_trans shStep_new h2
    · exact h3 y hy
theorem shF_le : ∀ (fs : List (Int × Int)) (ss : List Nat) (s : Int) (n : Nat), ss.length = fs.length → (∀ (j : Nat) (x : Int × Int) (t : Nat), fs[j]? = some x → ss[j]? = some t → Fig t x) → 0 < s → s ≤ 10 ^ n → fs.foldl shStep s ≤ 10 ^ (n + ss.sum)
  | [], ss, s, n, _, _, _, h => Int.le_trans h (by
      have : (10 : Nat) ^ n ≤ 10 ^ (n + ss.sum) := Nat.pow_le_pow_right (by decide) (by omega)
      exact_mod_cast this)
  | x :: fs, [], _, _, hl, _, _, _ => nomatch hl
  | x :: fs, t :: ss, s, n, hl, hf, h0, h => by
    obtain ⟨f1, f2, f3⟩ := hf 0 x t rfl rfl
    have step : shStep s x ≤ 10 ^ (n + t) := by
      unfold shStep
      have g0 := gcd_pos_int (a := s) f1
      have d1 : s / ((Nat.gcd s.natAbs x.2.natAbs : Nat) : Int) ≤ s := Int.ediv_le_self _ (by omega)
      have x2 : x.2 ≤ 10 ^ t := by
        have : (x.2.natAbs : Int) ≤ ((10 ^ t : Nat) : Int) := Int.ofNat_le.mpr f3
        rw [Int.natCast_pow] at this
        have e : ((x.2.natAbs : Nat) : Int) = x.2 := by omega
        rw [e] at this
        exact this
      rw [Int.pow_add]
      exact Int.le_trans (Int.mul_le_mul_of_nonneg_right d1 (by omega)) (Int.mul_le_mul h x2 (by omega) (by omega))
    have z := shF_le fs ss (shStep s x) (n + t) (Nat.succ.inj hl) (fun j y u hy hu => hf (j + 1) y u hy hu) (shStep_pos h0 f1) step
    show fs.foldl shStep (shStep s x) ≤ _
    rw [List.sum_cons, ← Nat.add_assoc]
    exact z
end Fk

set_option Elab.async false
set_option maxRecDepth 100000
namespace Fk
open PySem L2
abbrev sLowRows : Stmt := top 48
theorem Figs.pos {n : Nat} {fs : List (Int × Int)} (h : Figs n fs) : ∀ x ∈ fs, 0 < x.2 := fun x hx => by
  obtain ⟨j, hj⟩ := List.mem_iff_getElem?.mp hx
  obtain ⟨s, _, h2⟩ := h.get hj
  exact h2.1
theorem Figs.sh {n : Nat} {fs : List (Int × Int)} (h : Figs n fs) (i : Nat) : 0 < shF (fs.take i) ∧ shF (fs.take i) ≤ 10 ^ n := by
  have hp := h.pos
  obtain ⟨ss, h1, h2, h3⟩ := h
  have z := shF_le (fs.take i) (ss.take i) 1 0 (by rw [List.length_take, List.length_take, h1]) (fun j x t hx ht => by
    rw [List.getElem?_take] at hx ht
    split at hx
    · rename_i g
      rw [if_pos g] at ht
      exact h2 j x t hx ht
    · cases hx) (by decide) (by decide)
  have p := (shF_facts (fs.take i) 1 (by decide) fun x hx => hp x (List.mem_of_mem_take hx)).1
  refine ⟨p, Int.le_trans z ?_⟩
  have s1 : (ss.take i).sum ≤ ss.sum := by
    have e : ss.sum = (ss.take i).sum + (ss.drop i).sum := by rw [← List.sum_append, List.take_append_drop]
    omega
  have : (10 : Nat) ^ (0 + (ss.take i).sum) ≤ 10 ^ n := Nat.pow_le_pow_right (by decide) (by omega)
  exact_mod_cast this
theorem int_sm {x : Int} {n : Nat} (h0 : 0 < x) (h : x ≤ 10 ^ n) (hn : n ≤ 8500) : Sm x := by
  refine small_sm (fig_small (k := n) ?_ hn)
  have e : ((10 : Int) ^ n) = ((10 ^ n : Nat) : Int) := (Int.natCast_pow 10 n).symm
  rw [e] at h
  omega
def spShared : Sp := fun vs H Q _ => ∃ (l : Addr) (fs : List (Int × Int)) (n : Nat), vs = [.ref l] ∧ FracsAt H l fs ∧ Figs n fs ∧ n ≤ 8400 ∧ Q (.int (shF fs)) H
section
variable {P : Program} {w : World} {K : PySem.W.Frag} {mg : Str → Option Value} {base : Heap}
theorem scShared : FnScope ["ratios", "shared", "ratio"] ["ratios"] (defScope sShared) := ⟨rfl, rfl, rfl, by decide +kernel, rfl, by decide +kernel, by decide +kernel⟩
theorem ok_shared {f : Addr} {fd : FuncData} (F : Fun K "shared_bottom" "shared_bottom" sShared f fd) (S : seeB base = true) (ht : P.given.tree = none) (mgc : mg "gcd" = some (.builtin "math.gcd")) : FnOk P w K mg base CX0 40 f fd ["ratios"] spShared := by
  refine F.ok scShared (fun vs H Q E h => ?_) (fun cdv A outer s H vs Q E hr h => ?_)
  · obtain ⟨l, fs, n, rfl, _⟩ := h
    rfl
  · obtain ⟨l, fs, n, rfl, ⟨ps, hl, hps⟩, hf, hn, k⟩ := h
    have hdp : (A.deeper (PyProof.Rows.envOfC "shared_bottom" (defScope sShared) s.heap.objs.size f cdv)).depth + 100 < recursionLimit := by
      have := hr.dp
      omega
    refine ⟨_, pss_cons (ps_set (i := 1) scShared.nd rfl (Or.inl rfl) pe_int)
      (pss_cons (ps_for PassesOwn.never rfl (pi_list (pv 0)) (pg_name (i := 2) scShared.nd rfl (Or.inl rfl))
        (pss_one (ps_set (i := 1) scShared.nd rfl (Or.inl rfl) (pe_op op_mulW (pe_op (op_fdivP S ht hdp rfl rfl rfl rfl rfl) (pv 1) (pe_callBfun cr_gcd (by rfl) mgc (pa_cons (pv 1) (pa_cons (pe_ix ix_tup (pv 2) pe_int (fun _ _ => rfl)) pa_nil)))) (pe_ix ix_tup (pv 2) pe_int (fun _ _ => rfl))))))
      (pss_one (ps_ret (pv 1)))), ?_⟩
    have sq : SqL K H l (ps.map V.ref) := Or.inl (Or.inl hl)
    have pl : ps.length = fs.length := Paired.len hps
    refine ⟨_, rfl, l, rfl, ⟨_, sq⟩, for_list (K := K) (a := l) (xs := ps.map V.ref) (fun i σ H' => H' = H ∧ ∃ v : Option V, σ = [some (.ref l), some (.int (shF (fs.take i))), v]) ⟨rfl, none, rfl⟩ (fun i σ H' _ ⟨e, _⟩ => e ▸ sq) ?_ ?_⟩
    · rintro i x σ H' hx ⟨rfl, v, rfl⟩
      have hi : i < fs.length := by
        have := (List.getElem?_eq_some_iff.mp hx).1
        rw [List.length_map] at this
        omega
      have hfi : fs[i]? = some fs[i] := List.getElem?_eq_getElem hi
      obtain ⟨p, hp, hfr⟩ := Paired.get hps hfi
      rw [List.getElem?_map, hp] at hx
      cases hx
      generalize hy : fs[i]'hi = y at hfi hfr
      obtain ⟨sy, sy1, sy2⟩ := hf.get hfi
      have st : SqT K H' p [.int y.1, .int y.2] := Or.inl (Or.inl hfr)
      obtain ⟨p1, p2⟩ := hf.sh i
      have g0 := gcd_pos_int (a := shF (fs.take i)) sy2.1
      have dpos : 0 < shF (fs.take i) / ((Nat.gcd (shF (fs.take i)).natAbs y.2.natAbs : Nat) : Int) := Int.ediv_pos_of_pos_of_dvd p1 (by omega) (gcd_dvd_int _ _)
      have dle : shF (fs.take i) / ((Nat.gcd (shF (fs.take i)).natAbs y.2.natAbs : Nat) : Int) ≤ shF (fs.take i) := Int.ediv_le_self _ (by omega)
      refine ⟨_, rfl, _, rfl, _, rfl, p, _, 1, _, rfl, rfl, st, rfl, _, _, rfl, _, _, rfl, rfl, g0, _, rfl, p, _, 1, _, rfl, rfl, st, rfl, _, _, rfl, rfl, Sm.mul (int_sm dpos (Int.le_trans dle p2) (by omega)) (small_sm (fig_small sy2.2.2 (by omega))), rfl, some (.ref p), ?_⟩
      rw [List.take_add_one, hfi]
      show _ = [some (V.ref l), some (V.int (shF (fs.take i ++ [y]))), some (V.ref p)]
      rw [shF_snoc]
      rfl
    · rintro σ H' ⟨rfl, v, rfl⟩
      rw [List.length_map, pl, List.take_length]
      exact ⟨_, rfl, k⟩
end
end Fk

set_option Elab.async false
set_option maxRecDepth 100000
namespace Fk
open PySem L2 PySem.Spec PyProof.Rows
section
variable {X : Cx} {pins : List (Addr × Obj)} {σ : L2.St} {H : Hp} {s : Shared}
theorem op_fdivP2 {e0 : Env} {rest : List Env} (S : seeB X.base = true) (ht : X.prog.given.tree = none) (hd : X.A.depth + 100 < recursionLimit) (hs : X.stack = e0 :: rest) (h1 : e0.scope.isGenerator = false) (h2 : e0.scope.isCoroutine = false)
    (h3 : e0.builtins = builtinsNs) (h4 : e0.globals = mainGlobals) : OpR X (binaryOp .FloorDiv) (rI (fun _ j => 0 < j) fun i j => .int (i / j)) := by
  intro pins s σ H x y v u Q I rx ry h
  obtain ⟨i, j, rfl, rfl, hj, q⟩ := h
  obtain ⟨t, rfl⟩ := rx
  obtain ⟨t', rfl⟩ := ry
  have hj' : (0 : Int) < j := hj
  refine floordiv_int (by omega) ?_ (.inr (PylongRoom.of I.nolimit hd (SeerAt.of (noseer_of I S) ht (hs ▸ I.ok.frames) h1 h2 h3 h4)))
  rw [Int.fdiv_eq_ediv_of_nonneg i (by omega)]
  exact ⟨.int _, H, I.tok _, ⟨_, rfl⟩, q⟩
end
abbrev psTBr : List Str := ["top", "bottom"]
abbrev nsLR : List Str := ["top", "bottom", "shared", "factor", "item"]
theorem pss_never {X : Cx} {sts : List Stmt} : PSs X sts (fun _ _ _ => False) := ⟨fun _ _ _ _ _ _ h => h.elim⟩
def lrG (xs : List Int) (S : Int) : Int := (Nat.gcd (cont xs) S.natAbs : Nat)
theorem sqt_same {K : PySem.W.Frag} {H H' : Hp} {a : Addr} {xs : List V} (e : Same H H') (h : SqT K H a xs) : SqT K H' a xs := by
  rcases h with (h | ⟨o, h⟩) | h
  · exact .inl (.inl (e _ _ h))
  · exact .inl (.inr ⟨o, e _ _ h⟩)
  · exact .inr h
theorem iteF' {b : Bool} {t u : Prop} (hb : b = false) (h : u) : if b = true then t else u := by rw [hb]; exact h
theorem lrG_pos {xs : List Int} {S : Int} (s0 : 0 < S) : 0 < lrG xs S := by
  unfold lrG
  have : 0 < Nat.gcd (cont xs) S.natAbs := Nat.gcd_pos_of_pos_right _ (by omega)
  omega
def spLowRows (K : PySem.W.Frag) : Sp := fun vs H Q _ => ∃ (p q : Addr) (xs : List Int) (S : Int), vs = [.ref p, .ref q] ∧ SqT K H p (iv xs) ∧ SqT K H q [.int S] ∧ 0 < S ∧ xs.length ≤ 100 ∧
  ∀ r r1 r2 H', Same H H' → H' r = some (.tup [.ref r1, .ref r2]) → H' r1 = some (.tup (iv (xs.map (· / lrG xs S)))) → H' r2 = some (.tup [.int (S / lrG xs S)]) → Q (.ref r) H'
section
variable {P : Program} {w : World} {K : PySem.W.Frag} {mg : Str → Option Value} {base : Heap}
theorem scLowRows : FnScope nsLR psTBr (defScope sLowRows) := ⟨rfl, rfl, rfl, by decide +kernel, rfl, by decide +kernel, by decide +kernel⟩
theorem ok_lowrows {f fC : Addr} {fd dC : FuncData} (F : Fun K "lowest_rows" "lowest_rows" sLowRows f fd) (S : seeB base = true) (ht : P.given.tree = none) (mgc : mg "gcd" = some (.builtin "math.gcd")) (ml : mg "len" = none) (mt : mg "tuple" = none)
    (C : Cl P w K mg base "content" ["row"] 1 (spContent K) fC dC) : FnOk P w K mg base CX0 40 f fd psTBr (spLowRows K) := by
  refine F.ok scLowRows (fun vs H Q E h => ?_) (fun cdv A outer s H vs Q E hr h => ?_)
  · obtain ⟨p, q, xs, S, rfl, _⟩ := h
    rfl
  · obtain ⟨p, q, xs, B, rfl, sp, sq, b0, hn, k⟩ := h
    have hdp : (A.deeper (PyProof.Rows.envOfC "lowest_rows" (defScope sLowRows) s.heap.objs.size f cdv)).depth + 100 < recursionLimit := by
      have := hr.dp
      omega
    have hr1 := hr.mono (show 1 ≤ 39 by decide)
    refine ⟨_, pss_cons (ps_if (pt_cmpR op_eq (pe_callB call_len_seq (by rfl) ml PySem.boot_len (pa_cons (pv 0) pa_nil)) pe_int (nomark _)) (pss_one (ps_ret (pe_tup (pa_cons (pe_tup pa_nil) (pa_cons (pe_tup (pa_cons pe_int pa_nil)) pa_nil))))) pss_nil)
      (C8.pss_cut (ps_if (PW.pt (pw_and (pt_cmpR op_gt (pe_callB call_len_seq (by rfl) ml PySem.boot_len (pa_cons (pv 0) pa_nil)) pe_int (nomark _)) (pw_and1 (pt_cmpR op_gt (pe_callB call_len_seq (by rfl) ml PySem.boot_len (pa_cons (pv 1) pa_nil)) pe_int (nomark _)))))
        pss_never pss_nil)
      (pss_cons (ps_set (i := 3) scLowRows.nd rfl (Or.inr rfl) (pe_callBfun cr_gcd (by rfl) mgc (pa_cons (pe_call C.G hr1 (by rfl) C.g C.kp C.b .nil pass0 (pa_cons (pv 0) pa_nil)) (pa_cons (pe_call C.G hr1 (by rfl) C.g C.kp C.b .nil pass0 (pa_cons (pv 1) pa_nil)) pa_nil))))
      (pss_cons (ps_if (pt_cmpR op_lt (pe_ix ix_list (pe_lc (own := [("item", 4)]) rfl scLowRows.nd (pi_tup (pv 1)) (blkOk_by (N := nsLR) (sc := defScope sLowRows) (by decide +kernel)) (fun _ _ _ _ _ => pg_name (i := 4) scLowRows.nd rfl (Or.inl rfl)) (fun _ _ _ _ _ => pts_one (pt_cmpR op_ne (pv 4) pe_int (nomark _))) (fun _ _ _ _ _ => pv 4)) pe_int (fun _ _ => rfl)) pe_int (nomark _))
        (pss_one (ps_set (i := 3) scLowRows.nd rfl (Or.inr rfl) (pe_un un_neg (pv 3)))) pss_nil)
      (pss_one (ps_ret (pe_tup (pa_cons (pe_callTy call_tuple_of (by rfl) mt (by decide +kernel) (pa_cons (pe_lc (own := [("item", 4)]) rfl scLowRows.nd (pi_tup (pv 0)) (blkOk_by (N := nsLR) (sc := defScope sLowRows) (by decide +kernel)) (fun _ _ _ _ _ => pg_name (i := 4) scLowRows.nd rfl (Or.inl rfl)) (fun _ _ _ _ _ => pts_nil) (fun _ _ _ _ _ => pe_op (op_fdivP2 S ht hdp rfl rfl rfl rfl rfl) (pv 4) (pv 3))) pa_nil))
        (pa_cons (pe_callTy call_tuple_of (by rfl) mt (by decide +kernel) (pa_cons (pe_lc (own := [("item", 4)]) rfl scLowRows.nd (pi_tup (pv 1)) (blkOk_by (N := nsLR) (sc := defScope sLowRows) (by decide +kernel)) (fun _ _ _ _ _ => pg_name (i := 4) scLowRows.nd rfl (Or.inl rfl)) (fun _ _ _ _ _ => pts_nil) (fun _ _ _ _ _ => pe_op (op_fdivP2 S ht hdp rfl rfl rfl rfl rfl) (pv 4) (pv 3))) pa_nil)) pa_nil)))))))), ?_⟩
    have g0 := lrG_pos (xs := xs) b0
    refine ⟨_, rfl, p, _, rfl, .inr sp, rfl, _, rfl, ?_⟩
    rw [iv_len]
    refine ite2 (fun h => ?_) (fun h => ?_)
    · have e : xs = [] := List.eq_nil_of_length_eq_zero (by have := keq h; omega)
      subst e
      refine ⟨by show 0 ≤ sizeLine; decide, fun p1 h1 => ⟨by show 1 ≤ sizeLine; decide, fun p2 h2 => ⟨by show 2 ≤ sizeLine; decide, fun p3 h3 => k p3 p1 p2 _ ((same_new h1).trans ((same_new h2).trans (same_new h3))) upd_same ?_ ?_⟩⟩⟩
      · exact ((same_new h2).trans (same_new h3)) _ _ upd_same
      · have e : B / lrG [] B = 1 := by
          have : lrG [] B = B := by
            show ((Nat.gcd 0 B.natAbs : Nat) : Int) = B
            rw [Nat.gcd_zero_left]
            omega
          rw [this, Int.ediv_self (by omega)]
        rw [e]
        exact (same_new h3) _ _ upd_same
    · refine ⟨fun σ' H' => σ' = [some (.ref p), some (.ref q), none, none, none] ∧ H' = H, ?_, ?_⟩
      · refine ⟨_, rfl, p, _, rfl, .inr sp, _, _, rfl, rfl, _, rfl, ite2 (fun h => ?_) (fun h => ?_)⟩
        · exact ⟨_, rfl, q, _, rfl, .inr sq, _, _, rfl, rfl, _, rfl, iteF ⟨rfl, rfl⟩⟩
        · exact ⟨rfl, rfl⟩
      · rintro σ' H' ⟨rfl, rfl⟩
        refine ⟨_, rfl, p, xs, rfl, sp, _, rfl, q, [B], rfl, sq, _, _, rfl, ?_⟩
        have eG : ((Nat.gcd ((cont xs : Nat) : Int).natAbs ((cont [B] : Nat) : Int).natAbs : Nat) : Int) = lrG xs B := by
          rw [Int.natAbs_natCast, Int.natAbs_natCast]
          show ((Nat.gcd (cont xs) (Nat.gcd 0 B.natAbs) : Nat) : Int) = _
          rw [Nat.gcd_zero_left]
          rfl
        rw [eG]
        generalize hG : lrG xs B = G at *
        refine ⟨_, rfl, q, rfl, ⟨_, sq⟩, fun D hD => lc_tup (K := K) (a := q) (xs := [.int B]) (fun i H2 => H2 = upd H' D (.lst (([V.int B]).take i))) rfl (fun i H2 _ e => ?_) ?_ ?_⟩
        · rw [e]
          exact sqt_same (same_new hD) sq
        · rintro i x H2 hx rfl
          match i, hx with
          | 0, hx =>
            cases hx
            refine ⟨rfl, _, rfl, rfl, _, rfl, ?_⟩
            rw [decide_eq_false (fun e => (by have := V.int.inj e; omega) : ¬ V.int B = V.int 0)]
            refine ⟨_, rfl, _, upd_same, by show 0 < sizeLine; decide, ?_⟩
            show upd (upd H' D _) D _ = upd H' D _
            rw [upd_upd]
            rfl
        · rintro H2 rfl
          refine ⟨D, [.int B], 0, .int B, rfl, rfl, Or.inl (Or.inl upd_same), rfl, _, _, rfl, rfl, _, rfl, iteF' (decide_eq_false (by omega)) ?_⟩
          clear eG
          have s1 := same_new (o := .lst (List.take [V.int B].length [V.int B])) hD
          have sp1 := sqt_same s1 sp
          have sq1 := sqt_same s1 sq
          generalize upd H' D (.lst (List.take [V.int B].length [V.int B])) = H1 at s1 sp1 sq1 ⊢
          refine ⟨_, rfl, p, rfl, ⟨_, sp1⟩, fun D2 hD2 => lc_tup (K := K) (a := p) (xs := iv xs) (fun i H2 => H2 = upd H1 D2 (.lst (iv ((xs.take i).map (· / G))))) rfl (fun i H2 _ e => ?_) ?_ ?_⟩
          · rw [e]
            exact sqt_same (same_new hD2) sp1
          · rintro i x H2 hx rfl
            obtain ⟨z, hz, rfl⟩ := iv_at hx
            have hi := (List.getElem?_eq_some_iff.mp hz).1
            refine ⟨rfl, ?_⟩
            unfold tYes
            dsimp only
            rw [if_pos rfl]
            refine ⟨_, rfl, _, rfl, _, _, rfl, rfl, g0, _, upd_same, ?_, ?_⟩
            · rw [iv_len, List.length_map, List.length_take]
              exact small1000 (by omega)
            · show upd (upd H1 D2 _) D2 _ = upd H1 D2 _
              rw [upd_upd, List.take_add_one, hz, List.map_append]
              unfold iv
              rw [List.map_append]
              rfl
          · rintro H2 rfl
            rw [iv_len, List.take_length]
            refine ⟨D2, _, rfl, .inl ⟨Or.inl (Or.inl upd_same), fun r1 hr1 => ?_⟩⟩
            have s2 := (same_new (o := .lst (iv (xs.map (· / G)))) hD2).trans (same_new (o := .tup (iv (xs.map (· / G)))) hr1)
            have e1 : (upd (upd H1 D2 (.lst (iv (xs.map (· / G))))) r1 (.tup (iv (xs.map (· / G))))) r1 = some (.tup (iv (xs.map (· / G)))) := upd_same
            generalize upd (upd H1 D2 (.lst (iv (xs.map (· / G))))) r1 (.tup (iv (xs.map (· / G)))) = H3 at s2 e1 ⊢
            have sq3 := sqt_same s2 sq1
            refine ⟨_, rfl, q, rfl, ⟨_, sq3⟩, fun D3 hD3 => lc_tup (K := K) (a := q) (xs := [.int B]) (fun i H2 => H2 = upd H3 D3 (.lst (iv (([B].take i).map (· / G))))) rfl (fun i H2 _ e => ?_) ?_ ?_⟩
            · rw [e]
              exact sqt_same (same_new hD3) sq3
            · rintro i x H2 hx rfl
              match i, hx with
              | 0, hx =>
                cases hx
                refine ⟨rfl, ?_⟩
                unfold tYes
                dsimp only
                rw [if_pos rfl]
                refine ⟨_, rfl, _, rfl, _, _, rfl, rfl, g0, _, upd_same, by show 0 < sizeLine; decide, ?_⟩
                show upd (upd H3 D3 _) D3 _ = upd H3 D3 _
                rw [upd_upd]
                rfl
            · rintro H2 rfl
              refine ⟨D3, _, rfl, .inl ⟨Or.inl (Or.inl upd_same), fun r2 hr2 => ⟨by show 2 ≤ sizeLine; decide, fun r3 hr3 => ?_⟩⟩⟩
              exact k r3 r1 r2 _ (s1.trans (s2.trans (((same_new hD3).trans (same_new hr2)).trans (same_new hr3)))) upd_same ((((same_new hD3).trans (same_new hr2)).trans (same_new hr3)) _ _ e1) ((same_new hr3) _ _ upd_same)
end
end Fk

set_option Elab.async false
set_option maxRecDepth 100000
namespace Fk
open PySem L2
/-! ### fractions in lowest terms -/
def Red (x : Int × Int) : Prop := 0 < x.2 ∧ Nat.gcd x.1.natAbs x.2.natAbs = 1
theorem low_of_red {x : Int × Int} (h : Red x) : low x.1 x.2 = x := by
  unfold low
  rw [h.2]
  show (x.1 / 1, x.2 / 1) = x
  rw [Int.ediv_one, Int.ediv_one]
theorem low_scale {a b t : Int} (t0 : 0 < t) : low (a * t) (b * t) = low a b := by
  unfold low
  rw [Int.natAbs_mul, Int.natAbs_mul, Nat.gcd_mul_right, Int.natCast_mul, Int.natAbs_of_nonneg (Int.le_of_lt t0), Int.mul_ediv_mul_of_pos_left _ _ t0, Int.mul_ediv_mul_of_pos_left _ _ t0]
theorem low_div {a b g : Int} (g0 : 0 < g) (ha : g ∣ a) (hb : g ∣ b) : low (a / g) (b / g) = low a b := by
  rw [← low_scale (a := a / g) (b := b / g) g0, Int.ediv_mul_cancel ha, Int.ediv_mul_cancel hb]
theorem red_low {a b : Int} (b0 : 0 < b) : Red (low a b) := by
  have g0 : 0 < Nat.gcd a.natAbs b.natAbs := Nat.gcd_pos_of_pos_right _ (by omega)
  have ga : ((Nat.gcd a.natAbs b.natAbs : Nat) : Int) ∣ a := Int.natAbs_dvd_natAbs.mp (by rw [Int.natAbs_natCast]; exact Nat.gcd_dvd_left _ _)
  have gb : ((Nat.gcd a.natAbs b.natAbs : Nat) : Int) ∣ b := Int.natAbs_dvd_natAbs.mp (by rw [Int.natAbs_natCast]; exact Nat.gcd_dvd_right _ _)
  refine ⟨Int.ediv_pos_of_pos_of_dvd b0 (by omega) gb, ?_⟩
  show Nat.gcd (a / ((Nat.gcd a.natAbs b.natAbs : Nat) : Int)).natAbs (b / ((Nat.gcd a.natAbs b.natAbs : Nat) : Int)).natAbs = 1
  rw [Int.natAbs_ediv_of_dvd ga, Int.natAbs_ediv_of_dvd gb, Int.natAbs_natCast]
  exact Nat.coprime_div_gcd_div_gcd g0
theorem low_zero {b : Int} (b0 : 0 < b) : low 0 b = (0, 1) := by
  unfold low
  rw [Int.zero_ediv, Int.natAbs_zero, Nat.gcd_zero_left, Int.natAbs_of_nonneg (Int.le_of_lt b0), Int.ediv_self (by omega)]
theorem sums_red {ts : List Tm} (h : ∀ tm ∈ ts, 0 < dv tm.be) : ∀ x ∈ sums ts, Red x := by
  unfold sums
  suffices g : ∀ (ts : List Tm) (acc : List (Int × Int)), (∀ tm ∈ ts, 0 < dv tm.be) → (∀ x ∈ acc, Red x) → ∀ x ∈ ts.foldl stepF acc, Red x from
    g ts rep7 h (fun x hx => by
      rw [List.eq_of_mem_replicate hx]
      exact ⟨by decide, by decide⟩)
  intro ts
  induction ts with
  | nil => exact fun acc _ h => h
  | cons t ts ih =>
    intro acc h1 h2
    refine ih _ (fun tm hm => h1 tm (List.mem_cons_of_mem _ hm)) fun x hx => ?_
    unfold stepF at hx
    rcases List.mem_or_eq_of_mem_set hx with hx | rfl
    · exact h2 x hx
    · refine red_low (Int.mul_pos ?_ (red_low (h1 t (List.mem_cons_self ..))).1)
      rw [List.getD_eq_getElem?_getD]
      cases e : acc[t.pw]? with
      | none => decide
      | some y => exact (h2 y (List.mem_of_getElem? e)).1
theorem cont_dvd {xs : List Int} {z : Int} (h : z ∈ xs) : cont xs ∣ z.natAbs := by
  unfold cont
  suffices g : ∀ (xs : List Int) (a : Nat), (xs.foldl (fun g i => Nat.gcd g i.natAbs) a) ∣ a ∧ ∀ z ∈ xs, (xs.foldl (fun g i => Nat.gcd g i.natAbs) a) ∣ z.natAbs from (g xs 0).2 z h
  intro xs
  induction xs with
  | nil => exact fun a => ⟨Nat.dvd_refl _, fun _ h => nomatch h⟩
  | cons x xs ih =>
    intro a
    obtain ⟨h1, h2⟩ := ih (Nat.gcd a x.natAbs)
    refine ⟨Nat.dvd_trans h1 (Nat.gcd_dvd_left _ _), fun z hz => ?_⟩
    rcases List.mem_cons.mp hz with rfl | hz
    · exact Nat.dvd_trans h1 (Nat.gcd_dvd_right _ _)
    · exact h2 z hz
theorem lrG_dvd {xs : List Int} {S : Int} : lrG xs S ∣ S := by
  unfold lrG
  exact Int.natAbs_dvd_natAbs.mp (by rw [Int.natAbs_natCast]; exact Nat.gcd_dvd_right _ _)
theorem lrG_dvd' {xs : List Int} {S z : Int} (h : z ∈ xs) : lrG xs S ∣ z := by
  unfold lrG
  exact Int.natAbs_dvd_natAbs.mp (by rw [Int.natAbs_natCast]; exact Nat.dvd_trans (Nat.gcd_dvd_left _ _) (cont_dvd h))
def tops (fs : List (Int × Int)) (S : Int) : List Int := fs.map fun x => x.1 * (S / x.2)
theorem told_row {fs : List (Int × Int)} {S : Int} {ys : List Int} (hr : ∀ x ∈ fs, Red x) (s0 : 0 < S) (hd : ∀ x ∈ fs, x.2 ∣ S) (ht : Trim (tops fs S) ys) : (ys.map (· / lrG ys S) ++ List.replicate (fs.length - ys.length) 0).map (fun a => low a (S / lrG ys S)) = fs := by
  have g0 := lrG_pos (xs := ys) s0
  have q0 : 0 < S / lrG ys S := Int.ediv_pos_of_pos_of_dvd s0 (Int.le_of_lt g0) lrG_dvd
  obtain ⟨m, hm, rfl, hz, _⟩ := ht
  have lm : (tops fs S).length = fs.length := List.length_map ..
  rw [lm] at hm hz
  have ly : ((tops fs S).take m).length = m := by rw [List.length_take, lm]; omega
  generalize hg : lrG ((tops fs S).take m) S = g at *
  refine List.ext_getElem? fun i => ?_
  rw [List.getElem?_map, ly]
  by_cases h1 : i < m
  · have hlt : i < fs.length := by omega
    have ef : fs[i]? = some fs[i] := List.getElem?_eq_getElem hlt
    have et : (tops fs S)[i]? = some (fs[i].1 * (S / fs[i].2)) := by
      unfold tops
      rw [List.getElem?_map, ef]
      rfl
    have hmem : fs[i].1 * (S / fs[i].2) ∈ (tops fs S).take m := List.mem_of_getElem? (i := i) (by rw [List.getElem?_take, if_pos h1, et])
    have dv1 : g ∣ fs[i].1 * (S / fs[i].2) := hg ▸ lrG_dvd' hmem
    have dv2 : g ∣ S := hg ▸ lrG_dvd
    have rx := hr _ (List.getElem_mem hlt)
    have dx := hd _ (List.getElem_mem hlt)
    have t0 : 0 < S / fs[i].2 := Int.ediv_pos_of_pos_of_dvd s0 (Int.le_of_lt rx.1) dx
    rw [List.getElem?_append_left (by rw [List.length_map, ly]; exact h1), List.getElem?_map, List.getElem?_take, if_pos h1, et, ef]
    show some (low (fs[i].1 * (S / fs[i].2) / g) (S / g)) = some fs[i]
    rw [low_div g0 dv1 dv2]
    have e : S = fs[i].2 * (S / fs[i].2) := (Int.mul_ediv_cancel' dx).symm
    have z := low_scale (a := fs[i].1) (b := fs[i].2) t0
    rw [← e] at z
    rw [z, low_of_red rx]
  · rw [List.getElem?_append_right (by rw [List.length_map, ly]; omega), List.length_map, ly, List.getElem?_replicate]
    by_cases h2 : i < fs.length
    · have ef : fs[i]? = some fs[i] := List.getElem?_eq_getElem h2
      have ez := hz i (by omega) h2
      unfold tops at ez
      rw [List.getElem?_map, ef] at ez
      have rx := hr _ (List.getElem_mem h2)
      have dx := hd _ (List.getElem_mem h2)
      have t0 : 0 < S / fs[i].2 := Int.ediv_pos_of_pos_of_dvd s0 (Int.le_of_lt rx.1) dx
      have e0 : fs[i].1 = 0 := by
        rcases Int.mul_eq_zero.mp (Option.some.inj ez) with h | h
        · exact h
        · omega
      have e1 : fs[i].2 = 1 := by
        have := rx.2
        rw [e0, Int.natAbs_zero, Nat.gcd_zero_left] at this
        have := rx.1
        omega
      rw [if_pos (by omega), ef]
      show some (low 0 (S / g)) = some fs[i]
      rw [low_zero q0]
      congr 1
      exact (Prod.ext e0 e1).symm
    · rw [if_neg (by omega), List.getElem?_eq_none (by omega)]
      rfl
end Fk

set_option Elab.async false
set_option maxRecDepth 100000
namespace Fk
open PySem L2
/-! ### Quotient -/
abbrev sQInit : Stmt := inClass (top 49) 0
def qF (r1 r2 : Addr) : List (Str × V) := putF "bottom" (.ref r2) (putF "top" (.ref r1) [])
theorem n_tb : ¬ (("top" : Str) = "bottom") := by decide +kernel
theorem n_bt : ¬ (("bottom" : Str) = "top") := by decide +kernel
theorem qF_top (r1 r2 : Addr) : (qF r1 r2).lookup ("top" : Str) = some (.ref r1) := by
  unfold qF
  rw [lookup_putF, if_neg n_tb, lookup_putF, if_pos rfl]
theorem qF_bottom (r1 r2 : Addr) : (qF r1 r2).lookup ("bottom" : Str) = some (.ref r2) := by
  unfold qF
  rw [lookup_putF, if_pos rfl]
/-- a Quotient stands at o: its row, and its bottom, one number -/
def QtAt (C : Addr) (H : Hp) (o : Addr) (ts : List Int) (B : Int) : Prop := ∃ (dx r1 r2 : Addr), H o = some (.ins C dx (qF r1 r2)) ∧ H r1 = some (.tup (iv ts)) ∧ H r2 = some (.tup [.int B])
theorem QtAt.same {C o : Addr} {H H' : Hp} {ts : List Int} {B : Int} (h : QtAt C H o ts B) (s : Same H H') : QtAt C H' o ts B := by
  obtain ⟨dx, r1, r2, a, b, c⟩ := h
  exact ⟨dx, r1, r2, s _ _ a, s _ _ b, s _ _ c⟩
structure QCls (K : PySem.W.Frag) (C : Addr) : Prop where
  cl : Cls K C
  nT : NoAttr K C "top"
  nB : NoAttr K C "bottom"
def RowOk (xs : List Int) : Prop := xs = [] ∨ ∃ z, xs[xs.length - 1]? = some z ∧ z ≠ 0
def spQInit (K : PySem.W.Frag) (C : Addr) : Sp := fun vs H Q _ => ∃ (a dx p q : Addr) (xs : List Int) (S : Int), vs = [.ref a, .ref p, .ref q] ∧ H a = some (.ins C dx []) ∧ SqT K H p (iv xs) ∧ SqT K H q [.int S] ∧ 0 < S ∧ xs.length ≤ 100 ∧ RowOk xs ∧
  ∀ H', (∀ b o, b ≠ a → H b = some o → H' b = some o) → QtAt C H' a (xs.map (· / lrG xs S)) (S / lrG xs S) → Q .non H'
section
variable {P : Program} {w : World} {K : PySem.W.Frag} {mg : Str → Option Value} {base : Heap}
theorem scQInit : FnScope ["self", "top", "bottom", "above", "below"] ["self", "top", "bottom"] (defScope sQInit) := ⟨rfl, rfl, rfl, by decide +kernel, rfl, by decide +kernel, by decide +kernel⟩
theorem ok_qinit {f C fR fL : Addr} {fd dR dL : FuncData} {dvs : List V} (F : FunD K "__init__" "Quotient.__init__" (defArgs sQInit) (defBody sQInit) (defScope sQInit) dvs [] f fd) (T : QCls K C) (ml : mg "len" = none)
    (R : Cl P w K mg base "is_row" psV 2 (spIsRow K) fR dR) (L : Cl P w K mg base "lowest_rows" psTBr 40 (spLowRows K) fL dL) : FnOk P w K mg base CX0 41 f fd ["self", "top", "bottom"] (spQInit K C) := by
  refine F.ok scQInit (fun vs H Q E h => ?_) (fun cdv A outer s H vs Q E hr h => ?_)
  · obtain ⟨a, dx, p, q, xs, S, rfl, _⟩ := h
    rfl
  · obtain ⟨a, dx, p, q, xs, S, rfl, ha, sp, sq, s0, hn, hrow, k⟩ := h
    have hr2 : Room 2 _ := hr.mono (by decide)
    have hr40 : Room 40 _ := hr.mono (by decide)
    refine ⟨_, pss_cons (ps_if (pt_not (pt_val (pe_call R.G hr2 (by rfl) R.g R.kp R.b .nil pass0 (pa_cons (pv 1) pa_nil)))) pss_never pss_nil)
      (pss_cons (ps_if (PW.pt (pw_or (pt_not (pt_val (pe_call R.G hr2 (by rfl) R.g R.kp R.b .nil pass0 (pa_cons (pv 2) pa_nil)))) (pw_or1 (pt_cmpR op_eq (pe_callB call_len_seq (by rfl) ml PySem.boot_len (pa_cons (pv 2) pa_nil)) pe_int (nomark _))))) pss_never pss_nil)
      (pss_cons (ps_asg (pe_call L.G hr40 (by rfl) L.g L.kp L.b .nil pass0 (pa_cons (pv 1) (pa_cons (pv 2) pa_nil))) (pg_tup (by rfl) (pgs_cons (pg_name (i := 3) scQInit.nd rfl (Or.inl rfl)) (pgs_cons (pg_name (i := 4) scQInit.nd rfl (Or.inl rfl)) pgs_nil))))
      (pss_cons (ps_fld (pv 0) (pv 3) rfl) (pss_one (ps_fld (pv 0) (pv 4) rfl))))), ?_⟩
    refine ⟨_, rfl, p, xs, rfl, sp, hrow, true, rfl, iteF ?_⟩
    refine ⟨_, rfl, q, [S], rfl, sq, .inr ⟨S, rfl, by omega⟩, true, rfl, ?_⟩
    refine iteF ⟨_, rfl, q, _, rfl, .inr sq, rfl, _, rfl, iteF' (decide_eq_false (fun e => nomatch V.int.inj e)) ?_⟩
    refine ⟨_, rfl, _, rfl, p, q, xs, S, rfl, sp, sq, s0, hn, fun r r1 r2 H1 s1 h0 h1 h2 => ?_⟩
    refine ⟨r, _, rfl, Or.inl (Or.inl h0), rfl, _, _, rfl, _, _, rfl, rfl, ?_⟩
    have ha1 := s1 _ _ ha
    refine ⟨_, rfl, _, rfl, a, C, dx, [], rfl, ha1, T.cl, T.nT, by show 0 < 1000; decide, ?_⟩
    refine ⟨_, rfl, _, rfl, a, C, dx, _, rfl, upd_same, T.cl, T.nB, by show 1 < 1000; decide, ?_⟩
    have n1 : r1 ≠ a := ne_of h1 ha1 (by intro z; cases z)
    have n2 : r2 ≠ a := ne_of h2 ha1 (by intro z; cases z)
    refine k _ (fun b o hb e => ?_) ⟨dx, r1, r2, upd_same, ?_, ?_⟩
    · rw [upd_ne hb, upd_ne hb]
      exact s1 _ _ e
    · rw [upd_ne n1, upd_ne n1]
      exact h1
    · rw [upd_ne n2, upd_ne n2]
      exact h2
end
end Fk

set_option Elab.async false
set_option maxRecDepth 100000
namespace Fk
open PySem L2
/-! ### what is read is made of digits -/
def wt (tm : Tm) : Nat := max tm.ab.length tm.be.length
structure TmOk (tm : Tm) : Prop where
  a : NumText.AllDigits tm.ab
  a0 : 0 < tm.ab.length
  b : NumText.AllDigits tm.be
  b0 : 0 < tm.be.length
  p : 0 < dv tm.be
  pw : tm.pw ≤ 6
  sg : tm.sg = 1 ∨ tm.sg = -1
theorem rr_ok {cs : List Nat} {k e : Nat} {ab be : List Nat} (hr : ∀ j, nd cs j ≤ 4300) (hi : isIn cs k digs.cps.toList = true) (h : rr cs k = .ok ab be e) :
    NumText.AllDigits ab ∧ 0 < ab.length ∧ NumText.AllDigits be ∧ 0 < be.length ∧ 0 < dv be ∧ max ab.length be.length + k ≤ e := by
  obtain ⟨i1, i2, _⟩ := ie_cut hi hr
  have hk : k ≤ cs.length := by
    have := isIn_lt hi
    omega
  have ile := ie_le hk
  have l1 : (cut cs k (ie cs k)).length = ie cs k - k := cut_len ile
  unfold rr at h
  split at h
  · rename_i h47
    have mlt := (List.getElem?_eq_some_iff.mp h47).1
    split at h
    · rename_i h19
      have jd := (d19_iff cs (ie cs k + 1)).mp h19
      have j1 := (ie_cut jd.1 hr).1
      have eie : ie cs (ie cs k + 1) = dend cs (ie cs k + 1) := if_neg jd.2
      rw [eie] at j1
      have jle := dend_le (cs := cs) (k := ie cs k + 1) (by omega)
      have l2 : (cut cs (ie cs k + 1) (dend cs (ie cs k + 1))).length = dend cs (ie cs k + 1) - (ie cs k + 1) := cut_len jle
      cases h
      exact ⟨i2, by omega, cut_digits _ _, by omega, dv_pos h19 (cut_digits _ _) j1, by omega⟩
    · cases h
  · cases h
    exact ⟨i2, by omega, fig1, by decide, by decide, by show max _ 1 + k ≤ ie cs k; omega⟩
theorem rt_ok {cs : List Nat} {k e pw : Nat} {ab be : List Nat} (hr : ∀ j, nd cs j ≤ 4300) (h : rt cs k = .ok ab be pw e) :
    NumText.AllDigits ab ∧ 0 < ab.length ∧ NumText.AllDigits be ∧ 0 < be.length ∧ 0 < dv be ∧ max ab.length be.length + k ≤ e ∧ pw ≤ 6 := by
  have hp := (rt_fig hr h).1
  unfold rt at h
  split at h
  · rename_i hi
    split at h
    · cases h
    · rename_i ab' be' e' hrr
      obtain ⟨t1, t2, t3, t4, t5, t6⟩ := rr_ok hr hi hrr
      split at h
      · split at h
        · cases h
        · rename_i pw' e2 hp2
          have h2 := rp_le hp2
          cases h
          exact ⟨t1, t2, t3, t4, t5, by omega, hp⟩
      · cases h
        exact ⟨t1, t2, t3, t4, t5, t6, hp⟩
  · split at h
    · cases h
    · rename_i pw' e2 hp2
      have h2 := rp_le hp2
      cases h
      exact ⟨fig1, by decide, fig1, by decide, by decide, by show max 1 1 + k ≤ e; omega, hp⟩
def wts (ts : List Tm) : Nat := (ts.map fun t => wt t + 1).sum
theorem wts_snoc (ts : List Tm) (t : Tm) : wts (ts ++ [t]) = wts ts + (wt t + 1) := by
  unfold wts
  rw [List.map_append, List.sum_append]
  rfl
theorem rts_ok {cs : List Nat} (hr : ∀ j, nd cs j ≤ 4300) : ∀ (f k : Nat) (s : Int) (acc ts : List Tm), k ≤ cs.length → (s = 1 ∨ s = -1) → (∀ tm ∈ acc, TmOk tm) → wts acc ≤ k → rts f cs k s acc = .ok ts → (∀ tm ∈ ts, TmOk tm) ∧ wts ts ≤ cs.length + 1
  | 0, _, _, _, _, _, _, _, _, h => nomatch h
  | f + 1, k, s, acc, ts, hk, hs, ha, hw, h => by
    unfold rts at h
    split at h
    · cases h
    · rename_i ab be pw e hrt
      obtain ⟨t1, t2, t3, t4, t5, t6, t7⟩ := rt_ok hr hrt
      obtain ⟨e1, e2⟩ := rt_le hk hrt
      have ha' : ∀ tm ∈ acc ++ [⟨s, ab, be, pw⟩], TmOk tm := fun tm hm => by
        rcases List.mem_append.mp hm with hm | hm
        · exact ha tm hm
        · rw [List.mem_singleton.mp hm]
          exact ⟨t1, t2, t3, t4, t5, t7, hs⟩
      have hw' : wts (acc ++ [⟨s, ab, be, pw⟩]) ≤ e + 1 := by
        rw [wts_snoc]
        show wts acc + (max ab.length be.length + 1) ≤ e + 1
        omega
      split at h
      · cases h
        exact ⟨ha', by omega⟩
      · rename_i ne
        split at h
        · exact rts_ok hr f (e + 1) _ _ ts (by omega) (by split; exact .inl rfl; exact .inr rfl) ha' hw' h
        · cases h
theorem tm_fig {tm : Tm} (h : TmOk tm) : Fig (wt tm) (termF tm) := by
  have d1 := dv_le h.a
  have d2 := dv_le h.b
  refine low_fig h.p ?_ (Nat.le_trans d2 (Nat.pow_le_pow_right (by decide) (Nat.le_max_right _ _)))
  have sga : (tm.sg * dv tm.ab).natAbs = (dv tm.ab).natAbs := by
    rcases h.sg with e | e
    · rw [e, Int.one_mul]
    · rw [e, Int.neg_mul, Int.one_mul, Int.natAbs_neg]
  rw [sga]
  exact Nat.le_trans d1 (Nat.pow_le_pow_right (by decide) (Nat.le_max_left _ _))
theorem sums_figs {ts : List Tm} (h : ∀ tm ∈ ts, TmOk tm) : Figs (wts ts) (sums ts) := by
  suffices g : ∀ (ts : List Tm) (acc : List (Int × Int)) (n : Nat), (∀ tm ∈ ts, TmOk tm) → acc.length = 7 → Figs n acc → Figs (n + wts ts) (ts.foldl stepF acc) from by
    have := g ts rep7 0 h rfl Figs.start
    rw [Nat.zero_add] at this
    exact this
  intro ts
  induction ts with
  | nil => exact fun acc n _ _ h => h
  | cons t ts ih =>
    intro acc n h1 hl h2
    have ht := h1 t (List.mem_cons_self ..)
    have hx : acc[t.pw]? = some (acc.getD t.pw (0, 1)) := by
      rw [List.getD_eq_getElem?_getD, List.getElem?_eq_getElem (by have := ht.pw; omega)]
      rfl
    have z := ih (stepF acc t) (n + wt t + 1) (fun tm hm => h1 tm (List.mem_cons_of_mem _ hm)) (by unfold stepF; rw [List.length_set]; exact hl) (h2.put hx (tm_fig ht))
    have e : n + wts (t :: ts) = n + wt t + 1 + wts ts := by
      unfold wts
      rw [List.map_cons, List.sum_cons]
      omega
    rw [e]
    exact z
end Fk

set_option Elab.async false
set_option maxRecDepth 100000
namespace Fk
open PySem L2
/-! ### polynomial -/
abbrev sPoly : Stmt := top 50
abbrev nsPoly : List Str := ["ratios", "shared", "top", "bottom"]
theorem pg_tupK {X : Cx} {K : PySem.W.Frag} {es : List Expr} {k : Nat} {pos : Pos} {t : TGs} {n : Nat} (hK : X.K = K) (hc : X.calm = true) (h : PGs X es t)
    (hn : (assignEach es X.env).length = n := by rfl) (hst : (assignEach es X.env).findIdx? (·.1) = none := by rfl) : PG X (.Tuple es k pos) (gTup K n t) := by
  subst hK
  exact pg_tup hc h hn hst
theorem trim_row {xs ys : List Int} (h : Trim xs ys) : RowOk ys := by
  obtain ⟨m, hm, rfl, _, h⟩ := h
  rcases h with rfl | ⟨z, hz, z0⟩
  · exact .inl rfl
  · by_cases m0 : m = 0
    · subst m0
      exact .inl rfl
    · refine .inr ⟨z, ?_, z0⟩
      rw [List.length_take, Nat.min_eq_left hm, List.getElem?_take, if_pos (by omega)]
      exact hz
theorem trim_len {xs ys : List Int} (h : Trim xs ys) : ys.length ≤ xs.length := by
  obtain ⟨m, hm, rfl, _⟩ := h
  rw [List.length_take]
  omega
def spPoly (C : Addr) : Sp := fun vs H Q _ => ∃ (l : Addr) (fs : List (Int × Int)) (n : Nat), vs = [.ref l] ∧ FracsAt H l fs ∧ Figs n fs ∧ n ≤ 8400 ∧ fs.length ≤ 100 ∧
  ∀ o ys H', Same H H' → Trim (tops fs (shF fs)) ys → QtAt C H' o (ys.map (· / lrG ys (shF fs))) (shF fs / lrG ys (shF fs)) → Q (.ref o) H'
section
variable {P : Program} {w : World} {K : PySem.W.Frag} {mg : Str → Option Value} {base : Heap}
/-- what is known of the class Quotient -/
structure Qt (P : Program) (w : World) (K : PySem.W.Frag) (mg : Str → Option Value) (base : Heap) (C fI : Addr) (fd : FuncData) : Prop where
  M : Mk K C fI
  G : FnOk P w K mg base CX0 41 fI fd ["self", "top", "bottom"] (spQInit K C)
  g : mg "Quotient" = some (.ref C)
  b : Binds K fd ["self", "top", "bottom"] []
theorem scPoly : FnScope nsPoly ["ratios"] (defScope sPoly) := ⟨rfl, rfl, rfl, by decide +kernel, rfl, by decide +kernel, by decide +kernel⟩
theorem ok_poly {f C fI fS fT : Addr} {fd dI dS dT : FuncData} (F : Fun K "polynomial" "polynomial" sPoly f fd) (S : seeB base = true) (ht : P.given.tree = none) (T : Qt P w K mg base C fI dI)
    (B : Cl P w K mg base "shared_bottom" ["ratios"] 40 spShared fS dS) (R : Cl P w K mg base "trimmed" ["items"] 1 spTrimmed fT dT) : FnOk P w K mg base CX0 43 f fd ["ratios"] (spPoly C) := by
  refine F.ok scPoly (fun vs H Q E h => ?_) (fun cdv A outer s H vs Q E hr h => ?_)
  · obtain ⟨l, fs, n, rfl, _⟩ := h
    rfl
  · obtain ⟨l, fs, n, rfl, hfs, hf, hn, hlen, k⟩ := h
    have hdp : (A.deeper (PyProof.Rows.envOfC "polynomial" (defScope sPoly) s.heap.objs.size f cdv)).depth + 100 < recursionLimit := by
      have := hr.dp
      omega
    have hr40 : Room 40 _ := hr.mono (by decide)
    have hr1 : Room 1 _ := hr.mono (by decide)
    refine ⟨_, pss_cons (ps_set (i := 1) scPoly.nd rfl (Or.inr rfl) (pe_call B.G hr40 (by rfl) B.g B.kp B.b .nil pass0 (pa_cons (pv 0) pa_nil)))
      (pss_one (ps_ret (pe_make T.M T.G hr (by rfl) T.g T.b .nil pass0 (pa_cons (pe_call R.G hr1 (by rfl) R.g R.kp R.b .nil pass0 (pa_cons
        (pe_lc (own := [("top", 2), ("bottom", 3)]) rfl scPoly.nd (pi_list (pv 0)) (blkOk_by (N := nsPoly) (sc := defScope sPoly) (by decide +kernel)) (fun _ _ _ _ _ => pg_tupK (K := K) (n := 2) rfl rfl (pgs_cons (pg_name (i := 2) scPoly.nd rfl (Or.inl rfl)) (pgs_cons (pg_name (i := 3) scPoly.nd rfl (Or.inl rfl)) pgs_nil))) (fun _ _ _ _ _ => pts_nil)
          (fun _ _ _ _ _ => pe_op op_mulW (pv 2) (pe_op (op_fdivP2 S ht hdp rfl rfl rfl rfl rfl) (pv 1) (pv 3)))) pa_nil)) (pa_cons (pe_tup (pa_cons (pv 1) pa_nil)) pa_nil))))), ?_⟩
    obtain ⟨ps, hl, hps⟩ := id hfs
    have sq : SqL K H l (ps.map V.ref) := Or.inl (Or.inl hl)
    have pl : ps.length = fs.length := Paired.len hps
    obtain ⟨p1, p2⟩ := hf.sh fs.length
    rw [List.take_length] at p1 p2
    refine ⟨_, rfl, l, fs, n, rfl, hfs, hf, hn, ?_⟩
    generalize hS : shF fs = Z at *
    refine ⟨_, rfl, l, rfl, ⟨_, sq⟩, fun D hD => lc_list (K := K) (a := l) (xs := ps.map V.ref) (fun i H2 => H2 = upd H D (.lst (iv ((tops fs Z).take i)))) rfl (fun i H2 _ e => ?_) ?_ ?_⟩
    · rw [e]
      exact (same_new hD).seq sq
    · rintro i x H2 hx rfl
      have hi : i < fs.length := by
        have := (List.getElem?_eq_some_iff.mp hx).1
        rw [List.length_map] at this
        omega
      have hfi : fs[i]? = some fs[i] := List.getElem?_eq_getElem hi
      obtain ⟨p, hp, hfr⟩ := Paired.get hps hfi
      rw [List.getElem?_map, hp] at hx
      cases hx
      generalize hy : fs[i]'hi = y at hfi hfr
      obtain ⟨sy, sy1, sy2⟩ := hf.get hfi
      have st : SqT K (upd H D (.lst (iv ((tops fs Z).take i)))) p [.int y.1, .int y.2] := Or.inl (Or.inl (same_new hD _ _ hfr))
      have dle : Z / y.2 ≤ Z := Int.ediv_le_self _ (by omega)
      have dpos : 0 ≤ Z / y.2 := Int.ediv_nonneg (by omega) (by have := sy2.1; omega)
      have sm2 : Sm (Z / y.2) := by
        by_cases h0 : Z / y.2 = 0
        · rw [h0]
          exact Nat.pow_pos (by decide)
        · exact int_sm (by omega) (Int.le_trans dle p2) (by omega)
      refine ⟨p, _, rfl, st, rfl, _, _, rfl, _, _, rfl, rfl, rfl, ?_⟩
      unfold tYes
      dsimp only
      rw [if_pos rfl]
      refine ⟨_, rfl, _, rfl, _, rfl, _, _, rfl, rfl, sy2.1, _, _, rfl, rfl, Sm.mul (small_sm (fig_small sy2.2.1 (by omega))) sm2, _, upd_same, ?_, ?_⟩
      · rw [iv_len, List.length_take]
        exact small1000 (by unfold tops; rw [List.length_map]; omega)
      · show upd (upd H D _) D _ = upd H D _
        rw [upd_upd, List.take_add_one]
        have et : (tops fs Z)[i]? = some (y.1 * (Z / y.2)) := by
          unfold tops
          rw [List.getElem?_map, hfi]
          rfl
        rw [et]
        unfold iv
        rw [List.map_append]
        rfl
    · rintro H2 rfl
      have lt : (tops fs Z).length = fs.length := List.length_map ..
      rw [List.length_map, pl, ← lt, List.take_length]
      refine ⟨D, tops fs Z, rfl, upd_same, by omega, fun ys p H3 hy s3 hp3 => ?_⟩
      refine ⟨_, rfl, by show 1 ≤ sizeLine; decide, fun q hq => ?_⟩
      intro x dx hx hdx ndx
      have sA : Same H (upd H3 q (.tup [.int Z])) := ((same_new hD).trans s3).trans (same_new hq)
      have hp4 := (same_new (o := .tup [.int Z]) hq) _ _ hp3
      have hq4 : (upd H3 q (.tup [.int Z])) q = some (.tup [.int Z]) := upd_same
      generalize upd H3 q (.tup [.int Z]) = H4 at hx hdx sA hp4 hq4 ⊢
      have hx2 : (upd H4 dx (.own x)) x = none := by
        rw [upd_ne ndx.symm]
        exact hx
      have s5 := (same_new (o := .own x) hdx).trans (same_new (o := .ins C dx []) hx2)
      refine ⟨x, dx, p, q, ys, Z, rfl, upd_same, .inl (.inl (s5 _ _ hp4)), .inl (.inl (s5 _ _ hq4)), p1, ?_, trim_row hy, fun H6 k6 hq6 => ⟨rfl, ?_⟩⟩
      · have := trim_len hy
        omega
      · refine k x ys H6 (fun b o e => ?_) hy hq6
        have e4 := sA _ _ e
        exact k6 b o (ne_of_none e4 hx) (s5 _ _ e4)
end
end Fk

set_option Elab.async false
set_option maxRecDepth 100000
namespace Fk
open PySem L2
/-! ### quotient_of -/
abbrev sQOf : Stmt := top 51
def bigOf : List Tm → Option Nat
  | [] => none
  | t :: r => if 4000 < t.ab.length then some t.ab.length else if 4000 < t.be.length then some t.be.length else bigOf r
theorem bigOf_cons (t : Tm) (r : List Tm) : bigOf (t :: r) = if 4000 < t.ab.length then some t.ab.length else if 4000 < t.be.length then some t.be.length else bigOf r := rfl
theorem bigOf_none : ∀ {ts : List Tm}, bigOf ts = none → ∀ tm ∈ ts, tm.ab.length ≤ 4000 ∧ tm.be.length ≤ 4000
  | [], _, _, h => nomatch h
  | t :: r, h, tm, hm => by
    unfold bigOf at h
    split at h
    · cases h
    · split at h
      · cases h
      · rcases List.mem_cons.mp hm with rfl | hm
        · omega
        · exact bigOf_none h tm hm
def Larges (CL : Addr) (H : Hp) (E : XK) (m : Nat) : Prop := ∀ d H', H d = none → Same H H' → H' d = some (.xd (largeD m)) → E (.ref CL) (some d) H'
theorem Larges.mono {CL : Addr} {H H1 : Hp} {E : XK} {m : Nat} (k : Larges CL H E m) (s : Same H H1) : Larges CL H1 E m := fun d H' hd hs he => k d H' (s.free hd) (s.trans hs) he
theorem raiseL {CL : Addr} {H : Hp} {Q : XK} {m : Nat} (k : Larges CL H Q m) :
    ([V.str "digits", V.int m, V.int 4000] : List V).length ≤ 1000 ∧ ∀ a, H a = none → spIni CL largeFs (.ref a :: ([V.str "digits", V.int m, V.int 4000] ++ [])) (upd H a (exo a CL none))
      (fun v H2 => v = .non ∧ ∃ (d : Addr) (fs : List (Str × V)), H2 a = some (exo a CL (some d)) ∧ H2 d = some (exd d fs) ∧ H d = none ∧ Q (.ref CL) (some d) (upd (L2.del H2 a) d (.xd fs))) (fun _ _ _ => False) :=
  raise_ok (C := CL) (names := largeFs) (ws := [V.str "digits", V.int m, V.int 4000]) rfl (by show 3 ≤ 1000; decide) k
theorem cut_le (cs : List Nat) (a b : Nat) : (cut cs a b).length ≤ cs.length := by
  unfold cut
  rw [List.length_take, List.length_drop]
  omega
theorem rt_len {cs : List Nat} {k e pw : Nat} {ab be : List Nat} (h : rt cs k = .ok ab be pw e) : ab.length ≤ cs.length + 1 ∧ be.length ≤ cs.length + 1 := by
  have one : ([49] : List Nat).length ≤ cs.length + 1 := by
    show 1 ≤ _
    omega
  unfold rt at h
  split at h
  · split at h
    · cases h
    · rename_i ab' be' e' hrr
      have z : ab'.length ≤ cs.length + 1 ∧ be'.length ≤ cs.length + 1 := by
        unfold rr at hrr
        have c1 := cut_le cs k (ie cs k)
        have c2 := cut_le cs (ie cs k + 1) (dend cs (ie cs k + 1))
        split at hrr
        · split at hrr
          · cases hrr
            exact ⟨by omega, by omega⟩
          · cases hrr
        · cases hrr
          exact ⟨by omega, one⟩
      split at h
      · split at h
        · cases h
        · cases h
          exact z
      · cases h
        exact z
  · split at h
    · cases h
    · cases h
      exact ⟨one, one⟩
theorem rts_len {cs : List Nat} : ∀ (f k : Nat) (s : Int) (acc ts : List Tm), (∀ tm ∈ acc, tm.ab.length ≤ cs.length + 1 ∧ tm.be.length ≤ cs.length + 1) → rts f cs k s acc = .ok ts → ∀ tm ∈ ts, tm.ab.length ≤ cs.length + 1 ∧ tm.be.length ≤ cs.length + 1
  | 0, _, _, _, _, _, h => nomatch h
  | f + 1, k, s, acc, ts, ha, h => by
    unfold rts at h
    split at h
    · cases h
    · rename_i ab be pw e hrt
      have z := rt_len hrt
      have ha' : ∀ tm ∈ acc ++ [⟨s, ab, be, pw⟩], tm.ab.length ≤ cs.length + 1 ∧ tm.be.length ≤ cs.length + 1 := fun tm hm => by
        rcases List.mem_append.mp hm with hm | hm
        · exact ha tm hm
        · rw [List.mem_singleton.mp hm]
          exact z
      split at h
      · cases h
        exact ha'
      · split at h
        · exact rts_len f (e + 1) _ _ ts ha' h
        · cases h
def spQOf (K : PySem.W.Frag) (CB CL C : Addr) : Sp := fun vs H Q E => ∃ v : V, vs = [v] ∧ ((∃ t : Str, v = .str t ∧ t.length ≤ 20000 ∧ (match rts (t.length + 2) t.cps.toList (st t.cps.toList) (sgn (st t.cps.toList)) [] with
    | .bad col => Bads CB H E col
    | .ok ts => (match bigOf ts with
      | some m => Larges CL H E m
      | none => t.length ≤ 8300 ∧ (∀ j, nd t.cps.toList j ≤ 4300) ∧ ∀ o ys H', Same H H' → Trim (tops (sums ts) (shF (sums ts))) ys → QtAt C H' o (ys.map (· / lrG ys (shF (sums ts)))) (shF (sums ts) / lrG ys (shF (sums ts))) → Q (.ref o) H'))) ∨
  (∃ ty, TyX K H v ty ∧ PySem.W.kitOne K ty (.type "str") = some false ∧ ∀ d H', H d = none → Same H H' → H' d = some (.xd (badD 0 0)) → E (.ref CB) (some d) H'))
section
variable {P : Program} {w : World} {K : PySem.W.Frag} {mg : Str → Option Value} {base : Heap}
theorem scQOf : FnScope ["text", "terms", "term", "digits", "ratios", "sign", "above", "below", "power"] ["text"] (defScope sQOf) := ⟨rfl, rfl, rfl, by decide +kernel, rfl, by decide +kernel, by decide +kernel⟩
theorem ok_qof {f C CB CL gB gL fT fP fL fY : Addr} {fd dB dL dT dP dLo dY : FuncData} {t1 t2 : Tok} (F : Fun K "quotient_of" "quotient_of" sQOf f fd) (EB : Err P w K mg base "BadText" badFs CB gB dB) (EL : Err P w K mg base "TooLarge" largeFs CL gL dL)
    (TG : FnOk P w K mg base (L2.CX P w) 5 fT dT ["text"] (spReadTerms CB)) (Tg : mg "read_terms" = some (.ref fT)) (Tk : PySem.W.keepIn K (.ref fT) = true) (Tb : Binds K dT ["text"] [])
    (PL : Cl P w K mg base "plus" psOO2 41 spPlus fP dP) (LO : Cl P w K mg base "lowest" psTB 40 spLowP fL dLo) (PO : Cl P w K mg base "polynomial" ["ratios"] 43 (spPoly C) fY dY)
    (mi : mg "isinstance" = none) (ms : mg "str" = none) (ml : mg "len" = none) (mn : mg "int" = none) (mM : mg "MOST_DIGITS" = some (.int 4000 t1)) (mP : mg "MOST_POWER" = some (.int 6 t2)) (dg : PySem.W.nsIn K cStatics "sys.int_max_str_digits" = some none) :
    FnOk P w K mg base (L2.CX P w) 44 f fd ["text"] (spQOf K CB CL C) := by
  refine F.okX scQOf (fun vs H Q E h => ?_) (fun cdv A outer s H vs Q E hr h => ?_)
  · obtain ⟨v, rfl, _⟩ := h
    rfl
  · obtain ⟨v, rfl, h⟩ := h
    have hr1 : Room 1 _ := hr.mono (by decide)
    have hr2 : Room 2 _ := hr.mono (by decide)
    have hr5 : Room 5 _ := hr.mono (by decide)
    have hr40 : Room 40 _ := hr.mono (by decide)
    have hr41 : Room 41 _ := hr.mono (by decide)
    refine ⟨_, pss_cons (ps_if (pt_not (pt_val (pe_callB call_isi (by rfl) mi (by decide +kernel) (pa_cons (pv 0) (pa_cons (pe_bltn (v := .ty "str") (by rfl) ms (by decide +kernel) rfl) pa_nil)))))
        (pss_one (ps_raise rfl (takes_of rfl rfl rfl rfl) (pmk_oex EB.ox EB.iC EB.tI EB.G hr2 EB.b .nil pass0 (by rfl) EB.g (pa_cons pe_int (pa_cons pe_int pa_nil))))) pss_nil)
      (pss_cons (ps_set (i := 1) scQOf.nd rfl (Or.inl rfl) (pe_callS TG hr5 (by rfl) Tg Tk Tb (passAt (takes_of rfl rfl rfl rfl)) (pa_cons (pv 0) pa_nil)))
      (pss_cons (ps_for (passes_of rfl) rfl (pi_list (pv 1)) (pg_name (i := 2) scQOf.nd rfl (Or.inl rfl))
        (pss_one (ps_for (passes_of rfl) rfl (pi_tup (pe_slice sl_tup (pv 2) (po_some pe_int) (po_some pe_int))) (pg_name (i := 3) scQOf.nd rfl (Or.inl rfl))
          (pss_one (ps_if (pt_cmpR op_gt (pe_callB call_len_str (by rfl) ml PySem.boot_len (pa_cons (pv 3) pa_nil)) (pe_glob (v := .int 4000) (by rfl) mM ⟨_, rfl⟩) (nomark _))
            (pss_one (ps_raise rfl (takes_of rfl rfl rfl rfl) (pmk_oex EL.ox EL.iC EL.tI EL.G hr2 EL.b .nil pass0 (by rfl) EL.g (pa_cons pe_str (pa_cons (pe_callB call_len_str (by rfl) ml PySem.boot_len (pa_cons (pv 3) pa_nil)) (pa_cons (pe_glob (v := .int 4000) (by rfl) mM ⟨_, rfl⟩) pa_nil)))))) pss_nil)))))
      (pss_cons (ps_set (i := 4) scQOf.nd rfl (Or.inl rfl) (pe_op op_rep (pe_lst (pa_cons (pe_tup (pa_cons pe_int (pa_cons pe_int pa_nil))) pa_nil)) (pe_op op_add (pe_glob (v := .int 6) (by rfl) mP ⟨_, rfl⟩) pe_int)))
      (pss_cons (ps_for (passes_of rfl) rfl (pi_list (pv 1)) (pg_tup (by rfl) (pgs_cons (pg_name (i := 5) scQOf.nd rfl (Or.inl rfl)) (pgs_cons (pg_name (i := 6) scQOf.nd rfl (Or.inl rfl)) (pgs_cons (pg_name (i := 7) scQOf.nd rfl (Or.inl rfl)) (pgs_cons (pg_name (i := 8) scQOf.nd rfl (Or.inl rfl)) pgs_nil)))))
        (pss_one (ps_asg (pe_call PL.G hr41 (by rfl) PL.g PL.kp PL.b .nil pass0 (pa_cons (pe_ix ix_list (pv 4) (pv 8) (fun _ _ => rfl)) (pa_cons (pe_call LO.G hr40 (by rfl) LO.g LO.kp LO.b .nil pass0
          (pa_cons (pe_op op_mul (pv 5) (pe_callTy (call_int_big dg) (by rfl) mn (by decide +kernel) (pa_cons (pv 6) pa_nil))) (pa_cons (pe_callTy (call_int_big dg) (by rfl) mn (by decide +kernel) (pa_cons (pv 7) pa_nil)) pa_nil))) pa_nil))) (pg_sub (pv 4) (pv 8) set_list))))
      (pss_one (ps_ret (pe_call PO.G hr (by rfl) PO.g PO.kp PO.b .nil pass0 (pa_cons (pv 4) pa_nil)))))))), ?_⟩
    rcases h with ⟨t, rfl, tl, h⟩ | ⟨ty, hty, hk, q⟩
    case inr => exact ⟨_, rfl, v, _, ty, _, false, rfl, .ty _, hty, hk, false, rfl, iteT (raise_ok (C := CB) (names := badFs) (ws := [V.int 0, V.int 0]) rfl (by show 2 ≤ 1000; decide) q)⟩
    refine ⟨_, rfl, _, _, _, _, true, rfl, .ty _, .base (.str t), kit_ty (by decide), true, rfl, iteF ?_⟩
    refine ⟨_, rfl, t, rfl, tl, ?_⟩
    generalize hcs : t.cps.toList = cs at *
    have lcs : cs.length = t.length := by rw [← hcs]; exact tl_len t
    have sle := st_le cs
    generalize hR : rts (t.length + 2) cs (st cs) (sgn (st cs)) [] = R at h ⊢
    cases R with
    | bad col => exact h
    | ok ts =>
    intro l H1 s1 hts
    dsimp only at h
    obtain ⟨ps, hl1, hps⟩ := hts
    have hlen := rts_len _ _ _ [] ts (fun _ hm => nomatch hm) hR
    have pl : ps.length = ts.length := Paired.len hps
    have sq1 : SqL K H1 l (ps.map V.ref) := Or.inl (Or.inl hl1)
    refine ⟨_, rfl, l, rfl, ⟨_, sq1⟩, for_list (K := K) (a := l) (xs := ps.map V.ref) (fun i σ H' => ∃ v2 v3 : Option V, σ = [some (.str t), some (.ref l), v2, v3, none, none, none, none, none] ∧ Same H1 H' ∧ bigOf (ts.drop i) = bigOf ts)
      ⟨none, none, rfl, fun _ _ e => e, rfl⟩ (fun i σ H' _ ⟨_, _, _, e, _⟩ => e.seq sq1) ?_ ?_⟩
    · rintro i x σ H2 hx ⟨v2, v3, rfl, s2, hb⟩
      have hi : i < ts.length := by
        have := (List.getElem?_eq_some_iff.mp hx).1
        rw [List.length_map] at this
        omega
      have hti : ts[i]? = some ts[i] := List.getElem?_eq_getElem hi
      have hmem : ts[i] ∈ ts := List.getElem_mem hi
      have hdrop : ts.drop i = ts[i] :: ts.drop (i + 1) := List.drop_eq_getElem_cons hi
      rw [hdrop] at hb
      obtain ⟨p, hp, htm⟩ := Paired.get hps hti
      rw [List.getElem?_map, hp] at hx
      cases hx
      generalize hy : ts[i]'hi = tm at *
      obtain ⟨x, y, hp2, ex, ey⟩ := htm.same s2
      have lx : x.length = tm.ab.length := by rw [← ex]; exact (tl_len x).symm
      have ly : y.length = tm.be.length := by rw [← ey]; exact (tl_len y).symm
      obtain ⟨zx, zy⟩ := hlen tm hmem
      have sz : sizeLine ≥ 20001 := by decide
      have stp : SqT K H2 p [.int tm.sg, .str x, .str y, .int tm.pw] := Or.inl (Or.inl hp2)
      refine ⟨_, rfl, _, rfl, _, rfl, p, _, rfl, stp, by show ¬ (1 = 0 ∧ _); omega, fun q hq => ?_⟩
      have s3 := s2.trans (same_new (o := .tup [.str x, .str y]) hq)
      have hq3 : (upd H2 q (.tup [.str x, .str y])) q = some (.tup [.str x, .str y]) := upd_same
      show ∃ a, _
      refine ⟨q, rfl, ⟨_, .inl (.inl hq3)⟩, for_tup (K := K) (a := q) (xs := [V.str x, V.str y]) (fun j σ H' => H' = upd H2 q (.tup [.str x, .str y]) ∧ (∃ v3 : Option V, σ = [some (.str t), some (.ref l), some (.ref p), v3, none, none, none, none, none]) ∧ (1 ≤ j → tm.ab.length ≤ 4000) ∧ (2 ≤ j → tm.be.length ≤ 4000))
        ⟨rfl, ⟨_, rfl⟩, fun z => by omega, fun z => by omega⟩ (fun j σ H' _ ⟨e, _⟩ => e ▸ .inl (.inl hq3)) ?_ ?_⟩
      · rintro j z σ H' hz ⟨rfl, ⟨v4, rfl⟩, b1, b2⟩
        match j, hz with
        | 0, hz =>
          cases hz
          refine ⟨_, rfl, x, rfl, by omega, _, _, rfl, rfl, _, rfl, ite2 (fun hd => ?_) (fun hd => ?_)⟩
          · have hd' := of_decide_eq_true hd
            refine ⟨_, rfl, x, rfl, by omega, raiseL ?_⟩
            rw [bigOf_cons] at hb
            rw [if_pos (by omega)] at hb
            rw [← hb] at h
            rw [lx]
            exact Larges.mono h (s1.trans s3)
          · have hd' : ¬ (4000 : Int) < (x.length : Nat) := fun z => hd (decide_eq_true z)
            exact ⟨rfl, ⟨_, rfl⟩, fun _ => by omega, fun z => by omega⟩
        | 1, hz =>
          cases hz
          have b1' := b1 (Nat.le_refl _)
          refine ⟨_, rfl, y, rfl, by omega, _, _, rfl, rfl, _, rfl, ite2 (fun hd => ?_) (fun hd => ?_)⟩
          · have hd' := of_decide_eq_true hd
            refine ⟨_, rfl, y, rfl, by omega, raiseL ?_⟩
            rw [bigOf_cons] at hb
            rw [if_neg (by omega), if_pos (by omega)] at hb
            rw [← hb] at h
            rw [ly]
            exact Larges.mono h (s1.trans s3)
          · have hd' : ¬ (4000 : Int) < (y.length : Nat) := fun z => hd (decide_eq_true z)
            exact ⟨rfl, ⟨_, rfl⟩, fun _ => b1', fun _ => by omega⟩
      · rintro σ H' ⟨rfl, ⟨v4, rfl⟩, b1, b2⟩
        refine ⟨_, _, rfl, s3, ?_⟩
        rw [bigOf_cons] at hb
        rw [if_neg (by have := b1 (by show 1 ≤ 2; decide); omega), if_neg (by have := b2 (Nat.le_refl _); omega)] at hb
        exact hb
    · rintro σ H2 ⟨v2, v3, rfl, s2, hb⟩
      rw [List.length_map, pl, List.drop_length] at hb
      rw [← hb] at h
      obtain ⟨t83, hnd, k⟩ := h
      have hsg : sgn (st cs) = 1 ∨ sgn (st cs) = -1 := by
        unfold sgn
        split
        · exact .inr rfl
        · exact .inl rfl
      obtain ⟨hok, hw⟩ := rts_ok hnd _ _ _ [] ts sle hsg (fun _ hm => nomatch hm) (Nat.zero_le _) hR
      have hbig := bigOf_none hb.symm
      have s02 := s1.trans s2
      refine ⟨by show 2 ≤ sizeLine; decide, fun p0 hp0 => ⟨by show 1 ≤ sizeLine; decide, fun l0 hl0 => ?_⟩⟩
      refine ⟨_, _, rfl, rfl, l0, 7, _, rfl, rfl, upd_same, by decide, by decide, by show 1 * 7 ≤ sizeLine; decide, fun lr hlr => ?_⟩
      have sR : Same H2 (upd (upd (upd H2 p0 (.tup [.int 0, .int 1])) l0 (.lst [.ref p0])) lr (.lst (List.replicate (7 : Int).toNat [V.ref p0]).flatten)) := ((same_new hp0).trans (same_new hl0)).trans (same_new hlr)
      have hlrH : H2 lr = none := ((same_new hp0).trans (same_new hl0)).free hlr
      have f0 : FracsAt (upd (upd (upd H2 p0 (.tup [.int 0, .int 1])) l0 (.lst [.ref p0])) lr (.lst (List.replicate (7 : Int).toNat [V.ref p0]).flatten)) lr rep7 := by
        have z : FrAt (upd (upd (upd H2 p0 (.tup [.int 0, .int 1])) l0 (.lst [.ref p0])) lr (.lst (List.replicate (7 : Int).toNat [V.ref p0]).flatten)) p0 (0, 1) := ((same_new hl0).trans (same_new hlr)) _ _ upd_same
        exact ⟨List.replicate 7 p0, upd_same, .cons z (.cons z (.cons z (.cons z (.cons z (.cons z (.cons z .nil))))))⟩
      generalize upd (upd (upd H2 p0 (.tup [.int 0, .int 1])) l0 (.lst [.ref p0])) lr (.lst (List.replicate (7 : Int).toNat [V.ref p0]).flatten) = H3 at sR f0 ⊢
      have sq2 := s2.seq sq1
      refine ⟨_, rfl, l, rfl, ⟨_, sR.seq sq2⟩, for_list (K := K) (a := l) (xs := ps.map V.ref) (fun i σ H' => ∃ v2 v3 v5 v6 v7 v8 : Option V, σ = [some (.str t), some (.ref l), v2, v3, some (.ref lr), v5, v6, v7, v8] ∧ Same H2 H' ∧ FracsAt H' lr (sums (ts.take i)))
        ⟨v2, v3, none, none, none, none, rfl, sR, f0⟩ (fun i σ H' _ ⟨_, _, _, _, _, _, _, e, _⟩ => e.seq sq2) ?_ ?_⟩
      · rintro i x σ H4 hx ⟨v2, v3, v5, v6, v7, v8, rfl, s4, f4⟩
        have hi : i < ts.length := by
          have := (List.getElem?_eq_some_iff.mp hx).1
          rw [List.length_map] at this
          omega
        have hti : ts[i]? = some ts[i] := List.getElem?_eq_getElem hi
        have hmem : ts[i] ∈ ts := List.getElem_mem hi
        obtain ⟨p, hp, htm⟩ := Paired.get hps hti
        rw [List.getElem?_map, hp] at hx
        cases hx
        generalize hy : ts[i]'hi = tm at *
        obtain ⟨x, y, hp4, ex, ey⟩ := htm.same (s2.trans s4)
        have tok := hok tm hmem
        obtain ⟨g1, g2⟩ := hbig tm hmem
        obtain ⟨a1, a2, a3⟩ := int_cut ex tok.a tok.a0 (by omega)
        obtain ⟨b1, b2, b3⟩ := int_cut ey tok.b tok.b0 (by omega)
        have hokT : ∀ tm ∈ ts.take i, TmOk tm := fun z hz => hok z (List.mem_of_mem_take hz)
        have hwT : wts (ts.take i) ≤ wts ts := by
          unfold wts
          have e : ((ts.take i) ++ ts.drop i) = ts := List.take_append_drop i ts
          have e2 : (ts.map fun t => wt t + 1).sum = ((ts.take i).map fun t => wt t + 1).sum + ((ts.drop i).map fun t => wt t + 1).sum := by
            rw [← List.sum_append, ← List.map_append, e]
          omega
        have g4 := sums_figs hokT
        obtain ⟨qs, hl4, hqs⟩ := f4
        have l7 := sums_len (ts.take i)
        have pw6 := tok.pw
        have hX : (sums (ts.take i))[tm.pw]? = some ((sums (ts.take i)).getD tm.pw (0, 1)) := by
          rw [List.getD_eq_getElem?_getD, List.getElem?_eq_getElem (by omega)]
          rfl
        obtain ⟨pj, hpj, hfr⟩ := Paired.get hqs hX
        generalize hxx : (sums (ts.take i)).getD tm.pw (0, 1) = X at hX hfr
        obtain ⟨sx, sx1, sx2⟩ := g4.get hX
        have sq4 : SqL K H4 lr (qs.map V.ref) := Or.inl (Or.inl hl4)
        have hat : atI (qs.map V.ref) ((tm.pw : Nat) : Int) = some (.ref pj) := atI_nat (by rw [List.getElem?_map, hpj]; rfl)
        have fy := tm_fig tok
        have wle : wt tm ≤ 4000 := by
          unfold wt
          omega
        have r0 := red_low (a := tm.sg * dv tm.ab) tok.p
        refine ⟨p, _, rfl, Or.inl (Or.inl hp4), rfl, _, _, rfl, _, _, rfl, _, _, rfl, _, _, rfl, rfl, ?_⟩
        refine ⟨_, rfl, _, rfl, lr, _, _, _, rfl, rfl, sq4, hat, _, rfl, _, rfl, x, _, rfl, a1, a2, a3, _, _, rfl, rfl, Or.inl ⟨by rcases tok.sg with e | e <;> rw [e] <;> decide, by rcases tok.sg with e | e <;> rw [e] <;> decide⟩, ?_⟩
        refine ⟨_, rfl, y, _, rfl, b1, b2, b3, _, _, rfl, tok.p, fun r2 H5 s5 hr5 => ?_⟩
        refine ⟨pj, r2, X, termF tm, rfl, fr_same hfr s5, hr5, sx2.1, r0.1, small_sm (fig_small sx2.2.1 (by omega)), small_sm (fig_small sx2.2.2 (by omega)), small_sm (fig_small fy.2.1 (by omega)), small_sm (fig_small fy.2.2 (by omega)), fun r3 H6 s6 hr6 => ?_⟩
        have s56 := s5.trans s6
        have hl6 := s56 _ _ hl4
        have ql : qs.length = (sums (ts.take i)).length := Paired.len hqs
        have hix : ixN (qs.map V.ref).length ((tm.pw : Nat) : Int) = some tm.pw := by
          unfold ixN
          rw [if_pos (by omega), if_pos (by rw [List.length_map]; omega)]
          rfl
        refine ⟨_, rfl, _, rfl, lr, _, _, tm.pw, rfl, rfl, hl6, hix, ?_⟩
        refine ⟨_, _, _, _, _, _, rfl, fun b o eb => ?_, ?_⟩
        · rw [upd_ne (ne_of_none eb hlrH)]
          exact (s4.trans s56) _ _ eb
        · rw [List.take_add_one, hti]
          show FracsAt _ lr (sums (ts.take i ++ [tm]))
          rw [sums_snoc]
          unfold stepF
          rw [hxx]
          exact ⟨qs.set tm.pw r3, by rw [upd_same, List.map_set], Paired.put (fr_upd hr6 hl6) (Paired.imp (fun a b z => fr_upd (fr_same z s56) hl6) hqs) tm.pw⟩
      · rintro σ H4 ⟨v2, v3, v5, v6, v7, v8, rfl, s4, f4⟩
        rw [List.length_map, pl, List.take_length] at f4
        refine ⟨_, rfl, lr, sums ts, wts ts, rfl, f4, sums_figs hok, by omega, by rw [sums_len]; decide, fun o ys H' s5 ht hq => k o ys H' (s02.trans (s4.trans s5)) ht hq⟩
end
end Fk

set_option Elab.async false
set_option maxRecDepth 100000
set_option maxHeartbeats 4000000
namespace Fk
open PySem PySem.Spec PyProof.Rows L2
/-! ### a tuple so many times, none and one too -/
theorem tup_none (l : Addr) (z : Array Value) (m : Nat) (dd : Option Addr) (ss : Array (Option Value)) (k : Int) (t : Tok) (hk : k = 0) (hz : z.isEmpty = false) :
    Meets (Builtin.«tuple.__mul__» ⟨[.ref l, .int k t], []⟩) (fun _ R s => s.heap.get? l = some ⟨.type "tuple", dd, .seq z m, ss⟩ ∧ R (.ok (.ret (Value.ref s.heap.objs.size))) { s with heap := s.heap.push { cls := Value.type "tuple", data := Data.seq #[] }, toks := s.toks }) :=
  Meets.of_wp fun _ _ _ _ s hh => by
    obtain ⟨_, _, _, _, _⟩ := s
    obtain ⟨hl, q⟩ := hh
    have i1 := AutoSeq1.idx_int
    subst hk
    have c1 : (z.isEmpty || (0 : Int) == 1) = false := by rw [hz]; rfl
    wp_walk using wpAny_loadPart' hl
    exact ⟨_, rfl, q⟩
theorem tup_one (l : Addr) (z : Array Value) (m : Nat) (dd : Option Addr) (ss : Array (Option Value)) (k : Int) (t : Tok) (hk : k = 1) :
    Meets (Builtin.«tuple.__mul__» ⟨[.ref l, .int k t], []⟩) (fun _ R s => s.heap.get? l = some ⟨.type "tuple", dd, .seq z m, ss⟩ ∧ R (.ok (.ret (Value.ref l))) s) :=
  Meets.of_wp fun _ _ _ _ s hh => by
    obtain ⟨_, _, _, _, _⟩ := s
    obtain ⟨hl, q⟩ := hh
    have i1 := AutoSeq1.idx_int
    subst hk
    wp_walk using wpAny_loadPart' hl
    exact ⟨_, rfl, q⟩
/-- t * k, 0 ≤ k: some tuple that holds it -/
def rRepZ : R2 := fun x y H Q => ∃ (l : Addr) (k : Int) (xs : List V), x = .ref l ∧ y = .int k ∧ H l = some (.tup xs) ∧ xs ≠ [] ∧ 0 ≤ k ∧ k ≤ 1000 ∧ xs.length ≤ 1000 ∧ ∀ p H', Same H H' → H' p = some (.tup (List.replicate k.toNat xs).flatten) → Q (.ref p) H'
theorem op_repZ {X : Cx} : OpR X (binaryOp .Mult) rRepZ := by
  intro pins s σ H x y v u Q I rx ry hh
  obtain ⟨l, k, xs, rfl, rfl, hl, hne, k0, k1, hz, q⟩ := hh
  by_cases k2 : 2 ≤ k
  · exact op_repT pins s σ H _ _ v u Q I rx ry ⟨l, k, xs, rfl, rfl, Or.inl (Or.inl hl), hne, k2, k1, hz, fun p hp => q p _ (fun b o e => by rw [upd_ne (ne_of_none e hp)]; exact e) upd_same⟩
  cases rx
  obtain ⟨t, rfl⟩ := ry
  obtain ⟨its, r, ⟨⟨cls, dd, data, sl⟩, ho, hc, n, hd⟩, hs⟩ := I.tuple (Or.inl (Or.inl hl))
  simp only at hc hd
  subst hc hd
  have hle : its.length = xs.length := r.length.symm
  have hi : its.toArray.isEmpty = false := by
    cases its with
    | nil => exact absurd (List.eq_nil_of_length_eq_zero hle.symm) hne
    | cons a b => rfl
  by_cases kz : k = 0
  · subst kz
    refine wpAny_binaryOp_repeat_ref (T := "tuple") (U := "int") (by decide) ⟨_, ho, rfl⟩ (fun s' => typeIs_int s' 0 t) noFill_tuple_mul F.fills_int_mul F.slot_int_rmul repeat_tuple F.slot_int_index.lookup
      (call_meets F.slot_int_rmul (typeIs_int s 0 t) F.entry_int_rmul (F.args_int_rmul_2 _ _) (int_rmul_tuple 0 t l its.toArray n dd sl) ⟨ho, rfl, ⟨_, ho, rfl⟩, ?_⟩)
    refine call_meets F.slot_tuple_mul ⟨_, ho, rfl⟩ F.entry_tuple_mul (F.args_tuple_mul_2 _ _) (tup_none l its.toArray n dd sl 0 t rfl hi) ⟨ho, ?_⟩
    refine ⟨.ref s.heap.objs.size, _, I.laid (t' := s.toks) (o := .tup []) (fun b ob z => Heap.get?_push_of_some _ z) (Nat.le_refl _) ⟨Nat.zero_le _, [], .nil, IsTup.new _ _⟩, rfl, ?_⟩
    have free := I.hok.fresh (Nat.le_refl s.heap.objs.size)
    exact q _ _ (fun b o e => by rw [upd_ne (ne_of_none e free)]; exact e) upd_same
  · obtain rfl : k = 1 := by omega
    refine wpAny_binaryOp_repeat_ref (T := "tuple") (U := "int") (by decide) ⟨_, ho, rfl⟩ (fun s' => typeIs_int s' 1 t) noFill_tuple_mul F.fills_int_mul F.slot_int_rmul repeat_tuple F.slot_int_index.lookup
      (call_meets F.slot_int_rmul (typeIs_int s 1 t) F.entry_int_rmul (F.args_int_rmul_2 _ _) (int_rmul_tuple 1 t l its.toArray n dd sl) ⟨ho, rfl, ⟨_, ho, rfl⟩, ?_⟩)
    refine call_meets F.slot_tuple_mul ⟨_, ho, rfl⟩ F.entry_tuple_mul (F.args_tuple_mul_2 _ _) (tup_one l its.toArray n dd sl 1 t rfl) ⟨ho, ?_⟩
    exact ⟨.ref l, H, I, rfl, q l H (fun _ _ e => e) (by show H l = some (.tup (xs ++ [])); rw [List.append_nil]; exact hl)⟩
end Fk

set_option Elab.async false
set_option maxRecDepth 100000
namespace Fk
open PySem L2
/-! ### the law looks at what it was told: is it a row -/
abbrev sWhole : Stmt := top 60
abbrev sLIsRow : Stmt := top 61
abbrev psLV : List Str := ["_law_value"]
theorem op_neDK {X : Cx} {K : PySem.W.Frag} (hK : X.K = K) (hu : X.A.units + 64 < cLine) : OpR X (compareOp .NotEq) (rNeD K) := hK ▸ op_neD hu
theorem op_eqDK {X : Cx} {K : PySem.W.Frag} (hK : X.K = K) (hu : X.A.units + 64 < cLine) : OpR X (compareOp .Eq) (rEqD K) := hK ▸ op_eqD hu
def spLIsRow (K : PySem.W.Frag) : Sp := fun vs H Q _ => ∃ (p : Addr) (xs : List Int), vs = [.ref p] ∧ SqT K H p (iv xs) ∧ RowOk xs ∧ ∀ H', Same H H' → Q (.bl true) H'
theorem dp_ints {K : PySem.W.Frag} {H : Hp} : ∀ xs : List Int, DpAll K H (iv xs) (xs.map PyData.int)
  | [] => .nil
  | x :: xs => .cons (.int x) (dp_ints xs)
theorem ints_lay : ∀ xs : List Int, PyData.canLayAll0 (xs.map PyData.int) = true
  | [] => by simp only [List.map_nil, PyData.canLayAll0]
  | x :: xs => by simp only [List.map_cons, PyData.canLayAll0, PyData.canLay0, ints_lay xs, Bool.and_self]
theorem ints_depth : ∀ xs : List Int, PyData.depthAll (xs.map PyData.int) ≤ 1
  | [] => by simp [PyData.depthAll]
  | x :: xs => by
    have := ints_depth xs
    simp [PyData.depthAll, PyData.depth]
    omega
theorem ints_shaped (xs : List Int) : SeqAt.shaped (.tuple (xs.map PyData.int)) = true := by
  have h2 := ints_depth xs
  unfold SeqAt.shaped
  simp only [PyData.canLay0, ints_lay xs, Bool.true_and, PyData.depth]
  exact decide_eq_true (by omega)
theorem ints_eqv : ∀ xs : List Int, PyData.eqv (.tuple (xs.map PyData.int)) (.tuple []) = decide (xs = [])
  | [] => by simp [PyData.eqv, PyData.eqvAll]
  | x :: xs => by simp [PyData.eqv, PyData.eqvAll]
section
variable {P : Program} {w : World} {K : PySem.W.Frag} {mg : Str → Option Value} {base : Heap}
theorem scWhole : FnScope psLV psLV (defScope sWhole) := ⟨rfl, rfl, rfl, by decide +kernel, rfl, by decide +kernel, by decide +kernel⟩
theorem ok_whole {f : Addr} {fd : FuncData} (F : Fun K "_law_is_whole" "_law_is_whole" sWhole f fd) (mi : mg "isinstance" = none) (mn : mg "int" = none) (mb : mg "bool" = none) : FnOk P w K mg base CX0 1 f fd psLV spIsInt1 := by
  refine F.ok scWhole (fun vs H Q E h => ?_) (fun cdv A outer s H vs Q E hr h => ?_)
  · obtain ⟨i, rfl, _⟩ := h
    rfl
  · obtain ⟨i, rfl, k⟩ := h
    refine ⟨_, pss_one (ps_ret (pe_and (pe_callB call_isi (by rfl) mi (by decide +kernel) (pa_cons (pv 0) (pa_cons (pe_bltn (v := .ty "int") (by rfl) mn (by decide +kernel) rfl) pa_nil)))
      (pe_one (pe_not (pe_callB call_isi (by rfl) mi (by decide +kernel) (pa_cons (pv 0) (pa_cons (pe_bltn (v := .ty "bool") (by rfl) mb (by decide +kernel) rfl) pa_nil))))))), ?_⟩
    exact ⟨_, rfl, _, _, _, _, true, rfl, .ty _, .base (.int i), kit_ty (by decide), true, rfl, _, rfl, _, _, _, _, false, rfl, .ty _, .base (.int i), kit_ty (by decide), false, rfl, k⟩
abbrev nsLIR : List Str := ["_law_value", "_law_one"]
theorem scLIsRow : FnScope nsLIR psLV (defScope sLIsRow) := ⟨rfl, rfl, rfl, by decide +kernel, rfl, by decide +kernel, by decide +kernel⟩
theorem ok_lisrow {f fW : Addr} {fd dW : FuncData} (F : Fun K "_law_is_row" "_law_is_row" sLIsRow f fd) (mi : mg "isinstance" = none) (mt : mg "tuple" = none) (W : Cl P w K mg base "_law_is_whole" psLV 1 spIsInt1 fW dW) : FnOk P w K mg base CX0 2 f fd psLV (spLIsRow K) := by
  refine F.ok scLIsRow (fun vs H Q E h => ?_) (fun cdv A outer s H vs Q E hr h => ?_)
  · obtain ⟨p, xs, rfl, _⟩ := h
    rfl
  · obtain ⟨p, xs, rfl, st, hrow, k⟩ := h
    refine ⟨_, pss_cons (ps_if (PW.pt (pw_or (pt_not (pt_val (pe_callB call_isi (by rfl) mi (by decide +kernel) (pa_cons (pv 0) (pa_cons (pe_bltn (v := .ty "tuple") (by rfl) mt (by decide +kernel) rfl) pa_nil)))))
          (pw_or1 (pt_cmpR (op_neDK (K := K) rfl hr.units) (pe_lc (own := [("_law_one", 1)]) rfl scLIsRow.nd (pi_tup (pv 0)) (blkOk_by (N := nsLIR) (sc := defScope sLIsRow) (by decide +kernel)) (fun _ _ _ _ _ => pg_name (i := 1) scLIsRow.nd rfl (Or.inl rfl))
            (fun _ _ _ _ _ => pts_one (pt_not (pt_val (pe_call W.G hr (by rfl) W.g W.kp W.b .nil pass0 (pa_cons (pv 1) pa_nil))))) (fun _ _ _ _ _ => pv 1)) (pe_lst pa_nil) (nomark _))))) (pss_one (ps_ret pe_bl)) pss_nil)
      (pss_one (ps_ret (pe_or (pe_cmpR (op_eqDK (K := K) rfl hr.units) (pv 0) (pe_tup pa_nil) (nomark _)) (pe_one (pe_cmpR op_ne (pe_ix ix_tup (pv 0) (pe_un un_neg pe_int) (fun _ _ => rfl)) pe_int (nomark _)))))), ?_⟩
    refine ⟨_, rfl, _, _, _, _, true, rfl, .ty _, ty_of_sqt st, kit_ty (by decide), true, rfl, iteF ?_⟩
    refine ⟨_, rfl, p, rfl, ⟨_, st⟩, fun D hD => lc_tup (K := K) (a := p) (xs := iv xs) (fun i H2 => H2 = upd H D (.lst [])) rfl (fun i H2 _ e => ?_) ?_ ?_⟩
    · rw [e]
      exact sqt_same (same_new hD) st
    · rintro i x H2 hx rfl
      obtain ⟨z, hz, rfl⟩ := iv_at hx
      exact ⟨rfl, _, rfl, z, rfl, true, rfl, rfl⟩
    · rintro H2 rfl
      refine ⟨by show 0 ≤ sizeLine; decide, fun l hl => ?_⟩
      have sD := (same_new (o := .lst []) hD).trans (same_new (o := .lst []) hl)
      have e1 : (upd (upd H D (.lst [])) l (.lst [])) D = some (.lst []) := same_new hl _ _ upd_same
      have e2 : (upd (upd H D (.lst [])) l (.lst [])) l = some (.lst []) := upd_same
      generalize upd (upd H D (.lst [])) l (.lst []) = H3 at sD e1 e2 ⊢
      refine ⟨.list [], .list [], .lst (.inl (.inl e1)) .nil, .lst (.inl (.inl e2)) .nil, by decide, by decide, false, rfl, iteF ?_⟩
      have st3 := sqt_same sD st
      refine ⟨_, rfl, by show 0 ≤ sizeLine; decide, fun r hr0 => ?_⟩
      have sr := same_new (o := .tup []) hr0
      refine ⟨.tuple (xs.map PyData.int), .tuple [], .tup (sqt_same sr st3) (dp_ints xs), .tup (.inl (.inl upd_same)) .nil, ints_shaped xs, by decide, _, rfl, ?_⟩
      rw [ints_eqv]
      rcases hrow with rfl | ⟨z, hz, z0⟩
      · exact iteT (k _ (sD.trans sr))
      · have xne : xs ≠ [] := fun e => by
          rw [e] at hz
          cases hz
        refine iteF' (decide_eq_false xne) ?_
        refine ⟨_, rfl, _, rfl, p, _, _, _, rfl, rfl, sqt_same sr st3, atI_m1 (by rw [iv_len]; exact iv_get hz), rfl, ?_⟩
        rw [decide_eq_false (fun e => z0 (V.int.inj e) : ¬ V.int z = V.int 0)]
        exact k _ (sD.trans sr)
end
end Fk

set_option Elab.async false
set_option maxRecDepth 100000
namespace Fk
open PySem L2
/-! ### the tops stay small -/
theorem step_dvd {s M : Int} {x : Int × Int} (hs : s ∣ M) (hx : x.2 ∣ M) : shStep s x ∣ M := by
  have e : (shStep s x).natAbs = Nat.lcm s.natAbs x.2.natAbs := by
    unfold shStep Nat.lcm
    rw [Int.natAbs_mul, Int.natAbs_ediv_of_dvd (gcd_dvd_int _ _), Int.natAbs_natCast]
    exact Nat.div_mul_right_comm (Nat.gcd_dvd_left _ _) _
  refine Int.natAbs_dvd_natAbs.mp ?_
  rw [e]
  exact Nat.lcm_dvd (Int.natAbs_dvd_natAbs.mpr hs) (Int.natAbs_dvd_natAbs.mpr hx)
theorem shF_dvd {M : Int} : ∀ (fs : List (Int × Int)) (s : Int), s ∣ M → (∀ x ∈ fs, x.2 ∣ M) → fs.foldl shStep s ∣ M
  | [], _, h, _ => h
  | x :: fs, s, h, hx => shF_dvd fs (shStep s x) (step_dvd h (hx x (List.mem_cons_self ..))) fun y hy => hx y (List.mem_cons_of_mem _ hy)
theorem sum_erase : ∀ (ss : List Nat) (i s : Nat), ss[i]? = some s → ss.sum = (ss.eraseIdx i).sum + s
  | [], _, _, h => nomatch h
  | a :: ss, 0, s, h => by
    cases h
    rw [List.eraseIdx_cons_zero, List.sum_cons]
    omega
  | a :: ss, i + 1, s, h => by
    have z := sum_erase ss i s h
    rw [List.eraseIdx_cons_succ, List.sum_cons, List.sum_cons]
    omega
theorem tops_small {n i : Nat} {fs : List (Int × Int)} {x : Int × Int} (h : Figs n fs) (hx : fs[i]? = some x) : (x.1 * (shF fs / x.2)).natAbs ≤ 10 ^ n := by
  have hp := h.pos
  obtain ⟨ss, h1, h2, h3⟩ := h
  have hi := (List.getElem?_eq_some_iff.mp hx).1
  have es : ss[i]? = some ss[i] := List.getElem?_eq_getElem (by omega)
  obtain ⟨x0, x1, _⟩ := h2 i x _ hx es
  have hle := shF_le (fs.eraseIdx i) (ss.eraseIdx i) 1 0 (by rw [List.length_eraseIdx, List.length_eraseIdx, h1]) (fun j y t hy ht => by
    rw [List.getElem?_eraseIdx] at hy ht
    split at hy
    · rename_i g
      rw [if_pos g] at ht
      exact h2 j y t hy ht
    · rename_i g
      rw [if_neg g] at ht
      exact h2 (j + 1) y t hy ht) (by decide) (by decide)
  have hE : ∀ y ∈ fs.eraseIdx i, 0 < y.2 := fun y hy => hp y (List.mem_of_mem_eraseIdx hy)
  obtain ⟨p1, p2, p3⟩ := shF_facts (fs.eraseIdx i) 1 (by decide) hE
  generalize hS : (fs.eraseIdx i).foldl shStep 1 = S1 at hle p1 p3
  have dv : shF fs ∣ x.2 * S1 := shF_dvd fs 1 ⟨x.2 * S1, (Int.one_mul _).symm⟩ fun y hy => by
    obtain ⟨j, hj⟩ := List.mem_iff_getElem?.mp hy
    by_cases e : j = i
    · subst e
      rw [hx] at hj
      cases hj
      exact ⟨S1, rfl⟩
    · have hm : y ∈ fs.eraseIdx i := by
        refine List.mem_iff_getElem?.mpr ?_
        by_cases lt : j < i
        · exact ⟨j, by rw [List.getElem?_eraseIdx, if_pos lt]; exact hj⟩
        · exact ⟨j - 1, by rw [List.getElem?_eraseIdx, if_neg (by omega), show j - 1 + 1 = j by omega]; exact hj⟩
      obtain ⟨c, hc⟩ := p3 y hm
      exact ⟨x.2 * c, by rw [hc, ← Int.mul_assoc, ← Int.mul_assoc, Int.mul_comm x.2 y.2]⟩
  have le1 : shF fs ≤ x.2 * S1 := Int.le_of_dvd (Int.mul_pos x0 p1) dv
  have le2 : shF fs / x.2 ≤ S1 := Int.ediv_le_of_le_mul x0 (by rw [Int.mul_comm]; exact le1)
  have ge0 : 0 ≤ shF fs / x.2 := Int.ediv_nonneg (Int.le_of_lt (shF_facts fs 1 (by decide) hp).1) (Int.le_of_lt x0)
  have le3 : (shF fs / x.2).natAbs ≤ 10 ^ (0 + (ss.eraseIdx i).sum) := by
    have z : shF fs / x.2 ≤ 10 ^ (0 + (ss.eraseIdx i).sum) := Int.le_trans le2 hle
    have e : ((10 : Int) ^ (0 + (ss.eraseIdx i).sum)) = ((10 ^ (0 + (ss.eraseIdx i).sum) : Nat) : Int) := (Int.natCast_pow 10 _).symm
    rw [e] at z
    omega
  rw [Int.natAbs_mul]
  refine Nat.le_trans (Nat.mul_le_mul x1 le3) ?_
  rw [← Nat.pow_add]
  have := sum_erase ss i _ es
  exact Nat.pow_le_pow_right (by decide) (by omega)
theorem ys_small {n : Nat} {fs : List (Int × Int)} {ys : List Int} {z : Int} (h : Figs n fs) (ht : Trim (tops fs (shF fs)) ys) (hz : z ∈ ys) : z.natAbs ≤ 10 ^ n := by
  obtain ⟨m, hm, rfl, _⟩ := ht
  obtain ⟨x, hx, rfl⟩ := List.mem_map.mp (show z ∈ fs.map (fun x => x.1 * (shF fs / x.2)) from List.mem_of_mem_take hz)
  obtain ⟨i, hi⟩ := List.mem_iff_getElem?.mp hx
  exact tops_small h hi
theorem nat_div_le {a g : Int} (hd : g ∣ a) : (a / g).natAbs ≤ a.natAbs := by
  rw [Int.natAbs_ediv_of_dvd hd]
  exact Nat.div_le_self _ _
theorem row_div {xs : List Int} {S : Int} (h : RowOk xs) (s0 : 0 < S) : RowOk (xs.map (· / lrG xs S)) := by
  rcases h with rfl | ⟨z, hz, z0⟩
  · exact .inl rfl
  · refine .inr ⟨z / lrG xs S, ?_, fun e => z0 ?_⟩
    · rw [List.length_map, List.getElem?_map, hz]
      rfl
    · have hd : lrG xs S ∣ z := lrG_dvd' (List.mem_of_getElem? hz)
      rw [← Int.ediv_mul_cancel hd, e, Int.zero_mul]
/-- what the list of the law is made of -/
def zeros7 (ts : List Int) : List Int := ts ++ List.replicate (7 - ts.length) 0
/-! ### t + u of any tuples -/
def rCatZ (K : PySem.W.Frag) : R2 := fun x y H Q => ∃ a b xs ys, x = .ref a ∧ y = .ref b ∧ SqT K H a xs ∧ SqT K H b ys ∧ xs.length + ys.length ≤ sizeLine ∧ ∀ p H', Same H H' → SqT K H' p (xs ++ ys) → Q (.ref p) H'
theorem op_catZ {X : Cx} {K : PySem.W.Frag} (hK : X.K = K) : OpR X (binaryOp .Add) (rCatZ K) := by
  subst hK
  intro pins s σ H x y v u Q I rx ry hh
  obtain ⟨a, b, xs, ys, rfl, rfl, ha, hb, hz, q⟩ := hh
  refine op_catA pins s σ H _ _ v u Q I rx ry ⟨a, b, xs, ys, rfl, rfl, ha, hb, hz, fun e => ?_, fun _ e => ?_, fun _ _ p hp => ?_⟩
  · refine q b H (fun _ _ z => z) ?_
    rw [e]
    exact hb
  · refine q a H (fun _ _ z => z) ?_
    rw [e, List.append_nil]
    exact ha
  · exact q p _ (same_new hp) (.inl (.inl upd_same))
end Fk

set_option Elab.async false
set_option maxRecDepth 100000
namespace Fk
open PySem L2
/-! ### what the law is told -/
abbrev sTold : Stmt := top 66
theorem look_line (n : Int) (m : Int) : (badD m n).lookup ("line" : Str) = some (V.int m) := by
  unfold badD
  rw [List.lookup_cons, show (("line" : Str) == "column") = false by decide +kernel, List.lookup_cons, show (("line" : Str) == "line") = true by decide +kernel]
theorem look_col (n : Int) (m : Int) : (badD m n).lookup ("column" : Str) = some (V.int n) := by
  unfold badD
  rw [List.lookup_cons, show (("column" : Str) == "column") = true by decide +kernel]
theorem look_limit (n : Int) : (largeD n).lookup ("limit" : Str) = some (V.int 4000) := by
  unfold largeD
  rw [List.lookup_cons, show (("limit" : Str) == "limit") = true by decide +kernel]
theorem look_number (n : Int) : (largeD n).lookup ("number" : Str) = some (V.int n) := by
  unfold largeD
  rw [List.lookup_cons, show (("number" : Str) == "limit") = false by decide +kernel, List.lookup_cons, show (("number" : Str) == "number") = true by decide +kernel]
theorem look_what (n : Int) : (largeD n).lookup ("what" : Str) = some (V.str "digits") := by
  unfold largeD
  rw [List.lookup_cons, show (("what" : Str) == "limit") = false by decide +kernel, List.lookup_cons, show (("what" : Str) == "number") = false by decide +kernel, List.lookup_cons, show (("what" : Str) == "what") = true by decide +kernel]
theorem pe_fldK {X : Cx} {K : PySem.W.Frag} {o : Expr} {f : Str} {pos : Pos} {ta : TE} (hK : X.K = K) (he : PE X o ta) (hb : attributeBase o f X.env (eval o X.env) = eval o X.env) : PE X (.Attribute o f pos) (tFld K ta f) := by
  subst hK
  exact pe_fld he hb
theorem ix_tupK {X : Cx} {K : PySem.W.Frag} (hK : X.K = K) : IxR X (rIxT K) := by
  subst hK
  exact ix_tup
/-- what the classes must say -/
structure Kin (K : PySem.W.Frag) (mg : Str → Option Value) (CB CL C : Addr) : Prop where
  gi : mg "isinstance" = none
  xB : XfC K CB
  xL : XfC K CL
  fl : PySem.W.findIn K (.ref CB) "line" = some none
  fc : PySem.W.findIn K (.ref CB) "column" = some none
  fw : PySem.W.findIn K (.ref CL) "what" = some none
  fn : PySem.W.findIn K (.ref CL) "number" = some none
  fi : PySem.W.findIn K (.ref CL) "limit" = some none
  mBB : PySem.W.exmOne K (.ref CB) (.ref CB) = some true
  mLB : PySem.W.exmOne K (.ref CL) (.ref CB) = some false
  mLL : PySem.W.exmOne K (.ref CL) (.ref CL) = some true
  q : QCls K C
  qa : PySem.W.findIn K (.ref C) "__class__" = some (some (.builtin "object.__class__"))
  qn : PySem.W.specialIn K (.builtin "object.__class__") "__get__" = some (some (.builtin "getset_descriptor.__get__"))
  qt : PySem.W.takesIn K (.builtin "object.__class__") = some true
  qm : PySem.W.mroIn K C (.type "object") = some true
  qq : PySem.W.kitOne K (.ref C) (.ref C) = some true
theorem Kin.ty {K : PySem.W.Frag} {mg : Str → Option Value} {CB CL C : Addr} (T : Kin K mg CB CL C) {H : Hp} {o dx : Addr} {fs : List (Str × V)} (h : H o = some (.ins C dx fs)) : TyX K H (.ref o) (.ref C) := .base (.ins h T.q.cl T.qa T.qn T.qt T.qm)
theorem flat_zeros : ∀ k : Nat, (List.replicate k [V.int 0]).flatten = iv (List.replicate k 0)
  | 0 => rfl
  | k + 1 => by
    rw [List.replicate_succ, List.flatten_cons, flat_zeros k]
    rfl
theorem iv_app (xs ys : List Int) : iv xs ++ iv ys = iv (xs ++ ys) := (List.map_append ..).symm
def spTold (K : PySem.W.Frag) : Sp := fun vs H Q _ => ∃ v : V, vs = [v] ∧ ((∃ t : Str, v = .str t ∧ t.length ≤ 20000 ∧ (match rts (t.length + 2) t.cps.toList (st t.cps.toList) (sgn (st t.cps.toList)) [] with
    | .bad col => ∀ H', Same H H' → Q (.int col) H'
    | .ok ts => (match bigOf ts with
      | some m => ∀ p H', Same H H' → H' p = some (.tup [.str "large", .str "digits", .int m, .int 4000]) → Q (.ref p) H'
      | none => t.length ≤ 8300 ∧ (∀ j, nd t.cps.toList j ≤ 4300) ∧ ∀ l H', Same H H' → FracsAt H' l (sums ts) → Q (.ref l) H'))) ∨
  (∃ ty, TyX K H v ty ∧ PySem.W.kitOne K ty (.type "str") = some false ∧ ∀ p H', Same H H' → H' p = some (.tup [.str "text", .int 0, .int 0]) → Q (.ref p) H'))
section
variable {P : Program} {w : World} {K : PySem.W.Frag} {mg : Str → Option Value} {base : Heap}
abbrev nsTold : List Str := ["_law_value", "_law_told_here", "e", "_law_number"]
theorem scTold : FnScope nsTold psLV (defScope sTold) := ⟨rfl, rfl, rfl, by decide +kernel, rfl, by decide +kernel, by decide +kernel⟩
theorem ok_told {f C CB CL gB gL fQ fR fL : Addr} {fd dB dL dQ dR dLq : FuncData} (F : Fun K "_law_told" "_law_told" sTold f fd) (T : Kin K mg CB CL C) (EB : Err P w K mg base "BadText" badFs CB gB dB) (EL : Err P w K mg base "TooLarge" largeFs CL gL dL)
    (QG : FnOk P w K mg base (L2.CX P w) 44 fQ dQ ["text"] (spQOf K CB CL C)) (Qg : mg "quotient_of" = some (.ref fQ)) (Qk : PySem.W.keepIn K (.ref fQ) = true) (Qb : Binds K dQ ["text"] []) (gC : mg "Quotient" = some (.ref C))
    (R : Cl P w K mg base "_law_is_row" psLV 2 (spLIsRow K) fR dR) (L : Cl P w K mg base "_law_q" psQ 40 spQ2 fL dLq) (ml : mg "len" = none) : FnOk P w K mg base CX0 45 f fd psLV (spTold K) := by
  refine F.ok scTold (fun vs H Q E h => ?_) (fun cdv A outer s H vs Q E hr h => ?_)
  · obtain ⟨v, rfl, _⟩ := h
    rfl
  · obtain ⟨v, rfl, k⟩ := h
    have hr2 : Room 2 _ := hr.mono (by decide)
    have hr40 : Room 40 _ := hr.mono (by decide)
    refine ⟨_, C8.pss_cut (ps_try_each rfl rfl scTold.nd takes0
        (fun W pn xe tk _ => pss_one (ps_set (i := 1) scTold.nd rfl (Or.inr rfl) (pe_callS QG hr (by rfl) Qg Qk Qb (passAt tk) (pa_cons (pv 0) pa_nil))))
        (Clauses.cons (i := 2) ⟨by rfl, by decide +kernel, Or.inl EB.g⟩ rfl rfl (fun a oe cls d pn hz hf =>
            pss_one (ps_ret (pe_ifExp (pt_cmpR op_eq (pe_xf T.xB T.fl hz hf (pv 2)) pe_int (nomark _)) (pe_xf T.xB T.fc hz hf (pv 2)) (pe_tup (pa_cons pe_str (pa_cons (pe_xf T.xB T.fl hz hf (pv 2)) (pa_cons (pe_xf T.xB T.fc hz hf (pv 2)) pa_nil)))))))
        (Clauses.cons (i := 2) ⟨by rfl, by decide +kernel, Or.inl EL.g⟩ rfl rfl (fun a oe cls d pn hz hf =>
            pss_one (ps_ret (pe_tup (pa_cons pe_str (pa_cons (pe_xf T.xL T.fw hz hf (pv 2)) (pa_cons (pe_xf T.xL T.fn hz hf (pv 2)) (pa_cons (pe_xf T.xL T.fi hz hf (pv 2)) pa_nil))))))) Clauses.nil)))
      (pss_cons (ps_if (PW.pt (pw_or (pt_not (pt_val (pe_callB call_isi (by rfl) T.gi (by decide +kernel) (pa_cons (pv 1) (pa_cons (pe_glob (v := .ref C) (by rfl) gC rfl) pa_nil)))))
          (pw_or (pt_not (pt_val (pe_call R.G hr2 (by rfl) R.g R.kp R.b .nil pass0 (pa_cons (pe_fld (pv 1) rfl) pa_nil))))
          (pw_or (pt_cmpR op_ne (pe_callB call_len_seq (by rfl) ml PySem.boot_len (pa_cons (pe_fld (pv 1) rfl) pa_nil)) pe_int (nomark _))
          (pw_or1 (pt_cmpR op_gt (pe_callB call_len_seq (by rfl) ml PySem.boot_len (pa_cons (pe_fld (pv 1) rfl) pa_nil)) pe_int (nomark _))))))) (pss_one (ps_ret pe_non)) pss_nil)
      (pss_one (ps_ret (pe_lc (own := [("_law_number", 3)]) rfl scTold.nd (pi_tup (pe_op (op_catZ (K := K) rfl) (pe_fld (pv 1) rfl) (pe_op op_repZ (pe_tup (pa_cons pe_int pa_nil)) (pe_op op_sub pe_int (pe_callB call_len_seq (by rfl) ml PySem.boot_len (pa_cons (pe_fld (pv 1) rfl) pa_nil))))))
        (blkOk_by (N := nsTold) (sc := defScope sTold) (by decide +kernel)) (fun _ _ _ _ _ => pg_name (i := 3) scTold.nd rfl (Or.inl rfl)) (fun _ _ _ _ _ => pts_nil)
        (fun _ _ _ _ _ => pe_call L.G hr40 (by rfl) L.g L.kp L.b .nil pass0 (pa_cons (pv 3) (pa_cons (pe_ix (ix_tupK (K := K) rfl) (pe_fldK (K := K) rfl (pv 1) rfl) pe_int (fun _ _ => rfl)) pa_nil))))))), ?_⟩
    rcases k with ⟨t, rfl, tl, k⟩ | ⟨ty, hty, hk, k⟩
    case inr =>
      refine ⟨fun _ _ => False, ⟨_, rfl, v, rfl, .inr ⟨ty, hty, hk, fun d H' hd hs he => ?_⟩⟩, fun _ _ z => z.elim⟩
      refine ⟨true, T.mBB, fun _ a ha => ?_, fun q => nomatch q⟩
      refine ⟨_, rfl, rfl, rfl, d, _, _, rfl, he, look_line _ _, rfl, _, rfl, iteF ?_⟩
      exact ⟨_, rfl, rfl, rfl, d, _, _, rfl, he, look_line _ _, _, rfl, rfl, rfl, d, _, _, rfl, he, look_col _ _, by show 3 ≤ sizeLine; decide, fun p hp => k p _ (hs.trans (same_new hp)) upd_same⟩
    have lcs : t.cps.toList.length = t.length := tl_len t
    refine ⟨fun σ' H' => ∃ (o : Addr) (ts : List Tm) (ys : List Int), σ' = [some (.str t), some (.ref o), none, none] ∧ Same H H' ∧ rts (t.length + 2) t.cps.toList (st t.cps.toList) (sgn (st t.cps.toList)) [] = .ok ts ∧ bigOf ts = none ∧ Trim (tops (sums ts) (shF (sums ts))) ys ∧ QtAt C H' o (ys.map (· / lrG ys (shF (sums ts)))) (shF (sums ts) / lrG ys (shF (sums ts))), ?_, ?_⟩
    · refine ⟨_, rfl, _, rfl, .inl ⟨t, rfl, tl, ?_⟩⟩
      generalize rts (t.length + 2) t.cps.toList (st t.cps.toList) (sgn (st t.cps.toList)) [] = R at k ⊢
      cases R with
      | bad col =>
        intro d H' hd hs he
        refine ⟨true, T.mBB, fun _ a ha => ?_, fun q => nomatch q⟩
        exact ⟨_, rfl, rfl, rfl, d, _, _, rfl, he, look_line _ _, rfl, _, rfl, iteT ⟨_, rfl, rfl, rfl, d, _, _, rfl, he, look_col _ _, k H' hs⟩⟩
      | ok ts =>
        dsimp only at k ⊢
        cases hb : bigOf ts with
        | some m =>
          rw [hb] at k
          intro d H' hd hs he
          refine ⟨false, T.mLB, (fun q => nomatch q), fun _ => ⟨true, T.mLL, fun _ a ha => ?_, (fun q => nomatch q)⟩⟩
          exact ⟨_, rfl, rfl, rfl, d, _, _, rfl, he, look_what _, _, rfl, rfl, rfl, d, _, _, rfl, he, look_number _, _, rfl, rfl, rfl, d, _, _, rfl, he, look_limit _, by show 4 ≤ sizeLine; decide, fun p hp => k p _ (hs.trans (same_new hp)) upd_same⟩
        | none =>
          rw [hb] at k
          exact ⟨k.1, k.2.1, fun o ys H' hs ht hq => ⟨o, ts, ys, rfl, hs, rfl, hb, ht, hq⟩⟩
    · rintro σ1 H1 ⟨o, ts, ys, rfl, s1, hR, hb, ht, hq⟩
      rw [hR] at k
      dsimp only at k
      rw [hb] at k
      obtain ⟨t83, hnd, k⟩ := k
      have sle := st_le t.cps.toList
      have hsg : sgn (st t.cps.toList) = 1 ∨ sgn (st t.cps.toList) = -1 := by
        unfold sgn
        split
        · exact .inr rfl
        · exact .inl rfl
      obtain ⟨hok, hw⟩ := rts_ok hnd _ _ _ [] ts sle hsg (fun _ hm => nomatch hm) (Nat.zero_le _) hR
      have fg := sums_figs hok
      have fp := fg.pos
      have l7 := sums_len ts
      have rd := sums_red fun tm hm => (hok tm hm).p
      generalize hF : sums ts = fs at *
      obtain ⟨S0, _, Sd⟩ := shF_facts fs 1 (by decide) fp
      have Sn := (fg.sh fs.length).2
      rw [List.take_length] at Sn
      have told := told_row (S := shF fs) rd S0 Sd ht
      have small : ∀ a ∈ zeros7 (ys.map (· / lrG ys (shF fs))), a.natAbs < 2 ^ 29900 := fun a ha => by
        rcases List.mem_append.mp ha with ha | ha
        · obtain ⟨y, hy, rfl⟩ := List.mem_map.mp ha
          exact fig_small (Nat.le_trans (nat_div_le (lrG_dvd' hy)) (ys_small fg ht hy)) (by omega)
        · rw [List.eq_of_mem_replicate ha]
          exact Nat.pow_pos (by decide)
      have row := row_div (trim_row ht) (S := shF fs)
      have ly := trim_len ht
      have lt : (tops fs (shF fs)).length = 7 := by
        unfold tops
        rw [List.length_map, l7]
      have bsm : (shF fs / lrG ys (shF fs)).natAbs < 2 ^ 29900 := by
        refine fig_small (k := wts ts) (Nat.le_trans (nat_div_le lrG_dvd) ?_) (by omega)
        have e : ((10 : Int) ^ wts ts) = ((10 ^ wts ts : Nat) : Int) := (Int.natCast_pow 10 _).symm
        have Sn' : shF fs ≤ 10 ^ wts ts := Sn
        rw [e] at Sn'
        have S0' : 0 < shF fs := S0
        omega
      have bpos : 0 < shF fs / lrG ys (shF fs) := Int.ediv_pos_of_pos_of_dvd S0 (Int.le_of_lt (lrG_pos S0)) lrG_dvd
      have lz : (ys.map (· / lrG ys (shF fs))).length ≤ 7 := by rw [List.length_map]; omega
      rw [l7] at told
      rw [← List.length_map (f := (· / lrG ys (shF fs)))] at told
      generalize hz : ys.map (· / lrG ys (shF fs)) = zs at *
      generalize hB : shF fs / lrG ys (shF fs) = B at *
      obtain ⟨dx, r1, r2, ho, h1, h2⟩ := hq
      refine ⟨_, rfl, _, _, _, _, true, rfl, .own C, T.ty ho, T.qq, true, rfl, iteF ?_⟩
      refine ⟨_, rfl, o, C, dx, _, _, rfl, ho, T.q.cl, T.q.nT, qF_top r1 r2, r1, zs, rfl, .inl (.inl h1), row S0, fun H2 s2 => ⟨true, rfl, iteF ?_⟩⟩
      have ho2 := s2 _ _ ho
      have h12 := s2 _ _ h1
      have h22 := s2 _ _ h2
      refine ⟨_, rfl, o, C, dx, _, _, rfl, ho2, T.q.cl, T.q.nB, qF_bottom r1 r2, r2, _, rfl, .inr (.inl (.inl h22)), rfl, _, rfl, iteF ?_⟩
      refine ⟨_, rfl, o, C, dx, _, _, rfl, ho2, T.q.cl, T.q.nT, qF_top r1 r2, r1, _, rfl, .inr (.inl (.inl h12)), _, _, rfl, rfl, _, rfl, ?_⟩
      rw [iv_len]
      refine iteF' (decide_eq_false (by omega)) ?_
      refine ⟨_, rfl, o, C, dx, _, _, rfl, ho2, T.q.cl, T.q.nT, qF_top r1 r2, by show 1 ≤ sizeLine; decide, fun z hz0 => ?_⟩
      have s3 := same_new (o := .tup [V.int 0]) hz0
      refine ⟨_, rfl, o, C, dx, _, _, rfl, s3 _ _ ho2, T.q.cl, T.q.nT, qF_top r1 r2, r1, _, rfl, .inr (.inl (.inl (s3 _ _ h12))), _, _, rfl, rfl, z, _, [V.int 0], rfl, rfl, upd_same, (fun e => nomatch e), by rw [iv_len]; omega, by omega, by decide, fun p4 H4 s4 hp4 => ?_⟩
      have s34 := s3.trans s4
      rw [iv_len, show (7 - (zs.length : Int)).toNat = 7 - zs.length by omega, flat_zeros] at hp4
      refine ⟨r1, p4, iv zs, _, rfl, rfl, .inl (.inl (s34 _ _ h12)), .inl (.inl hp4), ?_, fun p5 H5 s5 hp5 => ?_⟩
      · rw [iv_len, iv_len, List.length_replicate]
        have : sizeLine ≥ 7 := by decide
        omega
      rw [iv_app] at hp5
      have ho5 := s5 _ _ (s34 _ _ ho2)
      have h25 := s5 _ _ (s34 _ _ h22)
      have s15 := ((s1.trans s2).trans s34).trans s5
      clear s34 s3 s4 hp4 hz0
      refine ⟨p5, rfl, ⟨_, hp5⟩, fun D hD => lc_tup (K := K) (a := p5) (xs := iv (zeros7 zs)) (fun i H' => Same H5 H' ∧ ∃ ps : List Addr, H' D = some (.lst (ps.map V.ref)) ∧ Paired (FrAt H') ps (((zeros7 zs).take i).map fun a => low a B)) ⟨same_new hD, [], upd_same, .nil⟩ (fun i H' _ ⟨e, _⟩ => sqt_same e hp5) ?_ ?_⟩
      · rintro i x H' hx ⟨s6, ps, hD6, hps⟩
        obtain ⟨a, ha, rfl⟩ := iv_at hx
        refine ⟨rfl, ?_⟩
        unfold tYes
        dsimp only
        rw [if_pos rfl]
        have hi := (List.getElem?_eq_some_iff.mp ha).1
        have plen : ps.length ≤ 7 := by
          rw [Paired.len hps, List.length_map, List.length_take]
          unfold zeros7 at hi ⊢
          rw [List.length_append, List.length_replicate] at hi ⊢
          omega
        refine ⟨_, rfl, _, rfl, o, C, dx, _, _, rfl, s6 _ _ ho5, T.q.cl, T.q.nB, qF_bottom r1 r2, r2, _, 0, _, rfl, rfl, .inl (.inl (s6 _ _ h25)), rfl, a, B, rfl, bpos, small a (List.mem_of_getElem? ha), bsm, fun r H7 s7 hr7 => ?_⟩
        have hD7 := s7 _ _ hD6
        refine ⟨_, hD7, by rw [List.length_map]; exact small1000 (by omega), ?_⟩
        refine ⟨fun b ob eb => ?_, ps ++ [r], by rw [upd_same, List.map_append]; rfl, ?_⟩
        · rw [upd_ne (ne_of_none eb hD)]
          exact s7 _ _ (s6 _ _ eb)
        · rw [List.take_add_one, ha, List.map_append]
          exact Paired.snoc (fr_upd hr7 hD7) (Paired.imp (fun _ _ z => fr_upd (fr_same z s7) hD7) hps)
      · rintro H' ⟨s6, ps, hD6, hps⟩
        rw [iv_len, List.take_length] at hps
        have e : (zeros7 zs).map (fun a => low a B) = fs := told
        rw [e] at hps
        exact k D H' (s15.trans s6) ⟨ps, hD6, hps⟩
end
end Fk

set_option Elab.async false
set_option maxRecDepth 100000
namespace Fk
open PySem L2
/-! ### drawn texts -/
abbrev sDTerm : Stmt := top 67
abbrev sDrawn : Stmt := top 68
abbrev psP : List Str := ["_law_pen_here"]
theorem mem_strs {xs : List Str} {i : Nat} {x : V} {n : Nat} (h : (xs.map V.str)[i]? = some x) (hn : ∀ z ∈ xs, z.length ≤ n) : ∃ z : Str, x = .str z ∧ z.length ≤ n := by
  rw [List.getElem?_map] at h
  cases e : xs[i]? with
  | none =>
    rw [e] at h
    cases h
  | some z =>
    rw [e] at h
    exact ⟨z, (Option.some.inj h).symm, hn z (List.mem_of_getElem? e)⟩
theorem mem_ints {xs : List Int} {i : Nat} {x : V} {n : Int} (h : (xs.map V.int)[i]? = some x) (hn : ∀ z ∈ xs, 0 ≤ z ∧ z ≤ n) : ∃ z : Int, x = .int z ∧ 0 ≤ z ∧ z ≤ n := by
  rw [List.getElem?_map] at h
  cases e : xs[i]? with
  | none =>
    rw [e] at h
    cases h
  | some z =>
    rw [e] at h
    exact ⟨z, (Option.some.inj h).symm, (hn z (List.mem_of_getElem? e)).1, (hn z (List.mem_of_getElem? e)).2⟩
theorem mul_ok {x : Str} {n : Int} (h1 : x.length ≤ 1) (n0 : 0 ≤ n) (n1 : n ≤ 7000) : MulOk x n ∧ (Txt.mul x n).length ≤ n.toNat := by
  have sz : sizeLine ≥ 7000 := by decide
  have h63 : (7000 : Int) < 2 ^ 63 := by decide
  refine ⟨⟨?_, fun hn _ => ?_, fun _ _ => ?_⟩, ?_⟩
  · rw [Bool.or_eq_false_iff]
    exact ⟨decide_eq_false (by omega), decide_eq_false (by omega)⟩
  · have : (1 : Int) ≤ (2 ^ 63 - 1) / n := by
      refine (Int.le_ediv_iff_mul_le (by omega)).mpr ?_
      omega
    omega
  · show decide (x.length * n.toNat > sizeLine) = false
    refine decide_eq_false ?_
    have : x.length * n.toNat ≤ 1 * 7000 := Nat.mul_le_mul h1 (by omega)
    omega
  · have z := PyProof.Rows.len_mul x n
    rw [if_neg (by simpa using n0)] at z
    have : (x.length : Int) * n ≤ 1 * n := Int.mul_le_mul_of_nonneg_right (by omega) n0
    omega
theorem str_len {i : Int} (h0 : 0 ≤ i) (h1 : i < 10 ^ 60) : i.natAbs.log2 < 1920 ∧ (Str.ofString (toString i)).length ≤ 60 := by
  obtain ⟨m, rfl⟩ : ∃ m : Nat, i = (m : Int) := ⟨i.toNat, by omega⟩
  have m60 : m < 10 ^ 60 := by omega
  constructor
  · rw [Int.natAbs_natCast]
    by_cases hm : m = 0
    · rw [hm]
      decide
    · exact Nat.lt_of_lt_of_le ((Nat.log2_lt hm).mpr (Nat.lt_trans m60 (show (10 : Nat) ^ 60 < 2 ^ 200 by decide))) (by decide)
  · have el : (Str.ofString (toString (m : Int))).length = (TL.numL m).length := by
      rw [← TL.tl_num m]
      rfl
    rw [el]
    exact TL.numL_len (by decide) m60
theorem at_some {l : List Nat} {r : Int} (h0 : 0 ≤ r) (h1 : r < l.length) : ∃ c, atI l r = some c := by
  obtain ⟨m, rfl⟩ : ∃ m : Nat, r = (m : Int) := ⟨r.toNat, by omega⟩
  have hm : m < l.length := by omega
  exact ⟨l[m], atI_nat (List.getElem?_eq_getElem hm)⟩
theorem cut_tail (z : Str) (a : Nat) (ha : a ≤ z.length) (d : Nat) : (cutS z (some ((a + d : Nat) : Int)) none).length ≤ z.length - a := by
  rw [← tl_len]
  unfold cutS
  rw [HT.sIx_nat, HT.sIx_none, List.toList_toArray, List.length_take, List.length_drop, tl_len]
  omega
theorem cut_head (z : Str) (a : Nat) (ha : a ≤ z.length) : (cutS z none (some (a : Int))).length = a := by
  rw [← tl_len, cutS_to z ha, List.length_take, tl_len]
  omega
theorem PenAt.same {H H' : Hp} {p l : Addr} {c : Int} (P : PenAt H p l c) (s : Same H H') : PenAt H' p l c := by
  obtain ⟨⟨a, d, f, ns, h1, h2, r⟩, lo⟩ := P
  exact ⟨⟨a, d, f, ns, s _ _ h1, s _ _ h2, r⟩, lo⟩
def spDTerm : Sp := fun vs H Q _ => ∃ (p l : Addr) (c fg : Int), vs = [.ref p, .int fg] ∧ PenAt H p l c ∧ c < 800000000 ∧ 1 ≤ fg ∧ fg ≤ 40 ∧ ∀ (t : Str) (c' : Int) (H' : Hp), t.length ≤ 130 → c ≤ c' → c' ≤ c + 80 → PenAt H' p l c' → Keep p H H' → Q (.str t) H'
def spDrawn : Sp := fun vs H Q _ => ∃ (p l : Addr) (c : Int), vs = [.ref p] ∧ PenAt H p l c ∧ c < 700000000 ∧ ∀ (t : Str) (c' : Int) (H' : Hp), t.length ≤ 900 → c ≤ c' → c' ≤ c + 700 → PenAt H' p l c' → Keep p H H' → Q (.str t) H'
section
variable {P : Program} {w : World} {K : PySem.W.Frag} {mg : Str → Option Value} {base : Heap}
theorem scDTerm : FnScope ["_law_pen_here", "_law_figures", "_law_top", "_law_ratio", "_law_letter"] psBig (defScope sDTerm) := ⟨rfl, rfl, rfl, by decide +kernel, rfl, by decide +kernel, by decide +kernel⟩
theorem ok_dterm {f fP fB : Addr} {fd fdP fdB : FuncData} (F : Fun K "_law_drawn_term" "_law_drawn_term" sDTerm f fd) (ms : mg "str" = none)
    (C : Cl P w K mg base "_law_pick" psPick 2 spPick fP fdP) (B : Cl P w K mg base "_law_big" psBig 3 spBig fB fdB) : FnOk P w K mg base CX0 4 f fd psBig spDTerm := by
  refine F.ok scDTerm (fun vs H Q E h => ?_) (fun cdv A outer s H vs Q E hr h => ?_)
  · obtain ⟨p, l, c, fg, rfl, _⟩ := h
    rfl
  · obtain ⟨p, l, c, fg, rfl, hp, c1, f1, f2, k⟩ := h
    have hr2 : Room 2 _ := hr.mono (by decide)
    refine ⟨_, pss_cons (ps_set (i := 2) scDTerm.nd rfl (Or.inl rfl) (pe_call B.G hr (by rfl) B.g B.kp B.b .nil pass0 (pa_cons (pv 0) (pa_cons (pv 1) pa_nil))))
      (pss_cons (ps_set (i := 3) scDTerm.nd rfl (Or.inl rfl) (pe_call C.G hr2 (by rfl) C.g C.kp C.b .nil pass0 (pa_cons (pv 0) (pa_cons (pe_lst
        (pa_cons (pe_callTy call_str_int (by rfl) ms (by decide +kernel) (pa_cons (pv 2) pa_nil)) (pa_cons (pe_callTy call_str_int (by rfl) ms (by decide +kernel) (pa_cons (pv 2) pa_nil))
        (pa_cons (pe_op op_add_str (pe_op op_add_str (pe_callTy call_str_int (by rfl) ms (by decide +kernel) (pa_cons (pv 2) pa_nil)) pe_str) (pe_callTy call_str_int (by rfl) ms (by decide +kernel) (pa_cons (pe_op op_add pe_int (pe_call B.G hr (by rfl) B.g B.kp B.b .nil pass0 (pa_cons (pv 0) (pa_cons (pv 1) pa_nil)))) pa_nil))) pa_nil)))) pa_nil))))
      (pss_cons (ps_set (i := 4) scDTerm.nd rfl (Or.inl rfl) (pe_call C.G hr2 (by rfl) C.g C.kp C.b .nil pass0 (pa_cons (pv 0) (pa_cons (pe_lst (pa_cons pe_str (pa_cons pe_str (pa_cons pe_str (pa_cons pe_str (pa_cons pe_str (pa_cons pe_str pa_nil))))))) pa_nil))))
      (pss_one (ps_ret (pe_call C.G hr2 (by rfl) C.g C.kp C.b .nil pass0 (pa_cons (pv 0) (pa_cons (pe_lst (pa_cons (pv 3) (pa_cons (pv 4) (pa_cons (pe_op op_add_str (pe_op op_add_str (pv 3) pe_str) (pv 4)) (pa_cons (pe_op op_add_str (pe_op op_add_str (pv 3) pe_str) (pv 4)) pa_nil))))) pa_nil)))))))
      , ?_⟩
    have sz : sizeLine ≥ 100000 := by decide
    have f40 : fg.toNat ≤ 40 := by omega
    have p40 : (10 : Int) ^ fg.toNat ≤ 10 ^ 40 := by
      have : (10 : Nat) ^ fg.toNat ≤ 10 ^ 40 := Nat.pow_le_pow_right (by decide) f40
      exact_mod_cast this
    have p60 : (10 : Int) ^ 40 + 1 < 10 ^ 60 := by decide
    refine ⟨_, rfl, _, rfl, p, l, c, fg, rfl, hp, by omega, f1, by omega, fun r1 c2 H2 r10 r11 c20 c21 P2 k2 => ?_⟩
    obtain ⟨l1, l2⟩ := str_len r10 (by omega)
    refine ⟨_, rfl, _, rfl, r1, rfl, l1, _, rfl, r1, rfl, l1, _, rfl, r1, rfl, l1, ?_⟩
    generalize Str.ofString (toString r1) = ts at l2 ⊢
    have z1 : (ts ++ ("/" : Str)).length = ts.length + 1 := Str.length_append _ _
    refine ⟨_, _, rfl, rfl, by show ts.length + 1 ≤ sizeLine; omega, _, rfl, _, rfl, p, l, c2, fg, rfl, P2, by omega, f1, by omega, fun r2 c3 H3 r20 r21 c30 c31 P3 k3 => ?_⟩
    obtain ⟨l3, l4⟩ := str_len (i := 1 + r2) (by omega) (by omega)
    refine ⟨_, _, rfl, rfl, _, rfl, l3, ?_⟩
    generalize Str.ofString (toString (1 + r2)) = bs at l4 ⊢
    have z2 : (ts ++ ("/" : Str) ++ bs).length = (ts ++ ("/" : Str)).length + bs.length := Str.length_append _ _
    refine ⟨_, _, rfl, rfl, by show (ts ++ ("/" : Str)).length + bs.length ≤ sizeLine; omega, by show 3 ≤ sizeLine; decide, fun q hq => ?_⟩
    refine ⟨p, l, q, c3, _, rfl, P3.upd hq, by omega, upd_same, by show 0 < 3; decide, by show 3 ≤ 1000; decide, fun i x H4 hx P4 k4 => ?_⟩
    obtain ⟨rt, rfl, rl⟩ := mem_strs (xs := [ts, ts, ts ++ ("/" : Str) ++ bs]) (n := 121) hx (fun z hz => by
      simp only [List.mem_cons, List.not_mem_nil, or_false] at hz
      rcases hz with rfl | rfl | rfl <;> omega)
    have kk4 : Keep p H H4 := ((k2.trans k3).trans (Keep.new hq)).trans k4
    refine ⟨_, rfl, by show 6 ≤ sizeLine; decide, fun q2 hq2 => ?_⟩
    refine ⟨p, l, q2, c3 + 1, _, rfl, P4.upd hq2, by omega, upd_same, by show 0 < 6; decide, by show 6 ≤ 1000; decide, fun i2 x2 H5 hx2 P5 k5 => ?_⟩
    obtain ⟨lt, rfl, ll⟩ := mem_strs (xs := ["e", "e^2", "e^3", "e^4", "e^5", "e^6"]) (n := 3) hx2 (by decide +kernel)
    have z3 : (rt ++ ("*" : Str)).length = rt.length + 1 := Str.length_append _ _
    have z4 : (rt ++ ("*" : Str) ++ lt).length = (rt ++ ("*" : Str)).length + lt.length := Str.length_append _ _
    refine ⟨_, rfl, _, rfl, _, rfl, _, rfl, _, _, rfl, rfl, by show rt.length + 1 ≤ sizeLine; omega, _, rfl, _, _, rfl, rfl, by show (rt ++ ("*" : Str)).length + lt.length ≤ sizeLine; omega, ?_⟩
    refine ⟨_, rfl, _, _, rfl, rfl, by show rt.length + 1 ≤ sizeLine; omega, _, rfl, _, _, rfl, rfl, by show (rt ++ ("*" : Str)).length + lt.length ≤ sizeLine; omega, ?_⟩
    refine ⟨by show 4 ≤ sizeLine; decide, fun q3 hq3 => ?_⟩
    refine ⟨p, l, q3, c3 + 1 + 1, _, rfl, P5.upd hq3, by omega, upd_same, by show 0 < 4; decide, by show 4 ≤ 1000; decide, fun i3 x3 H6 hx3 P6 k6 => ?_⟩
    obtain ⟨z, rfl, zl⟩ := mem_strs (xs := [rt, lt, rt ++ ("*" : Str) ++ lt, rt ++ ("*" : Str) ++ lt]) (n := 130) hx3 (fun z hz => by
      simp only [List.mem_cons, List.not_mem_nil, or_false] at hz
      rcases hz with rfl | rfl | rfl | rfl <;> omega)
    exact k z _ H6 zl (by omega) (by omega) P6 ((((kk4.trans (Keep.new hq2)).trans k5).trans (Keep.new hq3)).trans k6)
theorem scDrawn : FnScope ["_law_pen_here", "_law_text", "_law_k"] psP (defScope sDrawn) := ⟨rfl, rfl, rfl, by decide +kernel, rfl, by decide +kernel, by decide +kernel⟩
theorem ok_drawn {f fD fP fT : Addr} {fd fdD fdP fdT : FuncData} (F : Fun K "_law_drawn" "_law_drawn" sDrawn f fd) (mr : mg "range" = none) (D : Cl P w K mg base "_law_draw" psDraw 1 spDraw fD fdD)
    (C : Cl P w K mg base "_law_pick" psPick 2 spPick fP fdP) (T : Cl P w K mg base "_law_drawn_term" psBig 4 spDTerm fT fdT) : FnOk P w K mg base CX0 5 f fd psP spDrawn := by
  refine F.ok scDrawn (fun vs H Q E h => ?_) (fun cdv A outer s H vs Q E hr h => ?_)
  · obtain ⟨p, l, c, rfl, _⟩ := h
    rfl
  · obtain ⟨p, l, c, rfl, hp, c1, k⟩ := h
    have hr1 : Room 1 _ := hr.mono (by decide)
    have hr2 : Room 2 _ := hr.mono (by decide)
    refine ⟨_, pss_cons (ps_set (i := 1) scDrawn.nd rfl (Or.inl rfl) (pe_op op_add_str (pe_call C.G hr2 (by rfl) C.g C.kp C.b .nil pass0 (pa_cons (pv 0) (pa_cons (pe_lst (pa_cons pe_str (pa_cons pe_str (pa_cons pe_str pa_nil)))) pa_nil)))
        (pe_call T.G hr (by rfl) T.g T.kp T.b .nil pass0 (pa_cons (pv 0) (pa_cons pe_int pa_nil)))))
      (pss_cons (ps_for PassesOwn.never rfl (pi_range1 (by rfl) mr (pa_cons (pe_call D.G hr1 (by rfl) D.g D.kp D.b .nil pass0 (pa_cons (pv 0) (pa_cons pe_int pa_nil))) pa_nil)) (pg_name (i := 2) scDrawn.nd rfl (Or.inl rfl))
        (pss_one (ps_set (i := 1) scDrawn.nd rfl (Or.inl rfl) (pe_op op_add_str (pe_op op_add_str (pv 1) (pe_call C.G hr2 (by rfl) C.g C.kp C.b .nil pass0 (pa_cons (pv 0) (pa_cons (pe_lst (pa_cons pe_str (pa_cons pe_str pa_nil))) pa_nil))))
          (pe_call T.G hr (by rfl) T.g T.kp T.b .nil pass0 (pa_cons (pv 0) (pa_cons (pe_call C.G hr2 (by rfl) C.g C.kp C.b .nil pass0 (pa_cons (pv 0) (pa_cons (pe_lst (pa_cons pe_int (pa_cons pe_int (pa_cons pe_int (pa_cons pe_int pa_nil))))) pa_nil))) pa_nil)))))))
      (pss_one (ps_ret (pv 1)))), ?_⟩
    have sz : sizeLine ≥ 100000 := by decide
    refine ⟨_, rfl, by show 3 ≤ sizeLine; decide, fun q hq => ?_⟩
    refine ⟨p, l, q, c, _, rfl, hp.upd hq, by omega, upd_same, by show 0 < 3; decide, by show 3 ≤ 1000; decide, fun i x H1 hx P1 k1 => ?_⟩
    obtain ⟨z, rfl, zl⟩ := mem_strs (xs := ["", "", "-"]) (n := 1) hx (by decide +kernel)
    refine ⟨_, rfl, p, l, c + 1, 3, rfl, P1, by omega, by decide, by decide, fun t c2 H2 tl c20 c21 P2 k2 => ?_⟩
    have z0 : (z ++ t).length = z.length + t.length := Str.length_append _ _
    refine ⟨_, _, rfl, rfl, by omega, _, rfl, p, l, c2, 6, rfl, P2, by omega, by decide, by decide, fun n H3 n0 n1 P3 k3 => ?_⟩
    refine ⟨n, rfl, by omega, by omega, ?_⟩
    refine for_range (fun i σ H' => ∃ (v2 : Option V) (t : Str) (c' : Int), σ = [some (.ref p), some (.str t), v2] ∧ t.length ≤ 131 + 131 * i ∧ c2 + 1 ≤ c' ∧ c' ≤ c2 + 1 + 90 * i ∧ PenAt H' p l c' ∧ Keep p H H') ⟨none, _, c2 + 1, rfl, by omega, by omega, by omega, P3, (((Keep.new hq).trans k1).trans k2).trans k3⟩ ?_ ?_
    · rintro i σ H4 hi ⟨v2, t, c4, rfl, tl, c40, c41, P4, k4⟩
      refine ⟨_, rfl, _, rfl, by show 2 ≤ sizeLine; decide, fun q2 hq2 => ?_⟩
      refine ⟨p, l, q2, c4, _, rfl, P4.upd hq2, by omega, upd_same, by show 0 < 2; decide, by show 2 ≤ 1000; decide, fun i2 x2 H5 hx2 P5 k5 => ?_⟩
      obtain ⟨z, rfl, zl⟩ := mem_strs (xs := ["+", "-"]) (n := 1) hx2 (by decide +kernel)
      have z1 : (t ++ z).length = t.length + z.length := Str.length_append _ _
      refine ⟨_, _, rfl, rfl, by omega, _, rfl, _, rfl, by show 4 ≤ sizeLine; decide, fun q3 hq3 => ?_⟩
      refine ⟨p, l, q3, c4 + 1, _, rfl, P5.upd hq3, by omega, upd_same, by show 0 < 4; decide, by show 4 ≤ 1000; decide, fun i3 x3 H6 hx3 P6 k6 => ?_⟩
      obtain ⟨g, rfl, g0, g1⟩ : ∃ g : Int, x3 = .int g ∧ 1 ≤ g ∧ g ≤ 40 := by
        have hm := List.mem_of_getElem? hx3
        simp only [List.mem_cons, List.not_mem_nil, or_false] at hm
        rcases hm with e | e | e | e <;> exact ⟨_, e, by decide, by decide⟩
      refine ⟨p, l, c4 + 1 + 1, g, rfl, P6, by omega, g0, g1, fun t7 c7 H7 tl7 c70 c71 P7 k7 => ?_⟩
      have z2 : (t ++ z ++ t7).length = (t ++ z).length + t7.length := Str.length_append _ _
      refine ⟨_, _, rfl, rfl, by omega, ?_⟩
      exact ⟨_, _, c7, rfl, by omega, by omega, by omega, P7, ((((k4.trans (Keep.new hq2)).trans k5).trans (Keep.new hq3)).trans k6).trans k7⟩
    · rintro σ H4 ⟨v2, t, c4, rfl, tl, c40, c41, P4, k4⟩
      exact ⟨_, rfl, k t c4 H4 (by omega) (by omega) (by omega) P4 k4⟩
end
end Fk

set_option Elab.async false
set_option maxRecDepth 100000
namespace Fk
open PySem L2
/-! ### the long text -/
theorem nd_le_len (cs : List Nat) (j : Nat) : nd cs j ≤ cs.length - j := by
  unfold nd
  have z : ((cs.drop j).takeWhile isD).length ≤ (cs.drop j).length := (List.takeWhile_sublist _).length_le
  rw [List.length_drop] at z
  exact z
theorem nd_le_stop {cs : List Nat} {i c : Nat} (h : cs[i]? = some c) (hd : isD c = false) : ∀ n j : Nat, j + n = i → nd cs j ≤ n
  | 0, j, e => by
    have e' : j = i := e
    subst e'
    have := dend_stop h hd
    unfold dend at this
    omega
  | n + 1, j, e => by
    have hi := (List.getElem?_eq_some_iff.mp h).1
    have hj : cs[j]? = some (cs[j]'(by omega)) := List.getElem?_eq_getElem (by omega)
    cases q : isD (cs[j]'(by omega)) with
    | true =>
      have z := nd_step hj q
      have z2 := nd_le_stop h hd n (j + 1) (by omega)
      omega
    | false =>
      have := dend_stop hj q
      unfold dend at this
      omega
theorem nd_run {cs : List Nat} {d : Nat} (hd : isD d = true) : ∀ (m k : Nat), (∀ j, j < m → cs[k + j]? = some d) → (∀ c, cs[k + m]? = some c → isD c = false) → nd cs k = m
  | 0, k, _, h => by
    cases e : cs[k]? with
    | none =>
      have := dend_past (List.getElem?_eq_none_iff.mp e)
      unfold dend at this
      omega
    | some c =>
      have := dend_stop e (h c e)
      unfold dend at this
      omega
  | m + 1, k, h1, h2 => by
    have e : cs[k]? = some d := h1 0 (by omega)
    rw [nd_step e hd, nd_run hd m (k + 1) (fun j hj => by rw [show k + 1 + j = k + (j + 1) by omega]; exact h1 (j + 1) (by omega)) (fun c hc => h2 c (by rw [show k + (m + 1) = k + 1 + m by omega]; exact hc))]
def longT (d m : Nat) (tail : List Nat) : List Nat := [49, 47] ++ (List.replicate m d ++ ([42, 101, 94, 50, 45] ++ (List.replicate (m + 1) d ++ tail)))
section
variable {d m : Nat} {tail : List Nat}
theorem lt_len : (longT d m tail).length = 8 + 2 * m + tail.length := by
  unfold longT
  simp only [List.length_append, List.length_replicate, List.length_cons, List.length_nil]
  omega
theorem lt_0 : (longT d m tail)[0]? = some 49 := rfl
theorem lt_1 : (longT d m tail)[1]? = some 47 := rfl
theorem lt_a {j : Nat} (h : j < m) : (longT d m tail)[2 + j]? = some d := by
  unfold longT
  rw [List.getElem?_append_right (by show 2 ≤ _; omega)]
  show (List.replicate m d ++ _)[2 + j - 2]? = _
  rw [Nat.add_sub_cancel_left, List.getElem?_append_left (by rw [List.length_replicate]; exact h), List.getElem?_replicate, if_pos h]
theorem lt_b (j : Nat) : (longT d m tail)[2 + m + j]? = ([42, 101, 94, 50, 45] ++ (List.replicate (m + 1) d ++ tail))[j]? := by
  unfold longT
  rw [List.getElem?_append_right (by show 2 ≤ _; omega)]
  show (List.replicate m d ++ _)[2 + m + j - 2]? = _
  rw [List.getElem?_append_right (by rw [List.length_replicate]; omega), List.length_replicate, show 2 + m + j - 2 - m = j by omega]
theorem lt_c {j : Nat} (h : j < m + 1) : (longT d m tail)[7 + m + j]? = some d := by
  rw [show 7 + m + j = 2 + m + (5 + j) by omega, lt_b, List.getElem?_append_right (by show 5 ≤ _; omega)]
  show (List.replicate (m + 1) d ++ tail)[5 + j - 5]? = _
  rw [Nat.add_sub_cancel_left, List.getElem?_append_left (by rw [List.length_replicate]; exact h), List.getElem?_replicate, if_pos h]
theorem lt_d (j : Nat) : (longT d m tail)[8 + 2 * m + j]? = tail[j]? := by
  rw [show 8 + 2 * m + j = 2 + m + (6 + m + j) by omega, lt_b, List.getElem?_append_right (by show 5 ≤ _; omega)]
  show (List.replicate (m + 1) d ++ tail)[6 + m + j - 5]? = _
  rw [List.getElem?_append_right (by rw [List.length_replicate]; omega), List.length_replicate, show 6 + m + j - 5 - (m + 1) = j by omega]
theorem lt_cutA : cut (longT d m tail) 2 (2 + m) = List.replicate m d := by
  unfold cut longT
  rw [List.drop_append_of_le_length (by decide)]
  show ((List.replicate m d ++ _).take (2 + m - 2)) = _
  rw [List.take_append_of_le_length (by rw [List.length_replicate]; omega), List.take_of_length_le (by rw [List.length_replicate]; omega)]
theorem lt_cutC : cut (longT d m tail) (7 + m) (8 + 2 * m) = List.replicate (m + 1) d := by
  unfold cut
  refine List.ext_getElem? fun i => ?_
  rw [List.getElem?_take, List.getElem?_replicate, List.getElem?_drop]
  by_cases h : i < m + 1
  · rw [if_pos (by omega), if_pos h, lt_c h]
  · rw [if_neg (by omega), if_neg h]
end
/-- what stands in the long text is read so -/
theorem long_rts {d m : Nat} {tail : List Nat} (h0 : 49 ≤ d) (h1 : d ≤ 57) (m0 : 0 < m) (ht : tail = [] ∨ tail = [120]) :
    rts ((longT d m tail).length + 2) (longT d m tail) (st (longT d m tail)) (sgn (st (longT d m tail))) [] = if tail = [] then .ok [⟨1, [49], List.replicate m d, 2⟩, ⟨-1, List.replicate (m + 1) d, [49], 0⟩] else .bad (9 + 2 * m) := by
  have hD : isD d = true := isD_iff.mpr ⟨by omega, h1⟩
  have hd10 : d ∈ digs.cps.toList := by
    rw [digs_list]
    simp only [List.mem_cons, List.not_mem_nil, or_false]
    omega
  have hd19 : d ∈ d19 := by
    unfold d19
    simp only [List.mem_cons, List.not_mem_nil, or_false]
    omega
  have es : st (longT d m tail) = 0 := by
    unfold st
    exact if_neg (fun z => nomatch z)
  have b0 : (longT d m tail)[2 + m]? = some 42 := lt_b 0
  have b1 : (longT d m tail)[2 + m + 1]? = some 101 := lt_b 1
  have b2 : (longT d m tail)[2 + m + 1 + 1]? = some 94 := lt_b 2
  have b3 : (longT d m tail)[2 + m + 1 + 2]? = some 50 := lt_b 3
  have b4 : (longT d m tail)[2 + m + 4]? = some 45 := lt_b 4
  have e1 : dend (longT d m tail) 0 = 1 := by
    unfold dend
    rw [nd_run (d := 49) rfl 1 0 (fun j hj => by have e : j = 0 := (by omega); subst e; exact lt_0) (fun c hc => by
      rw [show 0 + 1 = 1 from rfl, lt_1] at hc
      cases hc
      rfl)]
  have e2 : dend (longT d m tail) 2 = 2 + m := by
    unfold dend
    rw [nd_run hD m 2 (fun j hj => lt_a hj) (fun c hc => by
      rw [b0] at hc
      cases hc
      rfl)]
  have e3 : dend (longT d m tail) (7 + m) = 8 + 2 * m := by
    unfold dend
    rw [nd_run hD (m + 1) (7 + m) (fun j hj => lt_c hj) (fun c hc => by
      rw [show 7 + m + (m + 1) = 8 + 2 * m + 0 by omega, lt_d] at hc
      rcases ht with rfl | rfl
      · cases hc
      · cases hc
        rfl)]
    omega
  have ll := lt_len (d := d) (m := m) (tail := tail)
  have t1 : rt (longT d m tail) 0 = .ok [49] (List.replicate m d) 2 (6 + m) := by
    have i0 : isIn (longT d m tail) 0 digs.cps.toList = true := by
      unfold isIn
      rw [lt_0, digs_list]
      rfl
    have r0 : rr (longT d m tail) 0 = .ok [49] (List.replicate m d) (2 + m) := by
      have a1 : ie (longT d m tail) 0 = 1 := by
        unfold ie
        rw [lt_0, if_neg (by decide), e1]
      unfold rr
      have i2 : isIn (longT d m tail) 2 d19 = true := by
        unfold isIn
        rw [show (longT d m tail)[2]? = some d from lt_a (j := 0) m0]
        exact decide_eq_true hd19
      rw [a1, lt_1, if_pos rfl, if_pos i2, e2, lt_cutA]
      rfl
    have p0 : rp (longT d m tail) (2 + m + 1) = .ok 2 (6 + m) := by
      have i3 : isIn (longT d m tail) (2 + m + 1 + 2) d26 = true := by
        unfold isIn
        rw [b3]
        rfl
      unfold rp
      rw [b1, if_pos rfl, b2, if_pos rfl, if_pos i3, List.getD_eq_getElem?_getD, b3, show 2 + m + 1 + 3 = 6 + m by omega]
      rfl
    unfold rt
    rw [if_pos i0, r0]
    dsimp only
    rw [b0, if_pos rfl, p0]
  have t2 : rt (longT d m tail) (7 + m) = .ok (List.replicate (m + 1) d) [49] 0 (8 + 2 * m) := by
    have c0 : (longT d m tail)[7 + m]? = some d := lt_c (j := 0) (by omega)
    have i0 : isIn (longT d m tail) (7 + m) digs.cps.toList = true := by
      unfold isIn
      rw [c0]
      exact decide_eq_true hd10
    have a1 : ie (longT d m tail) (7 + m) = 8 + 2 * m := by
      unfold ie
      rw [c0, if_neg (fun z => by have := Option.some.inj z; omega), e3]
    have tl : ∀ n, n ≠ 120 → ¬ (longT d m tail)[8 + 2 * m]? = some n := fun n hn z => by
      rw [show 8 + 2 * m = 8 + 2 * m + 0 by omega, lt_d] at z
      rcases ht with rfl | rfl
      · cases z
      · exact hn (Option.some.inj z).symm
    have r0 : rr (longT d m tail) (7 + m) = .ok (List.replicate (m + 1) d) [49] (8 + 2 * m) := by
      unfold rr
      rw [a1, if_neg (tl 47 (by decide)), lt_cutC]
    unfold rt
    rw [if_pos i0, r0]
    dsimp only
    rw [if_neg (tl 42 (by decide))]
  rw [es]
  show rts ((longT d m tail).length + 1 + 1) (longT d m tail) 0 1 [] = _
  unfold rts
  rw [t1]
  dsimp only
  have i4 : isIn (longT d m tail) (6 + m) [43, 45] = true := by
    unfold isIn
    rw [show 6 + m = 2 + m + 4 by omega, b4]
    rfl
  rw [if_neg (by omega), if_pos i4, show 6 + m = 2 + m + 4 by omega, b4, if_neg (by decide)]
  unfold rts
  rw [show 2 + m + 4 + 1 = 7 + m by omega, t2]
  dsimp only
  rcases ht with rfl | rfl
  · rw [if_pos (by rw [ll]; rfl), if_pos rfl]
    rfl
  · have i5 : isIn (longT d m [120]) (8 + 2 * m) [43, 45] = false := by
      unfold isIn
      rw [show 8 + 2 * m = 8 + 2 * m + 0 by omega, lt_d]
      rfl
    rw [if_neg (by rw [ll]; show ¬ 8 + 2 * m = 8 + 2 * m + 1; omega), i5, if_neg Bool.false_ne_true, if_neg (fun z => nomatch z), show 8 + 2 * m + 1 = 9 + 2 * m by omega]
theorem long_nd {d m : Nat} (m1 : m ≤ 4000) (m0 : 0 < m) (j : Nat) : nd (longT d m []) j ≤ 4300 := by
  have b0 : (longT d m [])[2 + m]? = some 42 := lt_b 0
  have b4 : (longT d m [])[2 + m + 4]? = some 45 := lt_b 4
  have ll := lt_len (d := d) (m := m) (tail := [])
  by_cases h1 : j ≤ 1
  · have := nd_le_stop (cs := longT d m []) lt_1 (by decide) (1 - j) j (by omega)
    omega
  by_cases h2 : j ≤ 2 + m
  · have := nd_le_stop b0 (by decide) (2 + m - j) j (by omega)
    omega
  by_cases h3 : j ≤ 2 + m + 4
  · have := nd_le_stop b4 (by decide) (2 + m + 4 - j) j (by omega)
    omega
  · have := nd_le_len (longT d m []) j
    rw [ll] at this
    have e : ([] : List Nat).length = 0 := rfl
    omega
end Fk

set_option Elab.async false
set_option maxRecDepth 100000
namespace Fk
open PySem L2
/-! ### long_right -/
abbrev sLong : Stmt := top 69
def frD (x : Int × Int) : PyData := .tuple [.int x.1, .int x.2]
theorem dp_fracs {K : PySem.W.Frag} {H : Hp} : ∀ {ps : List Addr} {fs : List (Int × Int)}, Paired (FrAt H) ps fs → DpAll K H (ps.map V.ref) (fs.map frD)
  | _, _, .nil => .nil
  | _, _, .cons a r => .cons (.tup (.inl (.inl a)) (.cons (.int _) (.cons (.int _) .nil))) (dp_fracs r)
theorem FracsAt.dp {K : PySem.W.Frag} {H : Hp} {l : Addr} {fs : List (Int × Int)} (h : FracsAt H l fs) : Dp K H (.ref l) (.list (fs.map frD)) := by
  obtain ⟨ps, a, b⟩ := h
  exact .lst (.inl (.inl a)) (dp_fracs b)
theorem fr_lay : ∀ fs : List (Int × Int), PyData.canLayAll0 (fs.map frD) = true
  | [] => by simp only [List.map_nil, PyData.canLayAll0]
  | x :: fs => by simp only [List.map_cons, frD, PyData.canLayAll0, PyData.canLay0, fr_lay fs, Bool.and_self]
theorem fr_depth : ∀ fs : List (Int × Int), PyData.depthAll (fs.map frD) ≤ 3
  | [] => by simp [PyData.depthAll]
  | x :: fs => by
    have := fr_depth fs
    simp [frD, PyData.depthAll, PyData.depth]
    omega
theorem fr_shaped (fs : List (Int × Int)) : SeqAt.shaped (.list (fs.map frD)) = true := by
  have h2 := fr_depth fs
  unfold SeqAt.shaped
  simp only [PyData.canLay0, fr_lay fs, Bool.true_and, PyData.depth]
  exact decide_eq_true (by omega)
def lgD (m : Int) : PyData := .tuple [.str "large", .str "digits", .int m, .int 4000]
theorem lg_shaped (m : Int) : SeqAt.shaped (lgD m) = true := by
  have h1 : PyData.strOk "large" = true := by decide +kernel
  have h2 : PyData.strOk "digits" = true := by decide +kernel
  simp [lgD, SeqAt.shaped, PyData.canLay0, PyData.canLayAll0, h1, h2, PyData.depth, PyData.depthAll]
theorem lg_dp {K : PySem.W.Frag} {H : Hp} {p : Addr} {m : Int} (h : H p = some (.tup [.str "large", .str "digits", .int m, .int 4000])) : Dp K H (.ref p) (lgD m) := .tup (.inl (.inl h)) (.cons (.str _) (.cons (.str _) (.cons (.int _) (.cons (.int _) .nil))))
theorem dig_str {i : Int} (h0 : 1 ≤ i) (h1 : i ≤ 9) : ∃ d : Nat, Str.ofString (toString i) = ⟨#[d]⟩ ∧ 49 ≤ d ∧ d ≤ 57 := by
  have : i = 1 ∨ i = 2 ∨ i = 3 ∨ i = 4 ∨ i = 5 ∨ i = 6 ∨ i = 7 ∨ i = 8 ∨ i = 9 := by omega
  rcases this with rfl | rfl | rfl | rfl | rfl | rfl | rfl | rfl | rfl
  · exact ⟨49, ext (by decide +kernel), by decide, by decide⟩
  · exact ⟨50, ext (by decide +kernel), by decide, by decide⟩
  · exact ⟨51, ext (by decide +kernel), by decide, by decide⟩
  · exact ⟨52, ext (by decide +kernel), by decide, by decide⟩
  · exact ⟨53, ext (by decide +kernel), by decide, by decide⟩
  · exact ⟨54, ext (by decide +kernel), by decide, by decide⟩
  · exact ⟨55, ext (by decide +kernel), by decide, by decide⟩
  · exact ⟨56, ext (by decide +kernel), by decide, by decide⟩
  · exact ⟨57, ext (by decide +kernel), by decide, by decide⟩
def longS (d : Nat) (m : Int) : Str := ("1/" : Str) ++ Txt.mul ⟨#[d]⟩ m ++ ("*e^2-" : Str) ++ Txt.mul ⟨#[d]⟩ (m + 1)
theorem long_cs {d : Nat} {m : Nat} : (longS d m).cps.toList = longT d m [] := by
  have e1 : ("1/" : Str).cps.toList = [49, 47] := by decide +kernel
  have e2 : ("*e^2-" : Str).cps.toList = [42, 101, 94, 50, 45] := by decide +kernel
  unfold longS longT
  rw [PyProof.Rows.cps_toList_append, PyProof.Rows.cps_toList_append, PyProof.Rows.cps_toList_append, PyProof.Rows.mul_one_list, PyProof.Rows.mul_one_list, e1, e2]
  rw [Int.toNat_natCast, show ((m : Int) + 1).toNat = m + 1 by omega, List.append_nil, List.append_assoc, List.append_assoc]
theorem long_cs' {d : Nat} {m : Nat} : (longS d m ++ ("x" : Str)).cps.toList = longT d m [120] := by
  have e : ("x" : Str).cps.toList = [120] := by decide +kernel
  rw [PyProof.Rows.cps_toList_append, long_cs, e]
  unfold longT
  simp only [List.append_assoc, List.append_nil, List.cons_append, List.nil_append]
def spLR : Sp := fun vs H Q _ => ∃ (p l : Addr) (c : Int), vs = [.ref p] ∧ PenAt H p l c ∧ c < 900000000 ∧ ∀ H', Q (.bl true) H'
section
variable {P : Program} {w : World} {K : PySem.W.Frag} {mg : Str → Option Value} {base : Heap}
theorem scLong : FnScope ["_law_pen_here", "_law_many", "_law_digit", "_law_text", "_law_due_here"] psP (defScope sLong) := ⟨rfl, rfl, rfl, by decide +kernel, rfl, by decide +kernel, by decide +kernel⟩
theorem ok_long {f fD fP fT fU : Addr} {fd fdD fdP dT dU : FuncData} (F : Fun K "_law_long_right" "_law_long_right" sLong f fd) (ms : mg "str" = none) (ml : mg "len" = none) (D : Cl P w K mg base "_law_draw" psDraw 1 spDraw fD fdD)
    (C : Cl P w K mg base "_law_pick" psPick 2 spPick fP fdP) (T : Cl P w K mg base "_law_told" psLV 45 (spTold K) fT dT) (U : Cl P w K mg base "_law_due" psT 42 spDue fU dU) : FnOk P w K mg base CX0 46 f fd psP spLR := by
  refine F.ok scLong (fun vs H Q E h => ?_) (fun cdv A outer s H vs Q E hr h => ?_)
  · obtain ⟨p, l, c, rfl, _⟩ := h
    rfl
  · obtain ⟨p, l, c, rfl, hp, c1, k⟩ := h
    have hr1 : Room 1 _ := hr.mono (by decide)
    have hr2 : Room 2 _ := hr.mono (by decide)
    have hr42 : Room 42 _ := hr.mono (by decide)
    refine ⟨_, pss_cons (ps_par (i := 1) (j := 2) (by rfl) scLong.nd rfl rfl (by decide) rfl rfl
        (pa_cons (pe_call C.G hr2 (by rfl) C.g C.kp C.b .nil pass0 (pa_cons (pv 0) (pa_cons (pe_op op_cat (pe_op op_rep (pe_lst (pa_cons (pe_op op_add pe_int (pe_call D.G hr1 (by rfl) D.g D.kp D.b .nil pass0 (pa_cons (pv 0) (pa_cons pe_int pa_nil)))) pa_nil)) pe_int) (pe_lst (pa_cons pe_int (pa_cons pe_int pa_nil)))) pa_nil)))
        (pa_cons (pe_callTy call_str_int (by rfl) ms (by decide +kernel) (pa_cons (pe_op op_add pe_int (pe_call D.G hr1 (by rfl) D.g D.kp D.b .nil pass0 (pa_cons (pv 0) (pa_cons pe_int pa_nil)))) pa_nil)) pa_nil)) (by rfl))
      (pss_cons (ps_set (i := 3) scLong.nd rfl (Or.inl rfl) (pe_op op_add_str (pe_op op_add_str (pe_op op_add_str pe_str (pe_op op_mulS (pv 2) (pv 1))) pe_str) (pe_op op_mulS (pv 2) (pe_op op_add (pv 1) pe_int))))
      (C8.pss_cut (ps_set (i := 4) scLong.nd rfl (Or.inl rfl) (pe_ifExp (pt_cmpR op_gt (pv 1) pe_int (nomark _)) (pe_tup (pa_cons pe_str (pa_cons pe_str (pa_cons (pv 1) (pa_cons pe_int pa_nil))))) (pe_tup (pa_cons pe_str (pa_cons pe_str (pa_cons (pe_op op_add (pv 1) pe_int) (pa_cons pe_int pa_nil)))))))
      (pss_cons (ps_if (pt_cmpR op_gt (pe_op op_add (pv 1) pe_int) pe_int (nomark _)) (pss_one (ps_ret (pe_and (pe_cmpR (op_eqDK (K := K) rfl hr.units) (pe_call T.G hr (by rfl) T.g T.kp T.b .nil pass0 (pa_cons (pv 3) pa_nil)) (pv 4) (nomark _))
          (pe_one (pe_cmpR op_eq (pe_call T.G hr (by rfl) T.g T.kp T.b .nil pass0 (pa_cons (pe_op op_add_str (pv 3) pe_str) pa_nil)) (pe_op op_add (pe_callB call_len_str (by rfl) ml PySem.boot_len (pa_cons (pv 3) pa_nil)) pe_int) (nomark _)))))) pss_nil)
      (pss_one (ps_ret (pe_cmpR (op_eqDK (K := K) rfl hr.units) (pe_call T.G hr (by rfl) T.g T.kp T.b .nil pass0 (pa_cons (pv 3) pa_nil)) (pe_call U.G hr42 (by rfl) U.g U.kp U.b .nil pass0 (pa_cons (pv 3) pa_nil)) (nomark _))))))), ?_⟩
    have sz : sizeLine ≥ 100000 := by decide
    refine ⟨_, rfl, _, rfl, p, l, c, 5, rfl, hp, by omega, by decide, by decide, fun d1 H1 d10 d11 P1 k1 => ?_⟩
    refine ⟨_, _, rfl, rfl, by show 1 ≤ sizeLine; decide, fun q1 hq1 => ?_⟩
    refine ⟨q1, 3, _, rfl, rfl, upd_same, by decide, by decide, by show 1 * 3 ≤ sizeLine; decide, fun q2 hq2 => ?_⟩
    refine ⟨by show 2 ≤ sizeLine; decide, fun q3 hq3 => ?_⟩
    refine ⟨q2, q3, _, _, rfl, rfl, same_new hq3 _ _ upd_same, upd_same, by show 5 ≤ sizeLine; decide, fun q4 hq4 => ?_⟩
    refine ⟨p, l, q4, c + 1, _, rfl, (((P1.upd hq1).upd hq2).upd hq3).upd hq4, by omega, upd_same, by show 0 < 5; decide, by show 5 ≤ 1000; decide, fun i x H2 hx P2 k2 => ?_⟩
    obtain ⟨mi, rfl, m0, m1⟩ : ∃ m : Int, x = .int m ∧ 3998 ≤ m ∧ m ≤ 6000 := by
      have hm := List.mem_of_getElem? hx
      have hm2 : x ∈ [V.int (3998 + d1), .int (3998 + d1), .int (3998 + d1), .int 4301, .int 6000] := hm
      simp only [List.mem_cons, List.not_mem_nil, or_false] at hm2
      rcases hm2 with e | e | e | e | e <;> exact ⟨_, e, by omega, by omega⟩
    obtain ⟨m, rfl⟩ : ∃ m : Nat, mi = (m : Int) := ⟨mi.toNat, by omega⟩
    refine ⟨_, rfl, p, l, c + 1 + 1, 9, rfl, P2, by omega, by decide, by decide, fun d2 H3 d20 d21 P3 k3 => ?_⟩
    obtain ⟨l1, _⟩ := str_len (i := 1 + d2) (by omega) (by omega)
    refine ⟨_, _, rfl, rfl, _, rfl, l1, ?_⟩
    obtain ⟨d, ed, h49, h57⟩ := dig_str (i := 1 + d2) (by omega) (by omega)
    rw [ed]
    obtain ⟨a1, a2⟩ := mul_ok (x := ⟨#[d]⟩) (n := m) (by show 1 ≤ 1; decide) (by omega) (by omega)
    obtain ⟨a3, a4⟩ := mul_ok (x := ⟨#[d]⟩) (n := (m : Int) + 1) (by show 1 ≤ 1; decide) (by omega) (by omega)
    have hl : (longS d m).length = 8 + 2 * m := by
      rw [← tl_len, long_cs, lt_len]
      rfl
    have hl2 : (longS d m ++ ("x" : Str)).length = 9 + 2 * m := by
      have z : (longS d m ++ ("x" : Str)).length = (longS d m).length + 1 := Str.length_append _ _
      omega
    have z1 : (("1/" : Str) ++ Txt.mul ⟨#[d]⟩ m).length = 2 + (Txt.mul ⟨#[d]⟩ m).length := Str.length_append _ _
    have z2 : (("1/" : Str) ++ Txt.mul ⟨#[d]⟩ m ++ ("*e^2-" : Str)).length = (("1/" : Str) ++ Txt.mul ⟨#[d]⟩ m).length + 5 := Str.length_append _ _
    refine ⟨_, _, rfl, _, rfl, _, rfl, _, _, rfl, rfl, a1, _, _, rfl, rfl, by show 2 + (Txt.mul ⟨#[d]⟩ m).length ≤ sizeLine; omega, _, _, rfl, rfl, by show (("1/" : Str) ++ Txt.mul ⟨#[d]⟩ m).length + 5 ≤ sizeLine; omega, ?_⟩
    refine ⟨_, rfl, _, rfl, _, _, rfl, rfl, _, _, rfl, rfl, a3, _, _, rfl, rfl, by show (("1/" : Str) ++ Txt.mul ⟨#[d]⟩ m ++ ("*e^2-" : Str)).length + (Txt.mul ⟨#[d]⟩ ((m : Int) + 1)).length ≤ sizeLine; omega, ?_⟩
    refine ⟨fun σ' H' => ∃ q : Addr, σ' = [some (.ref p), some (.int m), some (.str ⟨#[d]⟩), some (.str (longS d m)), some (.ref q)] ∧ H' q = some (.tup [.str "large", .str "digits", .int ((if 4000 < m then m else m + 1 : Nat) : Int), .int 4000]), ?_, ?_⟩
    · refine ⟨_, rfl, _, _, rfl, rfl, _, rfl, ite2 (fun h => ?_) (fun h => ?_)⟩
      · have h' := of_decide_eq_true h
        refine ⟨_, rfl, by show 4 ≤ sizeLine; decide, fun q hq => ⟨q, rfl, ?_⟩⟩
        rw [if_pos (by omega)]
        exact upd_same
      · have h' : ¬ (4000 : Int) < (m : Int) := fun z => h (decide_eq_true z)
        refine ⟨_, rfl, _, _, rfl, rfl, by show 4 ≤ sizeLine; decide, fun q hq => ⟨q, rfl, ?_⟩⟩
        rw [if_neg (by omega)]
        exact upd_same
    rintro σ4 H4 ⟨q, rfl, hq⟩
    have R0 := long_rts (tail := []) h49 h57 (show 0 < m by omega) (.inl rfl)
    have R1 := long_rts (tail := [120]) h49 h57 (show 0 < m by omega) (.inr rfl)
    rw [lt_len] at R0 R1
    rw [show 8 + 2 * m + ([] : List Nat).length = 8 + 2 * m from rfl, if_pos rfl] at R0
    rw [show 8 + 2 * m + ([120] : List Nat).length = 9 + 2 * m by show 8 + 2 * m + 1 = _; omega, if_neg (fun z => nomatch z)] at R1
    have r1 : (List.replicate m d).length = m := List.length_replicate
    have r2 : (List.replicate (m + 1) d).length = m + 1 := List.length_replicate
    have o1 : ([49] : List Nat).length = 1 := rfl
    refine ⟨_, rfl, _, _, rfl, rfl, _, _, rfl, rfl, _, rfl, ite2 (fun h => ?_) (fun h => ?_)⟩
    · have h' : 4000 < (m : Int) + 1 := of_decide_eq_true h
      have hb : bigOf [⟨1, [49], List.replicate m d, 2⟩, ⟨-1, List.replicate (m + 1) d, [49], 0⟩] = some (if 4000 < m then m else m + 1) := by
        rw [bigOf_cons, bigOf_cons]
        dsimp only
        rw [r1, r2, o1, if_neg (by omega)]
        by_cases hm : 4000 < m
        · rw [if_pos hm, if_pos hm]
        · rw [if_neg hm, if_neg hm, if_pos (by omega)]
      refine ⟨_, rfl, _, rfl, .inl ⟨longS d m, rfl, by omega, ?_⟩⟩
      rw [hl, long_cs, R0]
      dsimp only
      rw [hb]
      intro p5 H5 s5 hp5
      refine ⟨_, rfl, lgD _, lgD _, lg_dp hp5, lg_dp (s5 _ _ hq), lg_shaped _, lg_shaped _, _, rfl, ?_⟩
      rw [SeqAt.eqv_refl _ (SeqAt.canLay_of_shaped (lg_shaped _))]
      refine iteT ⟨_, rfl, _, _, rfl, rfl, by show (longS d m).length + 1 ≤ sizeLine; omega, _, rfl, .inl ⟨longS d m ++ ("x" : Str), rfl, by omega, ?_⟩⟩
      rw [hl2, long_cs', R1]
      intro H6 s6
      refine ⟨_, rfl, longS d m, rfl, by omega, _, _, rfl, rfl, rfl, ?_⟩
      rw [decide_eq_true (congrArg V.int (by omega))]
      exact k H6
    · have h' : ¬ 4000 < (m : Int) + 1 := fun z => h (decide_eq_true z)
      have hb : bigOf [⟨1, [49], List.replicate m d, 2⟩, ⟨-1, List.replicate (m + 1) d, [49], 0⟩] = none := by
        rw [bigOf_cons, bigOf_cons]
        dsimp only
        rw [r1, r2, o1, if_neg (by omega), if_neg (by omega), if_neg (by omega), if_neg (by omega)]
        rfl
      refine ⟨_, rfl, _, rfl, .inl ⟨longS d m, rfl, by omega, ?_⟩⟩
      rw [hl, long_cs, R0]
      dsimp only
      rw [hb]
      refine ⟨by omega, long_nd (by omega) (by omega), fun lq H5 s5 f5 => ?_⟩
      refine ⟨_, rfl, longS d m, rfl, by omega, by rw [long_cs]; exact long_nd (by omega) (by omega), ?_⟩
      rw [hl, long_cs, R0]
      intro l6 H6 s6 f6
      refine ⟨_, _, (f5.same s6).dp, f6.dp, fr_shaped _, fr_shaped _, ?_⟩
      rw [SeqAt.eqv_refl _ (SeqAt.canLay_of_shaped (fr_shaped _))]
      exact k H6
end
end Fk

set_option Elab.async false
set_option maxRecDepth 100000
namespace Fk
open PySem L2
/-! ### the law's own def -/
abbrev sLaw : Stmt := top 70
def spLaw (K : PySem.W.Frag) : Sp := fun vs H Q _ => ∃ (a : Addr) (ns : List Int), vs = [.ref a] ∧ SqL K H a (ns.map V.int) ∧ ns.length ≤ 63 ∧ ∀ H', Q (.bl true) H'
theorem bigOf_small : ∀ {ts : List Tm}, (∀ tm ∈ ts, tm.ab.length ≤ 4000 ∧ tm.be.length ≤ 4000) → bigOf ts = none
  | [], _ => rfl
  | t :: r, h => by
    obtain ⟨a, b⟩ := h t (List.mem_cons_self ..)
    rw [bigOf_cons, if_neg (by omega), if_neg (by omega)]
    exact bigOf_small fun tm hm => h tm (List.mem_cons_of_mem _ hm)
theorem int_shaped (n : Int) : SeqAt.shaped (.int n) = true := by simp [SeqAt.shaped, PyData.canLay0, PyData.depth]
section
variable {P : Program} {w : World} {K : PySem.W.Frag} {mg : Str → Option Value} {base : Heap}
theorem scLaw : FnScope ["_law_script", "_law_pen_here", "_law_turn", "_law_text", "_law_bend", "_law_at", "_law_sign", "_law_odd"] ["_law_script"] (defScope sLaw) := ⟨rfl, rfl, rfl, by decide +kernel, rfl, by decide +kernel, by decide +kernel⟩
theorem ok_law {f C CB CL fI td fP fD fK fW fT fU fR : Addr} {fd dI dP dD dK dW dT dU dR : FuncData} {ds : List Value} (F : Fun K "law" "law" sLaw f fd) (Tk : Kin K mg CB CL C) (hqs : PySem.W.kitOne K (.ref C) (.type "str") = some false)
    (QT : Qt P w K mg base C fI dI) (Qb : Binds K dI ["self", "top", "bottom"] ds) (Qv : Vals [V.ref td] ds) (Qd : ∀ H : Hp, SqT K H td [.int 1])
    (Pn : Cl P w K mg base "_law_pen" ["_law_script"] 1 (spPen K) fP dP) (D : Cl P w K mg base "_law_draw" psDraw 1 spDraw fD dD) (Cp : Cl P w K mg base "_law_pick" psPick 2 spPick fK dK) (W : Cl P w K mg base "_law_drawn" psP 5 spDrawn fW dW)
    (T : Cl P w K mg base "_law_told" psLV 45 (spTold K) fT dT) (U : Cl P w K mg base "_law_due" psT 42 spDue fU dU) (R : Cl P w K mg base "_law_long_right" psP 46 spLR fR dR) (mr : mg "range" = none) (ml : mg "len" = none) : FnOk P w K mg base CX0 47 f fd ["_law_script"] (spLaw K) := by
  refine F.ok scLaw (fun vs H Q E h => ?_) (fun cdv A outer s H vs Q E hr h => ?_)
  · obtain ⟨a, ns, rfl, _⟩ := h
    rfl
  · obtain ⟨a, ns, rfl, hS, hl, k⟩ := h
    have hr1 : Room 1 _ := hr.mono (by decide)
    have hr2 : Room 2 _ := hr.mono (by decide)
    have hr5 : Room 5 _ := hr.mono (by decide)
    have hr42 : Room 42 _ := hr.mono (by decide)
    have hr45 : Room 45 _ := hr.mono (by decide)
    refine ⟨_, pss_cons (ps_set (i := 1) scLaw.nd rfl (Or.inl rfl) (pe_call Pn.G hr1 (by rfl) Pn.g Pn.kp Pn.b .nil pass0 (pa_cons (pv 0) pa_nil)))
      (C8.pss_cut (ps_for PassesOwn.never rfl (pi_range1 (by rfl) mr (pa_cons pe_int pa_nil)) (pg_name (i := 2) scLaw.nd rfl (Or.inl rfl))
        (pss_cons (ps_set (i := 3) scLaw.nd rfl (Or.inl rfl) (pe_call W.G hr5 (by rfl) W.g W.kp W.b .nil pass0 (pa_cons (pv 1) pa_nil)))
        (pss_one (ps_for PassesOwn.never rfl (pi_range1 (by rfl) mr (pa_cons pe_int pa_nil)) (pg_name (i := 4) scLaw.nd rfl (Or.inl rfl))
          (C8.pss_cut (ps_if (pt_cmpR (op_neDK (K := K) rfl hr.units) (pe_call T.G hr45 (by rfl) T.g T.kp T.b .nil pass0 (pa_cons (pv 3) pa_nil)) (pe_call U.G hr42 (by rfl) U.g U.kp U.b .nil pass0 (pa_cons (pv 3) pa_nil)) (nomark _)) (pss_one (ps_ret pe_bl)) pss_nil)
          (pss_cons (ps_set (i := 5) scLaw.nd rfl (Or.inl rfl) (pe_call D.G hr1 (by rfl) D.g D.kp D.b .nil pass0 (pa_cons (pv 1) (pa_cons (pe_op op_add (pe_callB call_len_str (by rfl) ml PySem.boot_len (pa_cons (pv 3) pa_nil)) pe_int) pa_nil))))
          (pss_cons (ps_set (i := 6) scLaw.nd rfl (Or.inl rfl) (pe_call Cp.G hr2 (by rfl) Cp.g Cp.kp Cp.b .nil pass0 (pa_cons (pv 1) (pa_cons (pe_lst (pa_cons pe_str (pa_cons pe_str (pa_cons pe_str (pa_cons pe_str (pa_cons pe_str (pa_cons pe_str (pa_cons pe_str (pa_cons pe_str (pa_cons pe_str (pa_cons pe_str (pa_cons pe_str (pa_cons pe_str (pa_cons pe_str (pa_cons pe_str pa_nil))))))))))))))) pa_nil))))
          (pss_one (ps_set (i := 3) scLaw.nd rfl (Or.inl rfl) (pe_op op_add_str (pe_op op_add_str (pe_slice sl_str (pv 3) po_none (po_some (pv 5))) (pv 6)) (pe_slice sl_str (pv 3) (po_some (pe_op op_add (pv 5) (pe_call D.G hr1 (by rfl) D.g D.kp D.b .nil pass0 (pa_cons (pv 1) (pa_cons pe_int pa_nil))))) po_none)))))))))))
      (pss_cons (ps_set (i := 7) scLaw.nd rfl (Or.inl rfl) (pe_call Cp.G hr2 (by rfl) Cp.g Cp.kp Cp.b .nil pass0 (pa_cons (pv 1) (pa_cons (pe_lst (pa_cons pe_non (pa_cons pe_int (pa_cons (pe_tup (pa_cons pe_str pa_nil)) (pa_cons (pe_lst (pa_cons pe_str pa_nil)) (pa_cons pe_bl
          (pa_cons (pe_make QT.M QT.G hr42 (by rfl) QT.g Qb Qv pass0 (pa_cons (pe_tup (pa_cons pe_int pa_nil)) pa_nil)) pa_nil))))))) pa_nil))))
      (pss_cons (ps_if (pt_cmpR (op_neDK (K := K) rfl hr.units) (pe_call T.G hr45 (by rfl) T.g T.kp T.b .nil pass0 (pa_cons (pv 7) pa_nil)) (pe_tup (pa_cons pe_str (pa_cons pe_int (pa_cons pe_int pa_nil)))) (nomark _)) (pss_one (ps_ret pe_bl)) pss_nil)
      (pss_one (ps_ret (pe_or (pe_cmpR op_gt (pe_call D.G hr1 (by rfl) D.g D.kp D.b .nil pass0 (pa_cons (pv 1) (pa_cons pe_int pa_nil))) pe_int (nomark _)) (pe_one (pe_call R.G hr (by rfl) R.g R.kp R.b .nil pass0 (pa_cons (pv 1) pa_nil))))))))), ?_⟩
    have sz : sizeLine ≥ 100000 := by decide
    refine ⟨_, rfl, a, ns, rfl, hS, hl, fun p l H1 s1 hp hl1 P1 => ?_⟩
    refine ⟨fun σ' H' => ∃ (v2 v3 v4 v5 v6 : Option V) (c : Int), σ' = [some (.ref a), some (.ref p), v2, v3, v4, v5, v6, none] ∧ PenAt H' p l c ∧ c ≤ 4000, ?_, ?_⟩
    · refine ⟨4, rfl, by decide, by decide, ?_⟩
      refine for_range (fun i σ H' => ∃ (v2 v3 v4 v5 v6 : Option V) (c : Int), σ = [some (.ref a), some (.ref p), v2, v3, v4, v5, v6, none] ∧ PenAt H' p l c ∧ c ≤ 1000 * i) ⟨none, none, none, none, none, 0, rfl, P1, by omega⟩ ?_ ?_
      · rintro i σ H2 hi ⟨v2, v3, v4, v5, v6, c, rfl, P2, hc⟩
        have hi' : i < 4 := hi
        refine ⟨_, rfl, p, l, c, rfl, P2, by omega, fun t c3 H3 tl c30 c31 P3 k3 => ?_⟩
        refine ⟨4, rfl, by decide, by decide, ?_⟩
        refine for_range (fun j σ H' => ∃ (v2 v4 v5 v6 : Option V) (t : Str) (c : Int), σ = [some (.ref a), some (.ref p), v2, some (.str t), v4, v5, v6, none] ∧ PenAt H' p l c ∧ c ≤ 1000 * i + 700 + 10 * j ∧ t.length ≤ 900 + j) ⟨_, _, _, _, t, c3, rfl, P3, by omega, by omega⟩ ?_ ?_
        · rintro j σ H4 hj ⟨v2, v4, v5, v6, t, c4, rfl, P4, hc4, tl4⟩
          have hj' : j < 4 := hj
          have szt : t.length ≤ sizeLine := by omega
          have lcs : t.cps.toList.length = t.length := tl_len t
          refine ⟨fun σ' H' => σ' = [some (.ref a), some (.ref p), v2, some (.str t), some (.int (0 + (j : Int))), v5, v6, none] ∧ PenAt H' p l c4, ?_, ?_⟩
          · have hnd : ∀ j, nd t.cps.toList j ≤ 4300 := fun j => by
              have := nd_le_len t.cps.toList j
              omega
            refine ⟨_, rfl, _, rfl, .inl ⟨t, rfl, by omega, ?_⟩⟩
            cases hR : rts (t.length + 2) t.cps.toList (st t.cps.toList) (sgn (st t.cps.toList)) [] with
            | bad col =>
              intro H5 s5
              refine ⟨_, rfl, t, rfl, by omega, hnd, ?_⟩
              rw [hR]
              intro H6 s6
              refine ⟨_, _, .int _, .int _, int_shaped _, int_shaped _, _, rfl, ?_⟩
              rw [SeqAt.eqv_refl _ (SeqAt.canLay_of_shaped (int_shaped _))]
              exact iteF ⟨rfl, (P4.same s5).same s6⟩
            | ok ts =>
              dsimp only
              have hlen := rts_len _ _ _ [] ts (fun _ hm => nomatch hm) hR
              rw [bigOf_small fun tm hm => by
                have := hlen tm hm
                omega]
              refine ⟨by omega, hnd, fun lq H5 s5 f5 => ⟨_, rfl, t, rfl, by omega, hnd, ?_⟩⟩
              rw [hR]
              intro l6 H6 s6 f6
              refine ⟨_, _, (f5.same s6).dp, f6.dp, fr_shaped _, fr_shaped _, _, rfl, ?_⟩
              rw [SeqAt.eqv_refl _ (SeqAt.canLay_of_shaped (fr_shaped _))]
              exact iteF ⟨rfl, (P4.same s5).same s6⟩
          · rintro σ5 H5 ⟨rfl, P5⟩
            refine ⟨_, rfl, _, rfl, t, rfl, szt, _, _, rfl, rfl, p, l, c4, _, rfl, P5, by omega, by omega, by omega, fun ai H6 a0 a1 P6 k6 => ?_⟩
            obtain ⟨m, rfl⟩ : ∃ m : Nat, ai = (m : Int) := ⟨ai.toNat, by omega⟩
            have al : m ≤ t.length := by omega
            refine ⟨_, rfl, by show 14 ≤ sizeLine; decide, fun q hq => ?_⟩
            refine ⟨p, l, q, c4 + 1, _, rfl, P6.upd hq, by omega, upd_same, by show 0 < 14; decide, by show 14 ≤ 1000; decide, fun i2 x H7 hx P7 k7 => ?_⟩
            obtain ⟨z, rfl, zl⟩ := mem_strs (xs := ["0", "1", "7", "/", "-", "+", "*", "e", "^", "6", " ", "x", "\n", ""]) (n := 1) hx (by decide +kernel)
            have e1 := cut_head t m al
            refine ⟨_, rfl, _, rfl, _, rfl, t, rfl, szt, _, rfl, _, _, rfl, rfl, by omega, ?_⟩
            have e2 : (cutS t none (some (m : Int)) ++ z).length = (cutS t none (some (m : Int))).length + z.length := Str.length_append _ _
            refine ⟨_, rfl, _, rfl, _, rfl, p, l, c4 + 1 + 1, 2, rfl, P7, by omega, by decide, by decide, fun d H8 d0 d1 P8 k8 => ?_⟩
            obtain ⟨b, rfl⟩ : ∃ b : Nat, d = (b : Int) := ⟨d.toNat, by omega⟩
            have e3 : (cutS t (some ((m : Int) + (b : Int))) none).length ≤ t.length - m := cut_tail t m al b
            refine ⟨_, _, rfl, rfl, _, rfl, t, rfl, szt, _, _, rfl, rfl, by omega, ?_⟩
            refine ⟨_, _, _, _, _, c4 + 1 + 1 + 1, rfl, P8, by omega, ?_⟩
            rw [Str.length_append]
            omega
        · rintro σ H4 ⟨v2, v4, v5, v6, t, c4, rfl, P4, hc4, tl4⟩
          exact ⟨_, _, _, _, _, c4, rfl, P4, by omega⟩
      · rintro σ H2 ⟨v2, v3, v4, v5, v6, c, rfl, P2, hc⟩
        exact ⟨_, _, _, _, _, c, rfl, P2, by omega⟩
    rintro σ1 H2 ⟨v2, v3, v4, v5, v6, c, rfl, P2, hc⟩
    clear P1 s1 hp hl1
    refine ⟨_, rfl, by show 1 ≤ sizeLine; decide, fun tp htp => ⟨by show 1 ≤ sizeLine; decide, fun lp hlp => ⟨by show 1 ≤ sizeLine; decide, fun qp hqp => ?_⟩⟩⟩
    have g1 : Same H2 (upd (upd (upd H2 tp (.tup [.str "e"])) lp (.lst [.str "1"])) qp (.tup [.int 1])) := ((same_new htp).trans (same_new hlp)).trans (same_new hqp)
    have xt : (upd (upd (upd H2 tp (.tup [.str "e"])) lp (.lst [.str "1"])) qp (.tup [.int 1])) tp = some (.tup [.str "e"]) := (same_new hqp) _ _ ((same_new hlp) _ _ upd_same)
    have xl : (upd (upd (upd H2 tp (.tup [.str "e"])) lp (.lst [.str "1"])) qp (.tup [.int 1])) lp = some (.lst [.str "1"]) := (same_new hqp) _ _ upd_same
    have xq : (upd (upd (upd H2 tp (.tup [.str "e"])) lp (.lst [.str "1"])) qp (.tup [.int 1])) qp = some (.tup [.int 1]) := upd_same
    generalize upd (upd (upd H2 tp (.tup [.str "e"])) lp (.lst [.str "1"])) qp (.tup [.int 1]) = H3 at g1 xt xl xq ⊢
    intro x dx hx hdx ndx
    have hx2 : (upd H3 dx (.own x)) x = none := by
      rw [upd_ne ndx.symm]
      exact hx
    have s5 := (same_new (o := .own x) hdx).trans (same_new (o := .ins C dx []) hx2)
    refine ⟨x, dx, qp, td, [1], 1, rfl, upd_same, .inl (.inl (s5 _ _ xq)), Qd _, by decide, by decide, .inr ⟨1, rfl, by decide⟩, fun H6 k6 hq6 => ⟨rfl, ?_⟩⟩
    have s36 : Same H3 H6 := fun b o e => k6 b o (ne_of_none e hx) (s5 _ _ e)
    obtain ⟨dx6, r1, r2, ho6, _, _⟩ := hq6
    refine ⟨by show 6 ≤ sizeLine; decide, fun q hq => ?_⟩
    have P6 := (P2.same g1).same s36
    refine ⟨p, l, q, c, _, rfl, P6.upd hq, by omega, upd_same, by show 0 < 6; decide, by show 6 ≤ 1000; decide, fun i y H7 hy P7 k7 => ?_⟩
    have np : ∀ {b : Addr} {o : HO}, H6 b = some o → (∀ kvs, o ≠ .dK kvs) → H7 b = some o := fun {b o} e hne => by
      obtain ⟨⟨a', d', f', ns', h1, _⟩, _⟩ := P6
      exact k7 b o (fun e' => by rw [e', h1] at e; exact hne _ (Option.some.inj e).symm) (same_new hq _ _ e)
    have hty : ∃ ty, TyX K H7 y ty ∧ PySem.W.kitOne K ty (.type "str") = some false := by
      match i, hy with
      | 0, hy =>
        cases hy
        exact ⟨_, .base .non, kit_ty (by decide)⟩
      | 1, hy =>
        cases hy
        exact ⟨_, .base (.int 3), kit_ty (by decide)⟩
      | 2, hy =>
        cases hy
        exact ⟨_, .base (.tup (np (s36 _ _ xt) fun _ z => nomatch z)), kit_ty (by decide)⟩
      | 3, hy =>
        cases hy
        exact ⟨_, .base (.lst (np (s36 _ _ xl) fun _ z => nomatch z)), kit_ty (by decide)⟩
      | 4, hy =>
        cases hy
        exact ⟨_, .base (.bl true), kit_ty (by decide)⟩
      | 5, hy =>
        cases hy
        exact ⟨_, Tk.ty (np ho6 fun _ z => nomatch z), hqs⟩
      | j + 6, hy => cases hy
    obtain ⟨ty, hty, hkit⟩ := hty
    refine ⟨_, rfl, y, rfl, .inr ⟨ty, hty, hkit, fun pt H8 s8 hpt => ?_⟩⟩
    refine ⟨by show 3 ≤ sizeLine; decide, fun z hz => ?_⟩
    have s9 := same_new (o := .tup [.str "text", .int 0, .int 0]) hz
    have dd : DpAll K (upd H8 z (.tup [.str "text", .int 0, .int 0])) [V.str "text", V.int 0, V.int 0] [.str "text", .int 0, .int 0] := .cons (.str _) (.cons (.int _) (.cons (.int _) .nil))
    refine ⟨.tuple [.str "text", .int 0, .int 0], .tuple [.str "text", .int 0, .int 0], .tup (Or.inl (Or.inl (s9 _ _ hpt))) dd, .tup (Or.inl (Or.inl upd_same)) dd, by decide +kernel, by decide +kernel, false, ?_, iteF ?_⟩
    · exact congrArg V.bl (by rw [SeqAt.eqv_refl _ (by decide +kernel)]; rfl)
    · refine ⟨_, rfl, p, l, c + 1, 6, rfl, (P7.same s8).same s9, by omega, by decide, by decide, fun d H9 d0 d1 P9 k9 => ?_⟩
      refine ⟨_, _, rfl, rfl, _, rfl, ite2 (fun h => k H9) (fun h => ?_)⟩
      exact ⟨_, rfl, p, l, c + 1 + 1, rfl, P9, by omega, k⟩
end
end Fk

set_option Elab.async false
set_option maxRecDepth 100000
namespace Fk
open PySem PySem.Spec L2 PyProof.Rows
/-! ### the end: what a // with _pylong looks at is taken along from the head -/
def asH (h : Heap) : List Addr := [sysModules, cStatics, mainGlobals, bmOf h]
def exH (h : Heap) : PySem.W.Frag := He.frG h.get? (asH h)
def noList : Option Obj → Bool
  | some o => !decide (o.cls = .type "list")
  | none => false
def seeD (h : Heap) : Bool := seeB h && (asH h).all fun a => noList (h.get? a)
theorem frG_has {g : Addr → Option Obj} {a : Addr} {o : Obj} : ∀ as : List Addr, a ∈ as → g a = some o → (He.frG g as).lookup a = some o
  | b :: r, hm, e => by
    unfold He.frG
    rw [List.filterMap_cons]
    by_cases hb : a = b
    · subst hb
      rw [e]
      exact List.lookup_cons_self
    · have hm' : a ∈ r := (List.mem_cons.mp hm).resolve_left hb
      have ih := frG_has r hm' e
      cases g b with
      | none => exact ih
      | some ob =>
        show List.lookup a ((b, ob) :: _) = some o
        rw [List.lookup_cons, beq_false_of_ne hb]
        exact ih
theorem see_all {h : Heap} (S : seeD h = true) : ∀ a ∈ asH h, ∃ o, h.get? a = some o ∧ ¬ o.cls = .type "list" := fun a ha => by
  have z := List.all_eq_true.mp (Bool.and_eq_true_iff.mp S).2 a ha
  cases e : h.get? a with
  | none =>
    rw [e] at z
    cases z
  | some o =>
    rw [e] at z
    exact ⟨o, rfl, by simpa [noList] using z⟩
theorem see_same {h b : Heap} (S : seeD h = true) (X : ∀ a ∈ asH h, b.get? a = h.get? a) : seeD b = true := by
  have e1 : fr1 b sysModules = fr1 h sysModules := by
    unfold fr1 He.frG
    rw [List.filterMap_cons, List.filterMap_cons, X sysModules (by simp [asH])]
    rfl
  have e2 : fr1 b cStatics = fr1 h cStatics := by
    unfold fr1 He.frG
    rw [List.filterMap_cons, List.filterMap_cons, X cStatics (by simp [asH])]
    rfl
  have e3 : fr1 b mainGlobals = fr1 h mainGlobals := by
    unfold fr1 He.frG
    rw [List.filterMap_cons, List.filterMap_cons, X mainGlobals (by simp [asH])]
    rfl
  have e4 : bmOf b = bmOf h := by
    unfold bmOf
    rw [e3]
  have e5 : asH b = asH h := by
    unfold asH
    rw [e4]
  unfold seeD at S ⊢
  rw [Bool.and_eq_true] at S ⊢
  refine ⟨?_, ?_⟩
  · unfold seeB
    rw [e1, e2, e3, e4, X (bmOf h) (by simp [asH])]
    exact S.1
  · rw [e5, List.all_eq_true]
    intro a ha
    rw [X a ha]
    exact List.all_eq_true.mp S.2 a ha
theorem see_keep {h b : Heap} (S : seeD h = true) (k : ∀ a o, h.get? a = some o → b.get? a = some o) : seeD b = true := see_same S fun a ha => by
  obtain ⟨o, e, _⟩ := see_all S a ha
  rw [e]
  exact k a o e
theorem see_up {h b : Heap} (S : seeD h = true) (X : (exH h).In b) : seeD b = true := see_same S fun a ha => by
  obtain ⟨o, e, _⟩ := see_all S a ha
  rw [e]
  exact X a o (frG_has _ ha e)
theorem app_at {E K : PySem.W.Frag} {a : Addr} {o : Obj} (h : (E ++ K).lookup a = some o) : E.lookup a = some o ∨ (E.lookup a = none ∧ K.lookup a = some o) := by
  rw [List.lookup_append] at h
  cases e : E.lookup a with
  | none =>
    rw [e] at h
    exact .inr ⟨rfl, h⟩
  | some u =>
    rw [e] at h
    exact .inl h
theorem app_in {E K : PySem.W.Frag} {h : Heap} (x : E.In h) (y : K.In h) : (E ++ K).In h := fun a o e => (app_at e).elim (x a o) fun z => y a o z.2
theorem app_l {E K : PySem.W.Frag} {a : Addr} {o : Obj} (h : E.lookup a = some o) : (E ++ K).lookup a = some o := by
  rw [List.lookup_append, h]
  rfl
theorem app_r {E K : PySem.W.Frag} {h : Heap} {a : Addr} {o : Obj} (x : E.In h) (y : K.In h) (e : K.lookup a = some o) : (E ++ K).lookup a = some o := by
  rw [List.lookup_append]
  cases q : E.lookup a with
  | none => exact e
  | some u =>
    have := (x a u q).symm.trans (y a o e)
    exact this
theorem fn_up {P : Program} {w : World} {K K' : PySem.W.Frag} {mg : Str → Option Value} {base : Heap} {k : Nat} {f : Addr} {fd : FuncData} {ps : List Str} {sp : Sp} (hk : ∀ a o, K.lookup a = some o → K'.lookup a = some o) (F : FnOk P w K mg base CX0 k f fd ps sp) : FnOk P w K' mg base CX0 k f fd ps sp :=
  ⟨F.len, fun A outer s H args us vs Q E hr e hb hv hs => F.run A outer s H args us vs Q E hr ⟨e.frames, ⟨fun a o q => e.mod.kin a o (hk a o q), e.mod.glob, e.mod.blt, e.mod.nolimit⟩, e.bs, e.bsz, e.funs, e.frf, e.hok, e.bare⟩ hb hv hs⟩
theorem exH_in {h : Heap} : (exH h).In h := He.frG_in
theorem sql_down {K : PySem.W.Frag} {h : Heap} (S : seeD h = true) {H : Hp} {a : Addr} {xs : List V} (q : SqL (exH h ++ K) H a xs) : SqL K H a xs := by
  rcases q with q | ⟨o, its, n, e, c, r⟩
  · exact .inl q
  · rcases app_at e with e | ⟨_, e⟩
    · have e1 := exH_in _ _ e
      have hm : a ∈ asH h := by
        have : ∀ as : List Addr, (He.frG h.get? as).lookup a = some o → a ∈ as := fun as => by
          induction as with
          | nil => exact fun z => nomatch (show (none : Option Obj) = some o from z)
          | cons b r ih =>
            intro z
            unfold He.frG at z
            rw [List.filterMap_cons] at z
            by_cases hb : a = b
            · exact hb ▸ List.mem_cons_self ..
            · refine List.mem_cons_of_mem _ (ih ?_)
              cases g : h.get? b with
              | none =>
                rw [g] at z
                exact z
              | some ob =>
                rw [g] at z
                have z' : List.lookup a ((b, ob) :: He.frG h.get? r) = some o := z
                rw [List.lookup_cons, beq_false_of_ne hb] at z'
                exact z'
        exact this _ e
      obtain ⟨o', e2, c2⟩ := see_all S a hm
      rw [e1] at e2
      cases e2
      exact absurd c c2
    · exact .inr ⟨o, its, n, e, c, r⟩
/-- the head's hook, with these looks -/
def withSee (H : PySem.W.Hook) : PySem.W.Hook := ⟨H.α × Bool, fun s => (H.obs s, seeD s.heap), fun w => (H.val w, true), fun w h => H.says w h ∧ seeD h = true, fun w s e => ⟨H.of w s (congrArg Prod.fst e), congrArg Prod.snd e⟩, fun w h h' x k => ⟨H.keeps w h h' x.1 k, see_keep x.2 k⟩⟩
theorem end_of {l : PySem.W.OpenLaw} {w : World} {K : PySem.W.Frag} {h : Heap} {mg : Str → Option Value} {fa : Addr} (S : seeD h = true) (X : K.In h)
    (F : ∃ fd : FuncData, (∀ (s : Shared) (v : Value), BindsTo s fd ⟨[v], []⟩ [("_law_script", v)]) ∧ ∀ base : Heap, K.In base → base.Ns mainGlobals mg → seeB base = true → FnOk l.prog w K mg base CX0 47 fa fd ["_law_script"] (spLaw K)) :
    ∃ (K' : PySem.W.Frag) (fd : FuncData) (sp : Sp), K'.In h ∧ (∀ (s : Shared) (u : Value), BindsTo s fd ⟨[u], []⟩ [("_law_script", u)]) ∧
      (∀ (H : Hp) (a : Addr) (ns : List Int), ns.length ≤ 63 → Only H → SqL K' H a (ns.map V.int) → sp [.ref a] H (fun v _ => v = .bl true) fun _ _ _ => False) ∧
      ∀ base : Heap, K'.In base → base.Ns mainGlobals mg → FnOk l.prog w K' mg base CX0 47 fa fd ["_law_script"] sp := by
  obtain ⟨fd, hb, hF⟩ := F
  refine ⟨exH h ++ K, fd, spLaw (exH h ++ K), app_in exH_in X, hb, fun H a ns hl _ hS => ⟨a, ns, rfl, hS, hl, fun _ => rfl⟩, fun base X2 G2 => ?_⟩
  have kE : (exH h).In base := fun a o e => X2 a o (app_l e)
  have kK : K.In base := fun a o e => X2 a o (app_r exH_in X e)
  have sb := (Bool.and_eq_true_iff.mp (see_up S kE)).1
  refine FnOk.imp (fn_up (fun a o e => app_r exH_in X e) (hF base kK G2 sb)) fun vs H Q E q => ?_
  obtain ⟨a, ns, e, hS, r⟩ := q
  exact ⟨a, ns, e, sql_down S hS, r⟩
end Fk

set_option Elab.async false
set_option maxRecDepth 100000
namespace Fk
open PySem L2
def oexB (K : PySem.W.Frag) (C : Addr) : Bool := match K.lookup C with
  | some ⟨.type "type", _, .cls cd, sl⟩ => (match cd.mro, sl.toList with
    | .ref C' :: bm, [_, _, _, _, some (.builtin n), _] => C' == C && (n == "ValueError.__new__" && (!cd.hasDel && (cd.hasDict && PySem.HandSPX.refsVE bm)))
    | _, _ => false)
  | _ => false
def oexB2 (K : PySem.W.Frag) (C : Addr) : Bool := oexB K C && (decide (PySem.W.findIn K (.ref C) "__setattr__" = some (some (.builtin "object.__setattr__"))) && (decide (PySem.W.subIn K (.ref C) (.type "BaseException") = some true) && (decide (PySem.W.typeIn K (.ref C) = some (.type "type")) && PySem.W.keepIn K (.ref C))))
theorem oexB_ok {K : PySem.W.Frag} {C : Addr} (q : oexB K C = true) : ∃ nm q N bs bm sn sub ab col dd k0 k1 k2 k3 k5, K.lookup C = some (excClassObj nm q C N bs bm true sn sub ab col dd k0 k1 k2 k3 k5 "ValueError.__new__") ∧ PySem.HandSPX.refsVE bm = true := by
  unfold oexB at q
  split at q
  · rename_i dd cd sl ho
    split at q
    · rename_i D bm s0 s1 s2 s3 n s5 hm hs
      simp only [Bool.and_eq_true, beq_iff_eq, Bool.not_eq_true'] at q
      obtain ⟨rfl, rfl, g1, g2, g3⟩ := q
      obtain ⟨w1, w2, w3, w4, w5, w6, w7, w8, w9, w10, w11⟩ := cd
      dsimp only at hm g1 g2
      subst hm g1 g2
      obtain ⟨ls⟩ := sl
      dsimp only at hs
      subst hs
      exact ⟨_, _, _, _, _, _, _, _, _, _, _, _, _, _, _, ho, g3⟩
    · cases q
  · cases q
theorem oexB2_ok {K : PySem.W.Frag} {C : Addr} (h : oexB2 K C = true) : OexC K C := by
  unfold oexB2 at h
  simp only [Bool.and_eq_true, decide_eq_true_eq] at h
  obtain ⟨h1, h2, h3, h4, h5⟩ := h
  exact ⟨oexB_ok h1, h2, h3, h4, h5⟩
def looks8 (K : PySem.W.Frag) (CB CL CQ gQ : Addr) : Bool :=
  oexB2 K CB && (oexB2 K CL && (xfB K CB && (xfB K CL && (decide (PySem.W.exmOne K (.ref CB) (.ref CB) = some true) && (decide (PySem.W.exmOne K (.ref CL) (.ref CB) = some false) && (decide (PySem.W.exmOne K (.ref CL) (.ref CL) = some true) && (decide (PySem.W.plainGet K CQ Str.empty = true) && (decide (PySem.W.hasDictIn K CQ = true) && (decide (PySem.W.plainOver K CQ = true) && (decide (PySem.W.findIn K (.ref CQ) "__setattr__" = some (some (.builtin "object.__setattr__"))) && (decide (PySem.W.findIn K (.ref CQ) "top" = some none) && (decide (PySem.W.findIn K (.ref CQ) "bottom" = some none) && (decide (PySem.W.findIn K (.ref CQ) "__class__" = some (some (.builtin "object.__class__"))) && (decide (PySem.W.specialIn K (.builtin "object.__class__") "__get__" = some (some (.builtin "getset_descriptor.__get__"))) && (decide (PySem.W.takesIn K (.builtin "object.__class__") = some true) && (decide (PySem.W.mroIn K CQ (.type "object") = some true) && (decide (PySem.W.kitOne K (.ref CQ) (.ref CQ) = some true) && (decide (PySem.W.kitOne K (.ref CQ) (.type "str") = some false) && (decide (PySem.W.makesIn K CQ = true) && (decide (PySem.W.findIn K (.ref CQ) "__init__" = some (some (.ref gQ))) && (decide (PySem.W.isFn K (.ref gQ) = true) && (decide (PySem.W.keepIn K (.ref CQ) = true)))))))))))))))))))))))
theorem fund_q {K : PySem.W.Frag} {f tD td : Addr} {oc : Value} {od an : Option Addr} {osl : Array (Option Value)} {kV dc pm cd ct toc : Value} {tod : Option Addr} {tn : Nat} {tsl : Array (Option Value)}
    (lf : K.lookup f = some ⟨oc, od, .func (PySem.W.fnOf "__init__" "Quotient.__init__" (defArgs sQInit) (defBody sQInit) (defScope sQInit) (.ref tD) kV dc pm an cd ct), osl⟩) (c : PySem.W.codeIn K cd "Quotient.__init__" = true) (k : PySem.W.keepIn K (.ref f) = true)
    (lT : K.lookup tD = some ⟨toc, tod, .seq #[.ref td] tn, tsl⟩) : FunD K "__init__" "Quotient.__init__" (defArgs sQInit) (defBody sQInit) (defScope sQInit) [V.ref td] [] f (PySem.W.fnOf "__init__" "Quotient.__init__" (defArgs sQInit) (defBody sQInit) (defScope sQInit) (.ref tD) kV dc pm an cd ct) :=
  ⟨⟨oc, od, _, kV, dc, pm, an, cd, ct, osl, rfl, lf, c, .inr ⟨(fun z => nomatch z), tD, _, [.ref td], tn, rfl, lT, rfl, .cons rfl .nil⟩, .inl rfl⟩, k⟩
set_option maxHeartbeats 0 in
theorem all_mk {l : PySem.W.OpenLaw} {w : World} {K : PySem.W.Frag} {h : Heap} {mg : Str → Option Value} {fa CB CL CQ gB gL gQ tD td f_law f_lowest f_isint f_plus f_shared f_dend f_isrow f_trimmed f_content f_char f_oneof f_intend f_rratio f_rpower f_rterm f_rterms f_lowrows f_poly f_qof f_pen f_draw f_pick f_big f_lgcd f_q f_lplus f_whole f_lisrow f_ldend f_letter f_term f_due f_told f_dterm f_drawn f_long : Addr} {eB eL d_lowest d_isint d_plus d_shared d_dend d_isrow d_trimmed d_content d_char d_oneof d_intend d_rratio d_rpower d_rterm d_rterms d_lowrows d_poly d_qof d_pen d_draw d_pick d_big d_lgcd d_q d_lplus d_whole d_lisrow d_ldend d_letter d_term d_due d_told d_dterm d_drawn d_long : FuncData} {t1 t2 t3 t4 t5 : Tok} {od an qod qan tod uod : Option Addr} {sl qsl tsl usl : Array (Option Value)} {tn un : Nat} {oc kV dc pm cd ct qoc qkV qdc qpm qcd qct toc : Value}
    (X : K.In h) (G : h.Ns mainGlobals mg) (hfa : mg "law" = some (.ref fa))
    (a_lowest : PySem.W.nsIn K mainGlobals "lowest" = some (some (.ref f_lowest)))
    (F_lowest : Fun K "lowest" "lowest" sLowest f_lowest d_lowest)
    (a_isint : PySem.W.nsIn K mainGlobals "is_integer" = some (some (.ref f_isint)))
    (F_isint : Fun K "is_integer" "is_integer" sIsInt f_isint d_isint)
    (a_plus : PySem.W.nsIn K mainGlobals "plus" = some (some (.ref f_plus)))
    (F_plus : Fun K "plus" "plus" sPlus f_plus d_plus)
    (a_shared : PySem.W.nsIn K mainGlobals "shared_bottom" = some (some (.ref f_shared)))
    (F_shared : Fun K "shared_bottom" "shared_bottom" sShared f_shared d_shared)
    (a_dend : PySem.W.nsIn K mainGlobals "digits_end" = some (some (.ref f_dend)))
    (F_dend : Fun K "digits_end" "digits_end" sDend f_dend d_dend)
    (a_isrow : PySem.W.nsIn K mainGlobals "is_row" = some (some (.ref f_isrow)))
    (F_isrow : Fun K "is_row" "is_row" sIsRow f_isrow d_isrow)
    (a_trimmed : PySem.W.nsIn K mainGlobals "trimmed" = some (some (.ref f_trimmed)))
    (F_trimmed : Fun K "trimmed" "trimmed" sTrimmed f_trimmed d_trimmed)
    (a_content : PySem.W.nsIn K mainGlobals "content" = some (some (.ref f_content)))
    (F_content : Fun K "content" "content" sContent f_content d_content)
    (a_char : PySem.W.nsIn K mainGlobals "char_at" = some (some (.ref f_char)))
    (F_char : Fun K "char_at" "char_at" sCharAt f_char d_char)
    (a_oneof : PySem.W.nsIn K mainGlobals "is_one_of" = some (some (.ref f_oneof)))
    (F_oneof : Fun K "is_one_of" "is_one_of" sOneOf f_oneof d_oneof)
    (a_intend : PySem.W.nsIn K mainGlobals "integer_end" = some (some (.ref f_intend)))
    (F_intend : Fun K "integer_end" "integer_end" sIntEnd f_intend d_intend)
    (a_rratio : PySem.W.nsIn K mainGlobals "read_ratio" = some (some (.ref f_rratio)))
    (F_rratio : Fun K "read_ratio" "read_ratio" sReadRatio f_rratio d_rratio)
    (a_rpower : PySem.W.nsIn K mainGlobals "read_power" = some (some (.ref f_rpower)))
    (F_rpower : Fun K "read_power" "read_power" sReadPower f_rpower d_rpower)
    (a_rterm : PySem.W.nsIn K mainGlobals "read_term" = some (some (.ref f_rterm)))
    (F_rterm : Fun K "read_term" "read_term" sReadTerm f_rterm d_rterm)
    (a_rterms : PySem.W.nsIn K mainGlobals "read_terms" = some (some (.ref f_rterms)))
    (F_rterms : Fun K "read_terms" "read_terms" sReadTerms f_rterms d_rterms)
    (a_lowrows : PySem.W.nsIn K mainGlobals "lowest_rows" = some (some (.ref f_lowrows)))
    (F_lowrows : Fun K "lowest_rows" "lowest_rows" sLowRows f_lowrows d_lowrows)
    (a_poly : PySem.W.nsIn K mainGlobals "polynomial" = some (some (.ref f_poly)))
    (F_poly : Fun K "polynomial" "polynomial" sPoly f_poly d_poly)
    (a_qof : PySem.W.nsIn K mainGlobals "quotient_of" = some (some (.ref f_qof)))
    (F_qof : Fun K "quotient_of" "quotient_of" sQOf f_qof d_qof)
    (a_pen : PySem.W.nsIn K mainGlobals "_law_pen" = some (some (.ref f_pen)))
    (F_pen : Fun K "_law_pen" "_law_pen" sPen f_pen d_pen)
    (a_draw : PySem.W.nsIn K mainGlobals "_law_draw" = some (some (.ref f_draw)))
    (F_draw : Fun K "_law_draw" "_law_draw" sDraw f_draw d_draw)
    (a_pick : PySem.W.nsIn K mainGlobals "_law_pick" = some (some (.ref f_pick)))
    (F_pick : Fun K "_law_pick" "_law_pick" sPick f_pick d_pick)
    (a_big : PySem.W.nsIn K mainGlobals "_law_big" = some (some (.ref f_big)))
    (F_big : Fun K "_law_big" "_law_big" sBig f_big d_big)
    (a_lgcd : PySem.W.nsIn K mainGlobals "_law_gcd" = some (some (.ref f_lgcd)))
    (F_lgcd : Fun K "_law_gcd" "_law_gcd" sGcd f_lgcd d_lgcd)
    (a_q : PySem.W.nsIn K mainGlobals "_law_q" = some (some (.ref f_q)))
    (F_q : Fun K "_law_q" "_law_q" sQ f_q d_q)
    (a_lplus : PySem.W.nsIn K mainGlobals "_law_plus" = some (some (.ref f_lplus)))
    (F_lplus : Fun K "_law_plus" "_law_plus" sLPlus f_lplus d_lplus)
    (a_whole : PySem.W.nsIn K mainGlobals "_law_is_whole" = some (some (.ref f_whole)))
    (F_whole : Fun K "_law_is_whole" "_law_is_whole" sWhole f_whole d_whole)
    (a_lisrow : PySem.W.nsIn K mainGlobals "_law_is_row" = some (some (.ref f_lisrow)))
    (F_lisrow : Fun K "_law_is_row" "_law_is_row" sLIsRow f_lisrow d_lisrow)
    (a_ldend : PySem.W.nsIn K mainGlobals "_law_digits_end" = some (some (.ref f_ldend)))
    (F_ldend : Fun K "_law_digits_end" "_law_digits_end" sLDend f_ldend d_ldend)
    (a_letter : PySem.W.nsIn K mainGlobals "_law_letter_end" = some (some (.ref f_letter)))
    (F_letter : Fun K "_law_letter_end" "_law_letter_end" sLetter f_letter d_letter)
    (a_term : PySem.W.nsIn K mainGlobals "_law_term" = some (some (.ref f_term)))
    (F_term : Fun K "_law_term" "_law_term" sTerm f_term d_term)
    (a_due : PySem.W.nsIn K mainGlobals "_law_due" = some (some (.ref f_due)))
    (F_due : Fun K "_law_due" "_law_due" sDue f_due d_due)
    (a_told : PySem.W.nsIn K mainGlobals "_law_told" = some (some (.ref f_told)))
    (F_told : Fun K "_law_told" "_law_told" sTold f_told d_told)
    (a_dterm : PySem.W.nsIn K mainGlobals "_law_drawn_term" = some (some (.ref f_dterm)))
    (F_dterm : Fun K "_law_drawn_term" "_law_drawn_term" sDTerm f_dterm d_dterm)
    (a_drawn : PySem.W.nsIn K mainGlobals "_law_drawn" = some (some (.ref f_drawn)))
    (F_drawn : Fun K "_law_drawn" "_law_drawn" sDrawn f_drawn d_drawn)
    (a_long : PySem.W.nsIn K mainGlobals "_law_long_right" = some (some (.ref f_long)))
    (F_long : Fun K "_law_long_right" "_law_long_right" sLong f_long d_long)
    (a_law : PySem.W.nsIn K mainGlobals "law" = some (some (.ref f_law)))
    (g_gcd : PySem.W.nsIn K mainGlobals "gcd" = some (some (.builtin "math.gcd")))
    (g_dig : PySem.W.nsIn K mainGlobals "DIGITS" = some (some (.str digs t1)))
    (g_most : PySem.W.nsIn K mainGlobals "MOST_DIGITS" = some (some (.int 4000 t2)))
    (g_pows : PySem.W.nsIn K mainGlobals "POWERS" = some (some (.str pows t3)))
    (g_mp : PySem.W.nsIn K mainGlobals "MOST_POWER" = some (some (.int 6 t4)))
    (g_B : PySem.W.nsIn K mainGlobals "BadText" = some (some (.ref CB)))
    (i_B : PySem.W.findIn K (.ref CB) "__init__" = some (some (.ref gB)))
    (t_B : PySem.W.typeIn K (.ref gB) = some (.type "function"))
    (IB : Fun K "__init__" "BadText.__init__" sIBadText gB eB)
    (nB_line : PySem.W.findIn K (.ref CB) "line" = some none)
    (nB_column : PySem.W.findIn K (.ref CB) "column" = some none)
    (g_L : PySem.W.nsIn K mainGlobals "TooLarge" = some (some (.ref CL)))
    (i_L : PySem.W.findIn K (.ref CL) "__init__" = some (some (.ref gL)))
    (t_L : PySem.W.typeIn K (.ref gL) = some (.type "function"))
    (IL : Fun K "__init__" "TooLarge.__init__" sITooLarge gL eL)
    (nL_what : PySem.W.findIn K (.ref CL) "what" = some none)
    (nL_number : PySem.W.findIn K (.ref CL) "number" = some none)
    (nL_limit : PySem.W.findIn K (.ref CL) "limit" = some none)
    (z_int : PySem.W.nsIn K mainGlobals "int" = some none)
    (z_list : PySem.W.nsIn K mainGlobals "list" = some none)
    (z_len : PySem.W.nsIn K mainGlobals "len" = some none)
    (z_range : PySem.W.nsIn K mainGlobals "range" = some none)
    (z_str : PySem.W.nsIn K mainGlobals "str" = some none)
    (z_isinstance : PySem.W.nsIn K mainGlobals "isinstance" = some none)
    (z_tuple : PySem.W.nsIn K mainGlobals "tuple" = some none)
    (z_abs : PySem.W.nsIn K mainGlobals "abs" = some none)
    (z_bool : PySem.W.nsIn K mainGlobals "bool" = some none)
    (dg : PySem.W.nsIn K cStatics "sys.int_max_str_digits" = some none)
    (ht : l.prog.given.tree = none)
    (g_Q : PySem.W.nsIn K mainGlobals "Quotient" = some (some (.ref CQ)))
    (i_Q : PySem.W.findIn K (.ref CQ) "__init__" = some (some (.ref gQ)))
    (l_Q : K.lookup gQ = some ⟨qoc, qod, .func (PySem.W.fnOf "__init__" "Quotient.__init__" (defArgs sQInit) (defBody sQInit) (defScope sQInit) (.ref tD) qkV qdc qpm qan qcd qct), qsl⟩)
    (c_Q : PySem.W.codeIn K qcd "Quotient.__init__" = true)
    (k_Q : PySem.W.keepIn K (.ref gQ) = true)
    (l_T : K.lookup tD = some ⟨toc, tod, .seq #[.ref td] tn, tsl⟩)
    (l_t : K.lookup td = some ⟨.type "tuple", uod, .seq #[.int 1 t5] un, usl⟩)
    (kb : looks8 K CB CL CQ gQ = true)
    (l_law : K.lookup f_law = some ⟨oc, od, .func (PySem.W.fnOf "law" "law" (defArgs sLaw) (defBody sLaw) (defScope sLaw) .none kV dc pm an cd ct), sl⟩)
    (c_law : PySem.W.codeIn K cd "law" = true)
    (k_law : PySem.W.keepIn K (.ref f_law) = true)
    : ∃ fd : FuncData, (∀ (s : Shared) (v : Value), BindsTo s fd ⟨[v], []⟩ [("_law_script", v)]) ∧ ∀ base : Heap, K.In base → base.Ns mainGlobals mg → seeB base = true → FnOk l.prog w K mg base CX0 47 fa fd ["_law_script"] (spLaw K) := by
  have e := hfa.symm.trans (PySem.W.mg_of X G a_law)
  cases e
  unfold looks8 at kb
  simp only [Bool.and_eq_true, decide_eq_true_eq] at kb
  obtain ⟨b1, b2, b3, b4, b5, b6, b7, q1, q2, q3, q4, q5, q6, q7, q8, q9, q10, q11, q12, q13, q14, q15, q16⟩ := kb
  have F_law := fun_mk (st := sLaw) l_law c_law k_law
  have bd_lowest := F_lowest.binds (ps := psTB) fun _ _ _ _ _ _ us hl => match us, hl with | [_, _], _ => rfl
  have bd_isint := F_isint.binds (ps := psV) fun _ _ _ _ _ _ us hl => match us, hl with | [_], _ => rfl
  have bd_plus := F_plus.binds (ps := psOO2) fun _ _ _ _ _ _ us hl => match us, hl with | [_, _], _ => rfl
  have bd_shared := F_shared.binds (ps := ["ratios"]) fun _ _ _ _ _ _ us hl => match us, hl with | [_], _ => rfl
  have bd_dend := F_dend.binds (ps := ["text", "start"]) fun _ _ _ _ _ _ us hl => match us, hl with | [_, _], _ => rfl
  have bd_isrow := F_isrow.binds (ps := psV) fun _ _ _ _ _ _ us hl => match us, hl with | [_], _ => rfl
  have bd_trimmed := F_trimmed.binds (ps := ["items"]) fun _ _ _ _ _ _ us hl => match us, hl with | [_], _ => rfl
  have bd_content := F_content.binds (ps := ["row"]) fun _ _ _ _ _ _ us hl => match us, hl with | [_], _ => rfl
  have bd_char := F_char.binds (ps := psCA) fun _ _ _ _ _ _ us hl => match us, hl with | [_, _], _ => rfl
  have bd_oneof := F_oneof.binds (ps := psOO) fun _ _ _ _ _ _ us hl => match us, hl with | [_, _], _ => rfl
  have bd_intend := F_intend.binds (ps := psTS) fun _ _ _ _ _ _ us hl => match us, hl with | [_, _], _ => rfl
  have bd_rratio := F_rratio.binds (ps := psTS) fun _ _ _ _ _ _ us hl => match us, hl with | [_, _], _ => rfl
  have bd_rpower := F_rpower.binds (ps := psTS) fun _ _ _ _ _ _ us hl => match us, hl with | [_, _], _ => rfl
  have bd_rterm := F_rterm.binds (ps := psTS) fun _ _ _ _ _ _ us hl => match us, hl with | [_, _], _ => rfl
  have bd_rterms := F_rterms.binds (ps := ["text"]) fun _ _ _ _ _ _ us hl => match us, hl with | [_], _ => rfl
  have bd_lowrows := F_lowrows.binds (ps := psTBr) fun _ _ _ _ _ _ us hl => match us, hl with | [_, _], _ => rfl
  have bd_poly := F_poly.binds (ps := ["ratios"]) fun _ _ _ _ _ _ us hl => match us, hl with | [_], _ => rfl
  have bd_qof := F_qof.binds (ps := ["text"]) fun _ _ _ _ _ _ us hl => match us, hl with | [_], _ => rfl
  have bd_pen := F_pen.binds (ps := ["_law_script"]) fun _ _ _ _ _ _ us hl => match us, hl with | [_], _ => rfl
  have bd_draw := F_draw.binds (ps := psDraw) fun _ _ _ _ _ _ us hl => match us, hl with | [_, _], _ => rfl
  have bd_pick := F_pick.binds (ps := psPick) fun _ _ _ _ _ _ us hl => match us, hl with | [_, _], _ => rfl
  have bd_big := F_big.binds (ps := psBig) fun _ _ _ _ _ _ us hl => match us, hl with | [_, _], _ => rfl
  have bd_lgcd := F_lgcd.binds (ps := psGcd) fun _ _ _ _ _ _ us hl => match us, hl with | [_, _], _ => rfl
  have bd_q := F_q.binds (ps := psQ) fun _ _ _ _ _ _ us hl => match us, hl with | [_, _], _ => rfl
  have bd_lplus := F_lplus.binds (ps := psGcd) fun _ _ _ _ _ _ us hl => match us, hl with | [_, _], _ => rfl
  have bd_whole := F_whole.binds (ps := psLV) fun _ _ _ _ _ _ us hl => match us, hl with | [_], _ => rfl
  have bd_lisrow := F_lisrow.binds (ps := psLV) fun _ _ _ _ _ _ us hl => match us, hl with | [_], _ => rfl
  have bd_ldend := F_ldend.binds (ps := psDe) fun _ _ _ _ _ _ us hl => match us, hl with | [_, _], _ => rfl
  have bd_letter := F_letter.binds (ps := psDe) fun _ _ _ _ _ _ us hl => match us, hl with | [_, _], _ => rfl
  have bd_term := F_term.binds (ps := psDe) fun _ _ _ _ _ _ us hl => match us, hl with | [_, _], _ => rfl
  have bd_due := F_due.binds (ps := psT) fun _ _ _ _ _ _ us hl => match us, hl with | [_], _ => rfl
  have bd_told := F_told.binds (ps := psLV) fun _ _ _ _ _ _ us hl => match us, hl with | [_], _ => rfl
  have bd_dterm := F_dterm.binds (ps := psBig) fun _ _ _ _ _ _ us hl => match us, hl with | [_, _], _ => rfl
  have bd_drawn := F_drawn.binds (ps := psP) fun _ _ _ _ _ _ us hl => match us, hl with | [_], _ => rfl
  have bd_long := F_long.binds (ps := psP) fun _ _ _ _ _ _ us hl => match us, hl with | [_], _ => rfl
  have beB := IB.binds (ps := ["self", "line", "column"]) fun _ _ _ _ _ _ us hl => match us, hl with | [_, _, _], _ => rfl
  have beL := IL.binds (ps := ["self", "what", "number", "limit"]) fun _ _ _ _ _ _ us hl => match us, hl with | [_, _, _, _], _ => rfl
  refine ⟨PySem.W.fnOf "law" "law" (defArgs sLaw) (defBody sLaw) (defScope sLaw) .none kV dc pm an cd ct, fun s v => .of_eq rfl, fun base _ _ S => ?_⟩
  have y_int := PySem.W.mg_none_of X G z_int
  have y_list := PySem.W.mg_none_of X G z_list
  have y_len := PySem.W.mg_none_of X G z_len
  have y_range := PySem.W.mg_none_of X G z_range
  have y_str := PySem.W.mg_none_of X G z_str
  have y_isinstance := PySem.W.mg_none_of X G z_isinstance
  have y_tuple := PySem.W.mg_none_of X G z_tuple
  have y_abs := PySem.W.mg_none_of X G z_abs
  have y_bool := PySem.W.mg_none_of X G z_bool
  have nnB : ∀ f ∈ (["line", "column"] : List Str), PySem.W.findIn K (.ref CB) f = some none := fun f hf => by
    simp only [List.mem_cons, List.not_mem_nil, or_false] at hf
    rcases hf with rfl | rfl
    · exact nB_line
    · exact nB_column
  have EB : Err l.prog w K mg base "BadText" ["line", "column"] CB gB eB := ⟨oexB2_ok b1, i_B, t_B, ini_BadText IB ⟨oexB2_ok b1, nnB⟩, beB, PySem.W.mg_of X G g_B⟩
  have nnL : ∀ f ∈ (["what", "number", "limit"] : List Str), PySem.W.findIn K (.ref CL) f = some none := fun f hf => by
    simp only [List.mem_cons, List.not_mem_nil, or_false] at hf
    rcases hf with rfl | rfl | rfl
    · exact nL_what
    · exact nL_number
    · exact nL_limit
  have EL : Err l.prog w K mg base "TooLarge" ["what", "number", "limit"] CL gL eL := ⟨oexB2_ok b2, i_L, t_L, ini_TooLarge IL ⟨oexB2_ok b2, nnL⟩, beL, PySem.W.mg_of X G g_L⟩
  have y_gcd := PySem.W.mg_of X G g_gcd
  have QC : QCls K CQ := ⟨⟨q1, q2, q3, q4⟩, q5, q6⟩
  have FQ := fund_q l_Q c_Q k_Q l_T
  obtain ⟨ds0, v0, bq0⟩ := FQ.binds1 (ps := ["self", "top", "bottom"]) 3 1 (fun z => nomatch z) rfl fun T kV doc pm an cdv ct us its h1 h2 => match us, its, h1, h2 with
    | [_, _, _], [_], _, _ => ⟨_, rfl, rfl⟩
  obtain ⟨ds1, v1, bq1⟩ := FQ.binds1 (ps := ["self", "top", "bottom"]) 2 0 (fun z => nomatch z) rfl fun T kV doc pm an cdv ct us its h1 h2 => match us, its, h1, h2 with
    | [_, _], [_], _, _ => ⟨_, rfl, rfl⟩
  cases v0
  have Qd : ∀ H : Hp, SqT K H td [.int 1] := fun H => .inr ⟨_, _, _, l_t, rfl, rfl, by show 1 ≤ sizeLine; decide, .cons ⟨_, rfl⟩ .nil⟩
  have Tk : Kin K mg CB CL CQ := ⟨y_isinstance, xfB_ok b3, xfB_ok b4, nB_line, nB_column, nL_what, nL_number, nL_limit, b5, b6, b7, QC, q7, q8, q9, q10, q11⟩
  have hlowest : Cl l.prog w K mg base "lowest" psTB 40 spLowP f_lowest d_lowest := ⟨ok_lowP F_lowest S ht y_gcd, PySem.W.mg_of X G a_lowest, F_lowest.kp, bd_lowest⟩
  have hisint : Cl l.prog w K mg base "is_integer" psV 1 spIsInt1 f_isint d_isint := ⟨ok_isint F_isint y_isinstance y_int y_bool, PySem.W.mg_of X G a_isint, F_isint.kp, bd_isint⟩
  have hplus : Cl l.prog w K mg base "plus" psOO2 41 spPlus f_plus d_plus := ⟨ok_plus F_plus hlowest, PySem.W.mg_of X G a_plus, F_plus.kp, bd_plus⟩
  have hshared : Cl l.prog w K mg base "shared_bottom" ["ratios"] 40 spShared f_shared d_shared := ⟨ok_shared F_shared S ht y_gcd, PySem.W.mg_of X G a_shared, F_shared.kp, bd_shared⟩
  have hdend : Cl l.prog w K mg base "digits_end" ["text", "start"] 1 spDend f_dend d_dend := ⟨ok_dend F_dend y_len (PySem.W.mg_of X G g_dig), PySem.W.mg_of X G a_dend, F_dend.kp, bd_dend⟩
  have hisrow : Cl l.prog w K mg base "is_row" psV 2 (spIsRow K) f_isrow d_isrow := ⟨ok_isrow F_isrow y_isinstance y_tuple y_len hisint, PySem.W.mg_of X G a_isrow, F_isrow.kp, bd_isrow⟩
  have htrimmed : Cl l.prog w K mg base "trimmed" ["items"] 1 spTrimmed f_trimmed d_trimmed := ⟨ok_trimmed F_trimmed y_len y_tuple, PySem.W.mg_of X G a_trimmed, F_trimmed.kp, bd_trimmed⟩
  have hcontent : Cl l.prog w K mg base "content" ["row"] 1 (spContent K) f_content d_content := ⟨ok_content F_content y_gcd, PySem.W.mg_of X G a_content, F_content.kp, bd_content⟩
  have hchar : Cl l.prog w K mg base "char_at" psCA 1 spCharAt f_char d_char := ⟨ok_char F_char, PySem.W.mg_of X G a_char, F_char.kp, bd_char⟩
  have honeof : Cl l.prog w K mg base "is_one_of" psOO 1 spOneOf f_oneof d_oneof := ⟨ok_oneof F_oneof, PySem.W.mg_of X G a_oneof, F_oneof.kp, bd_oneof⟩
  have hintend : Cl l.prog w K mg base "integer_end" psTS 2 spIntEnd f_intend d_intend := ⟨ok_intend F_intend hchar hdend, PySem.W.mg_of X G a_intend, F_intend.kp, bd_intend⟩
  have RR := ok_readratio (P := l.prog) (w := w) (base := base) F_rratio EB hintend hchar honeof hdend (PySem.W.mg_of X G g_dig)
  have RP := ok_readpower (P := l.prog) (w := w) (base := base) F_rpower EB hchar honeof (PySem.W.mg_of X G g_pows) y_int
  have RT := ok_readterm (P := l.prog) (w := w) (base := base) F_rterm EB hchar honeof RR (PySem.W.mg_of X G a_rratio) F_rratio.kp bd_rratio RP (PySem.W.mg_of X G a_rpower) F_rpower.kp bd_rpower (PySem.W.mg_of X G g_dig)
  have RS := ok_readterms (P := l.prog) (w := w) (base := base) F_rterms EB honeof RT (PySem.W.mg_of X G a_rterm) F_rterm.kp bd_rterm y_len
  have hlowrows : Cl l.prog w K mg base "lowest_rows" psTBr 40 (spLowRows K) f_lowrows d_lowrows := ⟨ok_lowrows F_lowrows S ht y_gcd y_len y_tuple hcontent, PySem.W.mg_of X G a_lowrows, F_lowrows.kp, bd_lowrows⟩
  have QT : Qt l.prog w K mg base CQ gQ _ := ⟨⟨q13, q14, q15, q16⟩, ok_qinit FQ QC y_len hisrow hlowrows, PySem.W.mg_of X G g_Q, bq0⟩
  have hpoly : Cl l.prog w K mg base "polynomial" ["ratios"] 43 (spPoly CQ) f_poly d_poly := ⟨ok_poly F_poly S ht QT hshared htrimmed, PySem.W.mg_of X G a_poly, F_poly.kp, bd_poly⟩
  have QO := ok_qof (P := l.prog) (w := w) (base := base) (C := CQ) F_qof EB EL RS (PySem.W.mg_of X G a_rterms) F_rterms.kp bd_rterms hplus hlowest hpoly y_isinstance y_str y_len y_int (PySem.W.mg_of X G g_most) (PySem.W.mg_of X G g_mp) dg
  have hpen : Cl l.prog w K mg base "_law_pen" ["_law_script"] 1 (spPen K) f_pen d_pen := ⟨ok_pen F_pen y_int y_list, PySem.W.mg_of X G a_pen, F_pen.kp, bd_pen⟩
  have hdraw : Cl l.prog w K mg base "_law_draw" psDraw 1 spDraw f_draw d_draw := ⟨ok_draw F_draw y_int y_len, PySem.W.mg_of X G a_draw, F_draw.kp, bd_draw⟩
  have hpick : Cl l.prog w K mg base "_law_pick" psPick 2 spPick f_pick d_pick := ⟨ok_pick F_pick y_len hdraw, PySem.W.mg_of X G a_pick, F_pick.kp, bd_pick⟩
  have hbig : Cl l.prog w K mg base "_law_big" psBig 3 spBig f_big d_big := ⟨ok_big F_big y_range y_int y_str hdraw hpick, PySem.W.mg_of X G a_big, F_big.kp, bd_big⟩
  have hlgcd : Cl l.prog w K mg base "_law_gcd" psGcd 1 spGcd2 f_lgcd d_lgcd := ⟨ok_gcd2 F_lgcd y_abs y_range y_int, PySem.W.mg_of X G a_lgcd, F_lgcd.kp, bd_lgcd⟩
  have hq : Cl l.prog w K mg base "_law_q" psQ 40 spQ2 f_q d_q := ⟨ok_q2 F_q S ht hlgcd, PySem.W.mg_of X G a_q, F_q.kp, bd_q⟩
  have hlplus : Cl l.prog w K mg base "_law_plus" psGcd 41 spLPlus f_lplus d_lplus := ⟨ok_lplus F_lplus hq, PySem.W.mg_of X G a_lplus, F_lplus.kp, bd_lplus⟩
  have hwhole : Cl l.prog w K mg base "_law_is_whole" psLV 1 spIsInt1 f_whole d_whole := ⟨ok_whole F_whole y_isinstance y_int y_bool, PySem.W.mg_of X G a_whole, F_whole.kp, bd_whole⟩
  have hlisrow : Cl l.prog w K mg base "_law_is_row" psLV 2 (spLIsRow K) f_lisrow d_lisrow := ⟨ok_lisrow F_lisrow y_isinstance y_tuple hwhole, PySem.W.mg_of X G a_lisrow, F_lisrow.kp, bd_lisrow⟩
  have hldend : Cl l.prog w K mg base "_law_digits_end" psDe 1 spLDend f_ldend d_ldend := ⟨ok_ldend F_ldend y_range y_len y_tuple, PySem.W.mg_of X G a_ldend, F_ldend.kp, bd_ldend⟩
  have hletter : Cl l.prog w K mg base "_law_letter_end" psDe 1 spLetter f_letter d_letter := ⟨ok_letter F_letter y_tuple y_int, PySem.W.mg_of X G a_letter, F_letter.kp, bd_letter⟩
  have hterm : Cl l.prog w K mg base "_law_term" psDe 2 spTerm f_term d_term := ⟨ok_term F_term hldend hletter y_int dg, PySem.W.mg_of X G a_term, F_term.kp, bd_term⟩
  have hdue : Cl l.prog w K mg base "_law_due" psT 42 spDue f_due d_due := ⟨ok_due F_due hterm hlplus hq y_len y_range, PySem.W.mg_of X G a_due, F_due.kp, bd_due⟩
  have htold : Cl l.prog w K mg base "_law_told" psLV 45 (spTold K) f_told d_told := ⟨ok_told F_told Tk EB EL QO (PySem.W.mg_of X G a_qof) F_qof.kp bd_qof (PySem.W.mg_of X G g_Q) hlisrow hq y_len, PySem.W.mg_of X G a_told, F_told.kp, bd_told⟩
  have hdterm : Cl l.prog w K mg base "_law_drawn_term" psBig 4 spDTerm f_dterm d_dterm := ⟨ok_dterm F_dterm y_str hpick hbig, PySem.W.mg_of X G a_dterm, F_dterm.kp, bd_dterm⟩
  have hdrawn : Cl l.prog w K mg base "_law_drawn" psP 5 spDrawn f_drawn d_drawn := ⟨ok_drawn F_drawn y_range hdraw hpick hdterm, PySem.W.mg_of X G a_drawn, F_drawn.kp, bd_drawn⟩
  have hlong : Cl l.prog w K mg base "_law_long_right" psP 46 spLR f_long d_long := ⟨ok_long F_long y_str y_len hdraw hpick htold hdue, PySem.W.mg_of X G a_long, F_long.kp, bd_long⟩
  exact ok_law F_law Tk q12 QT bq1 v1 Qd hpen hdraw hpick hdrawn htold hdue hlong y_range y_len
end Fk

set_option Elab.async false
set_option maxRecDepth 100000
open PySem PySem.W PyProof.Rows
local macro_rules
  | `(tactic| o_head ($_ : $_)) => Lean.Macro.throwUnsupported
  | `(tactic| o_head $H) => `(tactic| o_head (Fk.withSee $H : _))
set_option maxRecDepth 100000 in
set_option maxHeartbeats 0 in
theorem PySem.Challenge.cw_everyfoe_k08_texts_of_polynomials_holds : PySem.Challenge.rw_everyfoe_k08_texts_of_polynomials.Holds := by
  w_on; o_law; k_head; (case hw => w_witness2)
  k_fill
  refine L2.walk_ofE (l := PySem.Challenge.rw_everyfoe_k08_texts_of_polynomials) (n := 63) (k := 47) (x := "_law_script") (CX := L2.CX0) rfl (by decide) rfl ⟨rfl, by decide, by decide⟩ ?F (fun _ _ _ _ z => z)
  case F =>
    intro w mg fa h Y G hmg
    have KX := PySem.W.kIn_of Y.1
    refine' Fk.end_of Y.2 KX (Fk.all_mk KX G hmg ?a_lowest ?F_lowest ?a_isint ?F_isint ?a_plus ?F_plus ?a_shared ?F_shared ?a_dend ?F_dend ?a_isrow ?F_isrow ?a_trimmed ?F_trimmed ?a_content ?F_content ?a_char ?F_char ?a_oneof ?F_oneof ?a_intend ?F_intend ?a_rratio ?F_rratio ?a_rpower ?F_rpower ?a_rterm ?F_rterm ?a_rterms ?F_rterms ?a_lowrows ?F_lowrows ?a_poly ?F_poly ?a_qof ?F_qof ?a_pen ?F_pen ?a_draw ?F_draw ?a_pick ?F_pick ?a_big ?F_big ?a_lgcd ?F_lgcd ?a_q ?F_q ?a_lplus ?F_lplus ?a_whole ?F_whole ?a_lisrow ?F_lisrow ?a_ldend ?F_ldend ?a_letter ?F_letter ?a_term ?F_term ?a_due ?F_due ?a_told ?F_told ?a_dterm ?F_dterm ?a_drawn ?F_drawn ?a_long ?F_long ?a_law ?g_gcd ?g_dig ?g_most ?g_pows ?g_mp ?g_B ?i_B ?t_B ?IB ?nB_line ?nB_column ?g_L ?i_L ?t_L ?IL ?nL_what ?nL_number ?nL_limit ?z_int ?z_list ?z_len ?z_range ?z_str ?z_isinstance ?z_tuple ?z_abs ?z_bool ?dg ?ht ?g_Q ?i_Q ?l_Q ?c_Q ?k_Q ?l_T ?l_t ?kb ?l_law ?c_law ?k_law)
    (case a_lowest => k_is)
    (case F_lowest => refine' L2.fun_mk ?l ?c ?k; (case l => k_is); (case c => k_is); (case k => k_is))
    (case a_isint => k_is)
    (case F_isint => refine' L2.fun_mk ?l ?c ?k; (case l => k_is); (case c => k_is); (case k => k_is))
    (case a_plus => k_is)
    (case F_plus => refine' L2.fun_mk ?l ?c ?k; (case l => k_is); (case c => k_is); (case k => k_is))
    (case a_shared => k_is)
    (case F_shared => refine' L2.fun_mk ?l ?c ?k; (case l => k_is); (case c => k_is); (case k => k_is))
    (case a_dend => k_is)
    (case F_dend => refine' L2.fun_mk ?l ?c ?k; (case l => k_is); (case c => k_is); (case k => k_is))
    (case a_isrow => k_is)
    (case F_isrow => refine' L2.fun_mk ?l ?c ?k; (case l => k_is); (case c => k_is); (case k => k_is))
    (case a_trimmed => k_is)
    (case F_trimmed => refine' L2.fun_mk ?l ?c ?k; (case l => k_is); (case c => k_is); (case k => k_is))
    (case a_content => k_is)
    (case F_content => refine' L2.fun_mk ?l ?c ?k; (case l => k_is); (case c => k_is); (case k => k_is))
    (case a_char => k_is)
    (case F_char => refine' L2.fun_mk ?l ?c ?k; (case l => k_is); (case c => k_is); (case k => k_is))
    (case a_oneof => k_is)
    (case F_oneof => refine' L2.fun_mk ?l ?c ?k; (case l => k_is); (case c => k_is); (case k => k_is))
    (case a_intend => k_is)
    (case F_intend => refine' L2.fun_mk ?l ?c ?k; (case l => k_is); (case c => k_is); (case k => k_is))
    (case a_rratio => k_is)
    (case F_rratio => refine' L2.fun_mk ?l ?c ?k; (case l => k_is); (case c => k_is); (case k => k_is))
    (case a_rpower => k_is)
    (case F_rpower => refine' L2.fun_mk ?l ?c ?k; (case l => k_is); (case c => k_is); (case k => k_is))
    (case a_rterm => k_is)
    (case F_rterm => refine' L2.fun_mk ?l ?c ?k; (case l => k_is); (case c => k_is); (case k => k_is))
    (case a_rterms => k_is)
    (case F_rterms => refine' L2.fun_mk ?l ?c ?k; (case l => k_is); (case c => k_is); (case k => k_is))
    (case a_lowrows => k_is)
    (case F_lowrows => refine' L2.fun_mk ?l ?c ?k; (case l => k_is); (case c => k_is); (case k => k_is))
    (case a_poly => k_is)
    (case F_poly => refine' L2.fun_mk ?l ?c ?k; (case l => k_is); (case c => k_is); (case k => k_is))
    (case a_qof => k_is)
    (case F_qof => refine' L2.fun_mk ?l ?c ?k; (case l => k_is); (case c => k_is); (case k => k_is))
    (case a_pen => k_is)
    (case F_pen => refine' L2.fun_mk ?l ?c ?k; (case l => k_is); (case c => k_is); (case k => k_is))
    (case a_draw => k_is)
    (case F_draw => refine' L2.fun_mk ?l ?c ?k; (case l => k_is); (case c => k_is); (case k => k_is))
    (case a_pick => k_is)
    (case F_pick => refine' L2.fun_mk ?l ?c ?k; (case l => k_is); (case c => k_is); (case k => k_is))
    (case a_big => k_is)
    (case F_big => refine' L2.fun_mk ?l ?c ?k; (case l => k_is); (case c => k_is); (case k => k_is))
    (case a_lgcd => k_is)
    (case F_lgcd => refine' L2.fun_mk ?l ?c ?k; (case l => k_is); (case c => k_is); (case k => k_is))
    (case a_q => k_is)
    (case F_q => refine' L2.fun_mk ?l ?c ?k; (case l => k_is); (case c => k_is); (case k => k_is))
    (case a_lplus => k_is)
    (case F_lplus => refine' L2.fun_mk ?l ?c ?k; (case l => k_is); (case c => k_is); (case k => k_is))
    (case a_whole => k_is)
    (case F_whole => refine' L2.fun_mk ?l ?c ?k; (case l => k_is); (case c => k_is); (case k => k_is))
    (case a_lisrow => k_is)
    (case F_lisrow => refine' L2.fun_mk ?l ?c ?k; (case l => k_is); (case c => k_is); (case k => k_is))
    (case a_ldend => k_is)
    (case F_ldend => refine' L2.fun_mk ?l ?c ?k; (case l => k_is); (case c => k_is); (case k => k_is))
    (case a_letter => k_is)
    (case F_letter => refine' L2.fun_mk ?l ?c ?k; (case l => k_is); (case c => k_is); (case k => k_is))
    (case a_term => k_is)
    (case F_term => refine' L2.fun_mk ?l ?c ?k; (case l => k_is); (case c => k_is); (case k => k_is))
    (case a_due => k_is)
    (case F_due => refine' L2.fun_mk ?l ?c ?k; (case l => k_is); (case c => k_is); (case k => k_is))
    (case a_told => k_is)
    (case F_told => refine' L2.fun_mk ?l ?c ?k; (case l => k_is); (case c => k_is); (case k => k_is))
    (case a_dterm => k_is)
    (case F_dterm => refine' L2.fun_mk ?l ?c ?k; (case l => k_is); (case c => k_is); (case k => k_is))
    (case a_drawn => k_is)
    (case F_drawn => refine' L2.fun_mk ?l ?c ?k; (case l => k_is); (case c => k_is); (case k => k_is))
    (case a_long => k_is)
    (case F_long => refine' L2.fun_mk ?l ?c ?k; (case l => k_is); (case c => k_is); (case k => k_is))
    (case a_law => k_is)
    (case g_gcd => k_is)
    (case g_dig => k_is)
    (case g_most => k_is)
    (case g_pows => k_is)
    (case g_mp => k_is)
    (case g_B => k_is)
    (case i_B => k_is)
    (case t_B => k_is)
    (case IB => refine' L2.fun_mk ?l ?c ?k; (case l => k_is); (case c => k_is); (case k => k_is))
    (case nB_line => k_is)
    (case nB_column => k_is)
    (case g_L => k_is)
    (case i_L => k_is)
    (case t_L => k_is)
    (case IL => refine' L2.fun_mk ?l ?c ?k; (case l => k_is); (case c => k_is); (case k => k_is))
    (case nL_what => k_is)
    (case nL_number => k_is)
    (case nL_limit => k_is)
    (case z_int => k_is)
    (case z_list => k_is)
    (case z_len => k_is)
    (case z_range => k_is)
    (case z_str => k_is)
    (case z_isinstance => k_is)
    (case z_tuple => k_is)
    (case z_abs => k_is)
    (case z_bool => k_is)
    (case dg => k_is)
    (case ht => rfl)
    (case g_Q => k_is)
    (case i_Q => k_is)
    (case l_Q => k_is)
    (case c_Q => k_is)
    (case k_Q => k_is)
    (case l_T => k_is)
    (case l_t => k_is)
    (case kb => kernel_rfl)
    (case l_law => k_is)
    (case c_law => k_is)
    (case k_law => k_is)
