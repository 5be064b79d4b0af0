import PyProof.Rows.All
import Wide.All
import OpenK.AllK
import Wide.FinOn
import HandS.ForMost
import HandS.Codes
import HandS.IsInst
import HandS.Exc
import HandS.ExcInit
import HandS.ExcField
import HandS.ExcValue
import KE.KExcIs
import PySem.Challenge.RW_everyfoe_k03_errors
set_option Elab.async false
set_option maxRecDepth 100000
/-! The pen: a dict that every law draws from. -/
namespace Fk
open PySem L2
def top (i : Nat) : Stmt := PySem.Challenge.pw_everyfoe_k03_errors.main.body.getD i (.Pass ⟨0, 0, 0, 0⟩)
abbrev sPen : Stmt := top 22
abbrev sDraw : Stmt := top 23
abbrev sPick : Stmt := top 24
/-! ### the dict of a pen -/
theorem n_ca : ¬ (("cells" : Str) = "at") := by decide +kernel
theorem n_cd : ¬ (("cells" : Str) = "digits") := by decide +kernel
theorem n_cc : ¬ (("cells" : Str) = "count") := by decide +kernel
theorem n_cf : ¬ (("cells" : Str) = "fold") := by decide +kernel
theorem n_ac : ¬ (("at" : Str) = "cells") := by decide +kernel
theorem n_ad : ¬ (("at" : Str) = "digits") := by decide +kernel
theorem n_an : ¬ (("at" : Str) = "count") := by decide +kernel
theorem n_af : ¬ (("at" : Str) = "fold") := by decide +kernel
theorem n_dc : ¬ (("digits" : Str) = "cells") := by decide +kernel
theorem n_da : ¬ (("digits" : Str) = "at") := by decide +kernel
theorem n_dn : ¬ (("digits" : Str) = "count") := by decide +kernel
theorem n_df : ¬ (("digits" : Str) = "fold") := by decide +kernel
theorem n_nc : ¬ (("count" : Str) = "cells") := by decide +kernel
theorem n_na : ¬ (("count" : Str) = "at") := by decide +kernel
theorem n_nd : ¬ (("count" : Str) = "digits") := by decide +kernel
theorem n_nf : ¬ (("count" : Str) = "fold") := by decide +kernel
theorem n_fc : ¬ (("fold" : Str) = "cells") := by decide +kernel
theorem n_fa : ¬ (("fold" : Str) = "at") := by decide +kernel
theorem n_fd : ¬ (("fold" : Str) = "digits") := by decide +kernel
theorem n_fn : ¬ (("fold" : Str) = "count") := by decide +kernel
def penK (l : Addr) (a d c f : Int) : List (Key × V) := [(Sum.inr "cells", .ref l), (Sum.inr "at", .int a), (Sum.inr "digits", .int d), (Sum.inr "count", .int c), (Sum.inr "fold", .int f)]
section
variable {l : Addr} {a d c f y : Int} {H : Hp} {p : Addr}
theorem put_at : putK (penK l a d c f) (Sum.inr "at") (.int y) = penK l y d c f := by
  simp only [putK, penK, List.any_cons, List.map_cons, List.map_nil, Sum.inr.injEq, n_ca, n_da, n_na, n_fa, decide_true, decide_false, Bool.true_or, Bool.or_true, if_true, if_false]
theorem put_digits : putK (penK l a d c f) (Sum.inr "digits") (.int y) = penK l a y c f := by
  simp only [putK, penK, List.any_cons, List.map_cons, List.map_nil, Sum.inr.injEq, n_cd, n_ad, n_nd, n_fd, decide_true, decide_false, Bool.true_or, Bool.or_true, if_true, if_false]
theorem put_count : putK (penK l a d c f) (Sum.inr "count") (.int y) = penK l a d y f := by
  simp only [putK, penK, List.any_cons, List.map_cons, List.map_nil, Sum.inr.injEq, n_cc, n_an, n_dn, n_fn, decide_true, decide_false, Bool.true_or, Bool.or_true, if_true, if_false]
theorem put_fold : putK (penK l a d c f) (Sum.inr "fold") (.int y) = penK l a d c y := by
  simp only [putK, penK, List.any_cons, List.map_cons, List.map_nil, Sum.inr.injEq, n_cf, n_af, n_df, n_nf, decide_true, decide_false, Bool.true_or, Bool.or_true, if_true, if_false]
theorem put_new {kvs : List (Key × V)} {x : Str} {v : V} (h : ∀ kv ∈ kvs, ¬ kv.1 = Sum.inr x) : putK kvs (Sum.inr x) v = kvs ++ [(Sum.inr x, v)] := by
  unfold putK
  rw [if_neg]
  intro e
  rw [List.any_eq_true] at e
  obtain ⟨kv, hm, hd⟩ := e
  exact h kv hm (of_decide_eq_true hd)
theorem merge5 : mergeK [] (([(Sum.inr "cells", .ref l), (Sum.inr "at", .int a), (Sum.inr "digits", .int d), (Sum.inr "count", .int c), (Sum.inr "fold", .int f)] : List (Key × V))) = penK l a d c f := by
  show putK (putK (putK (putK (putK ([] : List (Key × V)) (Sum.inr "cells" : Key) (.ref l)) (Sum.inr "at" : Key) (.int a)) (Sum.inr "digits" : Key) (.int d)) (Sum.inr "count" : Key) (.int c)) (Sum.inr "fold" : Key) (.int f) = penK l a d c f
  simp only [putK, penK, List.any_nil, List.nil_append, List.any_cons, List.map_cons, List.map_nil, List.cons_append, Sum.inr.injEq, n_ca, n_cd, n_ad, n_cc, n_an, n_dn, n_cf, n_af, n_df, n_nf, decide_false, Bool.or_false, Bool.false_eq_true, if_false]
theorem val_cells : valV (penK l a d c f) (Sum.inr "cells") = some (.ref l) := valV_pos rfl
theorem val_at : valV (penK l a d c f) (Sum.inr "at") = some (.int a) := (valV_neg fun z => n_ca (Sum.inr.inj z)).trans (valV_pos rfl)
theorem val_digits : valV (penK l a d c f) (Sum.inr "digits") = some (.int d) := (valV_neg fun z => n_cd (Sum.inr.inj z)).trans ((valV_neg fun z => n_ad (Sum.inr.inj z)).trans (valV_pos rfl))
theorem val_count : valV (penK l a d c f) (Sum.inr "count") = some (.int c) := (valV_neg fun z => n_cc (Sum.inr.inj z)).trans ((valV_neg fun z => n_an (Sum.inr.inj z)).trans ((valV_neg fun z => n_dn (Sum.inr.inj z)).trans (valV_pos rfl)))
theorem val_fold : valV (penK l a d c f) (Sum.inr "fold") = some (.int f) := (valV_neg fun z => n_cf (Sum.inr.inj z)).trans ((valV_neg fun z => n_af (Sum.inr.inj z)).trans ((valV_neg fun z => n_df (Sum.inr.inj z)).trans ((valV_neg fun z => n_nf (Sum.inr.inj z)).trans (valV_pos rfl))))
theorem g_cells (h : H p = some (.dK (penK l a d c f))) : DGet H p (.str "cells") (some (.ref l)) := val_cells ▸ DGet.k (k := Sum.inr "cells") h
theorem g_at (h : H p = some (.dK (penK l a d c f))) : DGet H p (.str "at") (some (.int a)) := val_at ▸ DGet.k (k := Sum.inr "at") h
theorem g_digits (h : H p = some (.dK (penK l a d c f))) : DGet H p (.str "digits") (some (.int d)) := val_digits ▸ DGet.k (k := Sum.inr "digits") h
theorem g_count (h : H p = some (.dK (penK l a d c f))) : DGet H p (.str "count") (some (.int c)) := val_count ▸ DGet.k (k := Sum.inr "count") h
theorem g_fold (h : H p = some (.dK (penK l a d c f))) : DGet H p (.str "fold") (some (.int f)) := val_fold ▸ DGet.k (k := Sum.inr "fold") h
theorem len5 : (penK l a d c f).length < sizeLine := small1000 (by show 5 ≤ 1000; decide)
theorem p_at (h : H p = some (.dK (penK l a d c f))) : DPut H p (.str "at") (.int y) (upd H p (.dK (penK l y d c f))) := put_at ▸ DPut.k (k := Sum.inr "at") h len5
theorem p_digits (h : H p = some (.dK (penK l a d c f))) : DPut H p (.str "digits") (.int y) (upd H p (.dK (penK l a y c f))) := put_digits ▸ DPut.k (k := Sum.inr "digits") h len5
theorem p_count (h : H p = some (.dK (penK l a d c f))) : DPut H p (.str "count") (.int y) (upd H p (.dK (penK l a d y f))) := put_count ▸ DPut.k (k := Sum.inr "count") h len5
theorem p_fold (h : H p = some (.dK (penK l a d c f))) : DPut H p (.str "fold") (.int y) (upd H p (.dK (penK l a d c y))) := put_fold ▸ DPut.k (k := Sum.inr "fold") h len5
end
/-- a pen stands at p, c draws were made -/
structure PenAt (H : Hp) (p l : Addr) (c : Int) : Prop where
  ex : ∃ (a d f : Int) (ns : List Int), H p = some (.dK (penK l a d c f)) ∧ H l = some (.lst (ns.map V.int)) ∧ 0 ≤ a ∧ 0 ≤ d ∧ 0 ≤ f ∧ f < 2147483648 ∧ ns.length ≤ 63
  lo : 0 ≤ c
/-- all but what stands at p is as it was -/
def Keep (p : Addr) (H H' : Hp) : Prop := ∀ b o, b ≠ p → H b = some o → H' b = some o
theorem Keep.refl (p : Addr) (H : Hp) : Keep p H H := fun _ _ _ e => e
theorem Keep.trans {p : Addr} {H H1 H2 : Hp} (a : Keep p H H1) (b : Keep p H1 H2) : Keep p H H2 := fun c o n e => b c o n (a c o n e)
theorem Keep.upd {p : Addr} {H : Hp} {o : HO} : Keep p H (upd H p o) := fun b x n e => by
  rw [upd_ne n]
  exact e
theorem Keep.new {p q : Addr} {H : Hp} {o : HO} (h : H q = none) : Keep p H (L2.upd H q o) := fun b x n e => by
  rw [upd_ne (ne_of_none e h)]
  exact e
theorem same_new {H : Hp} {q : Addr} {o : HO} (h : H q = none) : Same H (upd H q o) := fun b x e => by
  rw [upd_ne (ne_of_none e h)]
  exact e
theorem Same.keep {p : Addr} {H H' : Hp} (a : Same H H') : Keep p H H' := fun b o _ e => a b o e
theorem Keep.there {p b : Addr} {H H' : Hp} {o u : HO} (k : Keep p H H') (hp : H p = some u) (h : H b = some o) (d : o ≠ u) : H' b = some o := k b o (fun e => d (by rw [e] at h; exact Option.some.inj (h.symm.trans hp))) h
/-- a pen at p stays where something else is written -/
theorem PenAt.upd {H : Hp} {p l q : Addr} {c : Int} {o : HO} (P : PenAt H p l c) (n : H q = none) : PenAt (L2.upd H q o) p l c := by
  obtain ⟨⟨a, d, f, ns, h1, h2, r⟩, lo⟩ := P
  exact ⟨⟨a, d, f, ns, same_new n _ _ h1, same_new n _ _ h2, r⟩, lo⟩
theorem at_ints {ns : List Int} {i : Nat} {z : Int} (h : ns[i]? = some z) : atI (ns.map V.int) (i : Int) = some (.int z) := atI_nat (by rw [List.getElem?_map, h] <;> rfl)
/-! ### the promises -/
def spPen (K : PySem.W.Frag) : Sp := fun vs H Q _ => ∃ (a : Addr) (ns : List Int), vs = [.ref a] ∧ SqL K H a (ns.map V.int) ∧ ns.length ≤ 63 ∧ ∀ p l H', Same H H' → H p = none → H l = none → PenAt H' p l 0 → Q (.ref p) H'
def spDraw : Sp := fun vs H Q _ => ∃ (p l : Addr) (c many : Int), vs = [.ref p, .int many] ∧ PenAt H p l c ∧ c < 1000000000 ∧ 0 < many ∧ many < 1073741824 ∧
  ∀ (r : Int) (H' : Hp), 0 ≤ r → r < many → PenAt H' p l (c + 1) → Keep p H H' → Q (.int r) H'
def spPick : Sp := fun vs H Q _ => ∃ (p l q : Addr) (c : Int) (xs : List V), vs = [.ref p, .ref q] ∧ PenAt H p l c ∧ c < 1000000000 ∧ H q = some (.lst xs) ∧ 0 < xs.length ∧ xs.length ≤ 1000 ∧
  ∀ (i : Nat) (x : V) (H' : Hp), xs[i]? = some x → PenAt H' p l (c + 1) → Keep p H H' → Q x H'
section
variable {P : Program} {w : World} {K : PySem.W.Frag} {mg : Str → Option Value} {base : Heap}
theorem scPen : FnScope ["_law_script", "_law_fold", "_law_cell"] ["_law_script"] (defScope sPen) := ⟨rfl, rfl, rfl, by decide +kernel, rfl, by decide +kernel, by decide +kernel⟩
theorem ok_pen {k : Nat} {f : Addr} {fd : FuncData} (F : Fun K "_law_pen" "_law_pen" sPen f fd) (mi : mg "int" = none) (ml : mg "list" = none) : FnOk P w K mg base CX0 (k + 1) f fd ["_law_script"] (spPen K) := by
  refine F.ok scPen (fun vs H Q E h => ?_) (fun cdv A outer s H vs Q E hr h => ?_)
  · obtain ⟨a, ns, rfl, _⟩ := h
    rfl
  · obtain ⟨a, ns, rfl, hS, hl, k⟩ := h
    refine ⟨_, pss_cons (ps_set (i := 1) scPen.nd rfl (Or.inl rfl) pe_int)
      (pss_cons (ps_for PassesOwn.never rfl (pi_list (pv 0)) (pg_name (i := 2) scPen.nd rfl (Or.inl rfl))
        (pss_one (ps_set (i := 1) scPen.nd rfl (Or.inl rfl) (pe_op op_mod (pe_callTy call_int1 (by rfl) mi (by decide +kernel) (pa_cons (pe_op op_add (pe_op op_mul (pv 1) pe_int) (pv 2)) pa_nil)) pe_int))))
      (pss_one (ps_ret (pe_disp (pps_cons pe_str (pe_callTy call_list_of (by rfl) ml (by decide +kernel) (pa_cons (pv 0) pa_nil)) (pps_cons pe_str pe_int (pps_cons pe_str pe_int (pps_cons pe_str pe_int (pps_cons pe_str (pv 1) pps_nil))))) (by rfl) (by rfl) (fun z => by cases z) (by decide))))), ?_⟩
    refine ⟨_, rfl, a, rfl, ⟨_, hS⟩, for_list (K := K) (a := a) (xs := ns.map V.int) (fun i σ H2 => ∃ (z : Int) (v : Option V), σ = [some (.ref a), some (.int z), v] ∧ H2 = H ∧ 0 ≤ z ∧ z < 1000000007)
      ⟨0, none, rfl, rfl, by decide, by decide⟩ (fun i σ H2 _ ⟨_, _, _, e, _⟩ => e ▸ hS) ?_ ?_⟩
    · rintro i y σ H2 hi ⟨z, v, rfl, rfl, z0, z1⟩
      obtain ⟨n, rfl⟩ : ∃ n, y = V.int n := by
        rw [List.getElem?_map] at hi
        cases e : ns[i]? with
        | none =>
          rw [e] at hi
          cases hi
        | some n =>
          rw [e] at hi
          exact ⟨n, (Option.some.inj hi).symm⟩
      refine ⟨_, rfl, _, _, rfl, rfl, Or.inr ⟨by decide, by decide⟩, _, rfl, _, _, rfl, rfl, Or.inl ⟨_, rfl, _, _, rfl, rfl, (by show (0 : Int) < 1000000007; decide), ?_⟩⟩
      exact ⟨_, _, rfl, rfl, Int.emod_nonneg _ (by decide), Int.emod_lt_of_pos _ (by decide)⟩
    · rintro σ H2 ⟨z, v, rfl, rfl, z0, z1⟩
      intro p hp
      refine ⟨_, rfl, a, _, rfl, Or.inl ((same_new hp).seq hS), fun l hl' => ?_⟩
      have lp : p ≠ l := ne_of_none upd_same hl'
      refine ⟨_, rfl, ?_, [(Sum.inr "cells", .ref l), (Sum.inr "at", .int 0), (Sum.inr "digits", .int 0), (Sum.inr "count", .int 0), (Sum.inr "fold", .int z)], rfl, by show 5 ≤ 15; decide, ?_⟩
      · rw [upd_ne lp, upd_same]
      · have nl : H2 l = none := by
          rw [upd_ne lp.symm] at hl'
          exact hl'
        refine k p l _ (fun b o e => ?_) hp nl ⟨⟨0, 0, z, ns, ?_, ?_, by decide, by decide, z0, by omega, hl⟩, by decide⟩
        · rw [upd_ne (ne_of_none e hp), upd_ne (ne_of_none e nl), upd_ne (ne_of_none e hp)]
          exact e
        · rw [upd_same, merge5]
        · rw [upd_ne lp.symm, upd_same]
theorem scDraw : FnScope ["_law_pen_here", "_law_many", "_law_cell", "_law_digit", "_law_blend"] ["_law_pen_here", "_law_many"] (defScope sDraw) := ⟨rfl, rfl, rfl, by decide +kernel, rfl, by decide +kernel, by decide +kernel⟩
theorem ok_draw {k : Nat} {f : Addr} {fd : FuncData} (F : Fun K "_law_draw" "_law_draw" sDraw f fd) (mi : mg "int" = none) (ml : mg "len" = none) : FnOk P w K mg base CX0 (k + 1) f fd ["_law_pen_here", "_law_many"] spDraw := by
  refine F.ok scDraw (fun vs H Q E h => ?_) (fun cdv A outer s H vs Q E hr h => ?_)
  · obtain ⟨p, l, c, many, rfl, _⟩ := h
    rfl
  · obtain ⟨p, l, c, many, rfl, ⟨⟨a, d, fo, ns, hp, hl, a0, d0, f0, f1, hn⟩, c0⟩, c1, m0, m1, k⟩ := h
    have hu := hu_of hr
    refine ⟨_, pss_cons (ps_dput hu (pv 0) pe_str (pe_op op_add (pe_dget hu (pv 0) pe_str (fun _ _ => rfl)) pe_int) rfl)
      (C8.pss_cut (ps_if (PW.pt (pw_and (pt_cmpR op_eq (pe_dget hu (pv 0) pe_str (fun _ _ => rfl)) pe_int (nomark _)) (pw_and1 (pt_cmpR op_lt (pe_dget hu (pv 0) pe_str (fun _ _ => rfl)) (pe_callB call_len_seq (by rfl) ml PySem.boot_len (pa_cons (pe_dget hu (pv 0) pe_str (fun _ _ => rfl)) pa_nil)) (nomark _)))))
          (pss_cons (ps_set (i := 2) scDraw.nd rfl (Or.inl rfl) (pe_ix ix_list (pe_dget hu (pv 0) pe_str (fun _ _ => rfl)) (pe_dget hu (pv 0) pe_str (fun _ _ => rfl)) (fun _ _ => rfl)))
          (pss_cons (ps_dput hu (pv 0) pe_str (pe_op op_add (pe_dget hu (pv 0) pe_str (fun _ _ => rfl)) pe_int) rfl)
          (pss_one (ps_if (pt_cmpR op_ge (pv 2) (pe_op op_pow pe_int pe_int) (nomark _))
            (pss_one (ps_dput hu (pv 0) pe_str (pe_op op_sub (pv 2) (pe_op op_pow pe_int pe_int)) rfl))
            (pss_one (ps_dput hu (pv 0) pe_str (pe_op op_mod (pe_callTy call_int1 (by rfl) mi (by decide +kernel) (pa_cons (pe_op op_add (pe_op op_mul (pe_dget hu (pv 0) pe_str (fun _ _ => rfl)) pe_int) (pv 2)) pa_nil)) pe_int) rfl)))))) pss_nil)
      (pss_cons (ps_if (pt_cmpR op_gt (pe_dget hu (pv 0) pe_str (fun _ _ => rfl)) pe_int (nomark _))
          (pss_cons (ps_set (i := 3) scDraw.nd rfl (Or.inl rfl) (pe_op op_modN (pe_callTy call_int1 (by rfl) mi (by decide +kernel) (pa_cons (pe_dget hu (pv 0) pe_str (fun _ _ => rfl)) pa_nil)) (pv 1)))
          (pss_cons (ps_dput hu (pv 0) pe_str (pe_op op_fdivN (pe_dget hu (pv 0) pe_str (fun _ _ => rfl)) (pv 1)) rfl)
          (pss_one (ps_ret (pv 3))))) pss_nil)
      (pss_cons (ps_set (i := 4) scDraw.nd rfl (Or.inl rfl) (pe_op op_add (pe_op op_add (pe_dget hu (pv 0) pe_str (fun _ _ => rfl)) (pe_op op_mul (pe_dget hu (pv 0) pe_str (fun _ _ => rfl)) pe_int)) pe_int))
      (pss_one (ps_ret (pe_op op_modN (pe_op op_fdiv (pe_callTy call_int1 (by rfl) mi (by decide +kernel) (pa_cons (pe_op op_mod (pe_op op_pow (pv 4) pe_int) pe_int) pa_nil)) pe_int) (pv 1))))))), ?_⟩
    refine ⟨_, rfl, p, .int c, rfl, g_count hp, _, _, rfl, rfl, _, rfl, p, _, rfl, p_count hp, ?_⟩
    have lp : l ≠ p := ne_of hl hp (by intro z; cases z)
    refine ⟨fun σ' H' => ∃ (v2 : Option V) (a' d' f' : Int), σ' = [some (.ref p), some (.int many), v2, none, none] ∧ H' p = some (.dK (penK l a' d' (c + 1) f')) ∧ Keep p H H' ∧ 0 ≤ a' ∧ 0 ≤ d' ∧ 0 ≤ f' ∧ f' < 2147483648, ?_, ?_⟩
    · refine ⟨_, rfl, p, .int d, rfl, g_digits upd_same, rfl, _, rfl, ?_⟩
      refine ite2 (fun hd => ?_) (fun hd => ?_)
      · have hl1 : (upd H p (.dK (penK l a d (c + 1) fo))) l = some (.lst (ns.map V.int)) := by
          rw [upd_ne lp]
          exact hl
        refine ⟨_, rfl, p, .int a, rfl, g_at upd_same, _, rfl, p, .ref l, rfl, g_cells upd_same, l, _, rfl, Or.inl (SqL.of hl1), _, _, rfl, rfl, _, rfl, ?_⟩
        refine ite2 (fun ha => ?_) (fun ha => ?_)
        · have ha' : a < (ns.length : Int) := by
            have e := of_decide_eq_true ha
            rw [List.length_map] at e
            exact e
          obtain ⟨z, hz⟩ : ∃ z, ns[a.toNat]? = some z := ⟨ns[a.toNat]'(by omega), List.getElem?_eq_getElem _⟩
          refine ⟨_, rfl, p, .ref l, rfl, g_cells upd_same, _, rfl, p, .int a, rfl, g_at upd_same, l, _, a, .int z, rfl, rfl, SqL.of hl1, ?_, ?_⟩
          · have e := at_ints (ns := ns) hz
            rw [show ((a.toNat : Nat) : Int) = a by omega] at e
            exact e
          refine ⟨_, rfl, p, .int a, rfl, g_at upd_same, _, _, rfl, rfl, _, rfl, p, _, rfl, p_at upd_same, ?_⟩
          refine ⟨_, rfl, 10, 18, rfl, rfl, ⟨by decide, by decide, by decide⟩, _, _, rfl, rfl, _, rfl, ?_⟩
          have e18 : (10 : Int) ^ (18 : Int).toNat = 1000000000000000000 := by decide
          refine ite2 (fun hz => ?_) (fun hz => ?_)
          · have hz' := of_decide_eq_true hz
            rw [e18] at hz'
            refine ⟨_, rfl, 10, 18, rfl, rfl, ⟨by decide, by decide, by decide⟩, _, _, rfl, rfl, _, rfl, p, _, rfl, p_digits upd_same, _, _, _, _, rfl, upd_same, (Keep.upd.trans Keep.upd).trans Keep.upd, by omega, ?_, f0, f1⟩
            rw [e18]
            omega
          · refine ⟨_, rfl, p, .int fo, rfl, g_fold upd_same, _, _, rfl, rfl, Or.inr ⟨by decide, by decide⟩, _, rfl, _, _, rfl, rfl, Or.inl ⟨_, rfl, _, _, rfl, rfl, (by show (0 : Int) < 2147483587; decide), _, rfl, p, _, rfl, p_fold upd_same, ?_⟩⟩
            have e1 := Int.emod_nonneg (fo * 69069 + z) (show (2147483587 : Int) ≠ 0 by decide)
            have e2 := Int.emod_lt_of_pos (fo * 69069 + z) (show (0 : Int) < 2147483587 by decide)
            exact ⟨_, _, _, _, rfl, upd_same, (Keep.upd.trans Keep.upd).trans Keep.upd, by omega, d0, e1, by omega⟩
        · exact ⟨_, _, _, _, rfl, upd_same, Keep.upd, a0, d0, f0, f1⟩
      · exact ⟨_, _, _, _, rfl, upd_same, Keep.upd, a0, d0, f0, f1⟩
    · rintro σ' H2 ⟨v2, a', d', f', rfl, hp2, k2, a0', d0', f0', f1'⟩
      have hl2 : H2 l = some (.lst (ns.map V.int)) := k2 l _ lp hl
      refine ⟨_, rfl, p, .int d', rfl, g_digits hp2, _, _, rfl, rfl, _, rfl, ?_⟩
      refine ite2 (fun hd => ?_) (fun hd => ?_)
      · have hd' := of_decide_eq_true hd
        refine ⟨_, rfl, p, .int d', rfl, g_digits hp2, Or.inl ⟨_, rfl, _, rfl, _, _, rfl, rfl, by omega, ?_⟩⟩
        refine ⟨_, rfl, p, .int d', rfl, g_digits hp2, _, rfl, _, _, rfl, rfl, ⟨by omega, by omega⟩, _, rfl, p, _, rfl, p_digits hp2, _, rfl, ?_⟩
        have em : d'.fmod many = d' % many := Int.fmod_eq_emod_of_nonneg _ (by omega)
        have ed : d'.fdiv many = d' / many := Int.fdiv_eq_ediv_of_nonneg _ (by omega)
        refine k _ _ (by rw [em]; exact Int.emod_nonneg _ (by omega)) (by rw [em]; exact Int.emod_lt_of_pos _ m0) ⟨⟨a', _, f', ns, upd_same, by rw [upd_ne lp]; exact hl2, a0', by rw [ed]; exact Int.ediv_nonneg d0' (by omega), f0', f1', hn⟩, by omega⟩ (k2.trans Keep.upd)
      · refine ⟨_, rfl, p, .int f', rfl, g_fold hp2, _, rfl, p, .int (c + 1), rfl, g_count hp2, _, _, rfl, rfl, Or.inr ⟨by decide, by decide⟩, _, _, rfl, rfl, _, _, rfl, rfl, ?_⟩
        refine ⟨_, rfl, _, 17, rfl, rfl, ⟨by decide, by decide, by omega⟩, _, _, rfl, rfl, (by show (0 : Int) < 2305843009213693951; decide), Or.inl ⟨_, rfl, _, _, rfl, rfl, ⟨by decide, by decide⟩, _, rfl, _, _, rfl, rfl, by omega, ?_⟩⟩
        have em : ∀ z : Int, z.fmod many = z % many := fun z => Int.fmod_eq_emod_of_nonneg _ (by omega)
        exact k _ _ (by rw [em]; exact Int.emod_nonneg _ (by omega)) (by rw [em]; exact Int.emod_lt_of_pos _ m0) ⟨⟨a', d', f', ns, hp2, hl2, a0', d0', f0', f1', hn⟩, by omega⟩ k2
/-- a def that may be called: its promise, its name, how it binds -/
structure Cl (P : Program) (w : World) (K : PySem.W.Frag) (mg : Str → Option Value) (base : Heap) (x : Str) (ps : List Str) (k : Nat) (sp : Sp) (f : Addr) (fd : FuncData) : Prop where
  G : FnOk P w K mg base CX0 k f fd ps sp
  g : mg x = some (.ref f)
  kp : PySem.W.keepIn K (.ref f) = true
  b : Binds K fd ps []
abbrev psDraw : List Str := ["_law_pen_here", "_law_many"]
abbrev psPick : List Str := ["_law_pen_here", "_law_some"]
theorem scPick : FnScope ["_law_pen_here", "_law_some"] ["_law_pen_here", "_law_some"] (defScope sPick) := ⟨rfl, rfl, rfl, by decide +kernel, rfl, by decide +kernel, by decide +kernel⟩
theorem ok_pick {f fD : Addr} {fd fdD : FuncData} (F : Fun K "_law_pick" "_law_pick" sPick f fd) (ml : mg "len" = none) (D : Cl P w K mg base "_law_draw" psDraw 1 spDraw fD fdD) : FnOk P w K mg base CX0 2 f fd psPick spPick := by
  refine F.ok scPick (fun vs H Q E h => ?_) (fun cdv A outer s H vs Q E hr h => ?_)
  · obtain ⟨p, l, q, c, xs, rfl, _⟩ := h
    rfl
  · obtain ⟨p, l, q, c, xs, rfl, hp, c1, hq, x0, x1, k⟩ := h
    refine ⟨_, pss_one (ps_ret (pe_ix ix_list (pv 1) (pe_call D.G hr (by rfl) D.g D.kp D.b .nil pass0 (pa_cons (pv 0) (pa_cons (pe_callB call_len_seq (by rfl) ml PySem.boot_len (pa_cons (pv 1) pa_nil)) pa_nil))) (fun _ _ => rfl))), ?_⟩
    refine ⟨_, rfl, _, rfl, _, rfl, q, xs, rfl, Or.inl (SqL.of hq), p, l, c, (xs.length : Int), rfl, hp, c1, by omega, by omega, fun r H' r0 r1 P' k' => ?_⟩
    have qp : q ≠ p := by
      obtain ⟨⟨a, d, fo, ns, hp', _⟩, _⟩ := hp
      exact ne_of hq hp' (by intro z; cases z)
    have hr2 : r.toNat < xs.length := by omega
    have hx : xs[r.toNat]? = some (xs[r.toNat]'hr2) := List.getElem?_eq_getElem hr2
    refine ⟨q, xs, r, xs[r.toNat]'hr2, rfl, rfl, SqL.of (k' q _ qp hq), ?_, k _ _ H' hx P' k'⟩
    have e := atI_nat hx
    rw [show ((r.toNat : Nat) : Int) = r by omega] at e
    exact e
end
end Fk

namespace Fk
open PySem L2
abbrev sBig : Stmt := top 25
abbrev sName : Stmt := top 26
/-! ### a number of at most so many figures -/
theorem digits_lt : ∀ (cs : List Nat) (a : Nat), NumText.AllDigits cs → cs.foldl (fun acc c => acc * 10 + (c - 48)) a < (a + 1) * 10 ^ cs.length
  | [], a, _ => by simp
  | c :: cs, a, h => by
    have hc := h.head
    have ih := digits_lt cs (a * 10 + (c - 48)) h.tail
    rw [List.foldl_cons]
    refine Nat.lt_of_lt_of_le ih ?_
    rw [List.length_cons, Nat.pow_succ, Nat.mul_comm (10 ^ cs.length) 10, ← Nat.mul_assoc]
    exact Nat.mul_le_mul_right _ (by omega)
theorem digitsVal_lt {cs : List Nat} (h : NumText.AllDigits cs) : NumText.digitsVal cs < 10 ^ cs.length := by
  have z := digits_lt cs 0 h
  rw [Nat.zero_add, Nat.one_mul] at z
  exact z
/-- the last figures of a number, read as a number -/
theorem tail_int (n f : Nat) (hf : 0 < f) (hl : (TL.numL n).length ≤ 640) : ∃ r : Nat, PySem.intText? (cutS (Str.ofString (toString ((n : Nat) : Int))) (some (-(f : Int))) none) = some (r : Int) ∧ r < 10 ^ f := by
  have et : (Str.ofString (toString ((n : Nat) : Int))).cps.toList = TL.numL n := TL.tl_num n
  have el : (Str.ofString (toString ((n : Nat) : Int))).length = (TL.numL n).length := by rw [← et] <;> rfl
  have ne := TL.numL_ne n
  have pos : 0 < (TL.numL n).length := List.length_pos_iff.mpr ne
  have ei : HT.sIx (TL.numL n).length 0 (some (-(f : Int))) = (TL.numL n).length - f := by
    show (if (-(f : Int)) < 0 then ((-(f : Int)) + ((TL.numL n).length : Int)).toNat else _) = _
    rw [if_pos (by omega)]
    omega
  have ec : (cutS (Str.ofString (toString ((n : Nat) : Int))) (some (-(f : Int))) none).cps.toList = (TL.numL n).drop ((TL.numL n).length - f) := by
    unfold cutS
    rw [et, el, HT.sIx_none, ei, List.toList_toArray, List.take_of_length_le]
    rw [List.length_drop]
    exact Nat.le_refl _
  have ad : NumText.AllDigits ((TL.numL n).drop ((TL.numL n).length - f)) := fun c hc => TL.numL_digits n c (List.mem_of_mem_drop hc)
  have ll : ((TL.numL n).drop ((TL.numL n).length - f)).length ≤ f := by
    rw [List.length_drop]
    omega
  refine ⟨NumText.digitsVal ((TL.numL n).drop ((TL.numL n).length - f)), ?_, Nat.lt_of_lt_of_le (digitsVal_lt ad) (Nat.pow_le_pow_right (by decide) ll)⟩
  rw [← ec]
  refine intText_digits (by rw [ec]; exact ad) (by rw [ec]; exact fun z => by have := congrArg List.length z; rw [List.length_drop] at this; simp at this; omega) ?_
  exact Nat.le_trans (cutS_length _ _ _) (by rw [el]; omega)
def spBig : Sp := fun vs H Q _ => ∃ (p l : Addr) (c fg : Int), vs = [.ref p, .int fg] ∧ PenAt H p l c ∧ c < 900000000 ∧ 1 ≤ fg ∧ fg ≤ 60 ∧
  ∀ (r c' : Int) (H' : Hp), 0 ≤ r → r < 10 ^ fg.toNat → c ≤ c' → c' ≤ c + 30 → PenAt H' p l c' → Keep p H H' → Q (.int r) H'
section
variable {P : Program} {w : World} {K : PySem.W.Frag} {mg : Str → Option Value} {base : Heap}
abbrev psBig : List Str := ["_law_pen_here", "_law_figures"]
theorem scBig : FnScope ["_law_pen_here", "_law_figures", "_law_total", "_law_k"] psBig (defScope sBig) := ⟨rfl, rfl, rfl, by decide +kernel, rfl, by decide +kernel, by decide +kernel⟩
theorem ok_big {f fD fP : Addr} {fd fdD fdP : FuncData} (F : Fun K "_law_big" "_law_big" sBig f fd) (mr : mg "range" = none) (mi : mg "int" = none) (ms : mg "str" = none)
    (D : Cl P w K mg base "_law_draw" psDraw 1 spDraw fD fdD) (C : Cl P w K mg base "_law_pick" psPick 2 spPick fP fdP) : FnOk P w K mg base CX0 3 f fd psBig spBig := by
  refine F.ok scBig (fun vs H Q E h => ?_) (fun cdv A outer s H vs Q E hr h => ?_)
  · obtain ⟨p, l, c, fg, rfl, _⟩ := h
    rfl
  · obtain ⟨p, l, c, fg, rfl, hp, c1, f1, f2, k⟩ := h
    refine ⟨_, pss_cons (ps_set (i := 2) scBig.nd rfl (Or.inl rfl) pe_int)
      (pss_cons (ps_for PassesOwn.never rfl (pi_range1 (by rfl) mr (pa_cons (pe_call C.G hr (by rfl) C.g C.kp C.b .nil pass0 (pa_cons (pv 0) (pa_cons (pe_lst (pa_cons pe_int (pa_cons pe_int (pa_cons pe_int (pa_cons pe_int (pa_cons pe_int (pa_cons (pe_op op_fdiv (pe_op op_add (pv 1) pe_int) pe_int) pa_nil))))))) pa_nil))) pa_nil)) (pg_name (i := 3) scBig.nd rfl (Or.inl rfl))
        (pss_one (ps_set (i := 2) scBig.nd rfl (Or.inl rfl) (pe_op op_add (pe_op op_mul (pv 2) pe_int) (pe_call D.G (hr.mono (by decide)) (by rfl) D.g D.kp D.b .nil pass0 (pa_cons (pv 0) (pa_cons pe_int pa_nil)))))))
      (pss_one (ps_ret (pe_callTy call_int_str (by rfl) mi (by decide +kernel) (pa_cons (pe_slice sl_str (pe_callTy call_str_int (by rfl) ms (by decide +kernel) (pa_cons (pv 2) pa_nil)) (po_some (pe_un un_neg (pv 1))) po_none) pa_nil))))), ?_⟩
    refine ⟨_, rfl, _, rfl, _, _, rfl, rfl, _, _, rfl, rfl, ⟨by decide, by decide⟩, ?_⟩
    refine ⟨by show 6 ≤ sizeLine; decide, fun q hq => ?_⟩
    refine ⟨p, l, q, c, _, rfl, hp.upd hq, by omega, upd_same, by show 0 < 6; decide, by show 6 ≤ 1000; decide, fun i x H1 hx P1 k1 => ?_⟩
    obtain ⟨n, rfl, n0, n1⟩ : ∃ n : Int, x = .int n ∧ 1 ≤ n ∧ n ≤ 20 := by
      have hm := List.mem_of_getElem? hx
      simp only [List.mem_cons, List.not_mem_nil, or_false] at hm
      rcases hm with e | e | e | e | e | e
      · exact ⟨1, e, by decide, by decide⟩
      · exact ⟨1, e, by decide, by decide⟩
      · exact ⟨1, e, by decide, by decide⟩
      · exact ⟨2, e, by decide, by decide⟩
      · exact ⟨3, e, by decide, by decide⟩
      · exact ⟨(fg + 2) / 3, e, by omega, by omega⟩
    refine ⟨n, rfl, by omega, by omega, ?_⟩
    refine for_range (lo := 0) (n := n.toNat) (fun i σ H2 => ∃ (t c' : Int) (v : Option V), σ = [some (.ref p), some (.int fg), some (.int t), v] ∧ 0 ≤ t ∧ t < 1000 ^ i ∧ c ≤ c' ∧ c' ≤ c + 1 + i ∧ PenAt H2 p l c' ∧ Keep p H H2)
      ⟨0, c + 1, none, rfl, by decide, by decide, by omega, by omega, P1, (Keep.new hq).trans k1⟩ ?_ ?_
    · rintro i σ H2 hi ⟨t, c', v, rfl, t0, t1, c2, c3, P2, k2⟩
      refine ⟨_, rfl, _, _, rfl, rfl, Or.inr ⟨by decide, by decide⟩, _, rfl, p, l, c', 1000, rfl, P2, by omega, by decide, by decide, fun r H3 r0 r1 P3 k3 => ?_⟩
      refine ⟨_, _, rfl, rfl, _, c' + 1, _, rfl, by omega, ?_, by omega, by omega, P3, k2.trans k3⟩
      rw [Int.pow_succ]
      omega
    · rintro σ H2 ⟨t, c', v, rfl, t0, t1, c2, c3, P2, k2⟩
      obtain ⟨m, rfl⟩ : ∃ m : Nat, t = (m : Int) := ⟨t.toNat, by omega⟩
      obtain ⟨g, rfl⟩ : ∃ g : Nat, fg = (g : Int) := ⟨fg.toNat, by omega⟩
      have m60 : m < 10 ^ 60 := by
        have e1 : (1000 : Int) ^ n.toNat = ((1000 ^ n.toNat : Nat) : Int) := by simp
        rw [e1] at t1
        have e2 : 1000 ^ n.toNat ≤ 1000 ^ 20 := Nat.pow_le_pow_right (by decide) (by omega)
        have e3 : (1000 : Nat) ^ 20 = 10 ^ 60 := by decide
        omega
      have hlog : (m : Int).natAbs.log2 < 1920 := by
        rw [Int.natAbs_natCast]
        by_cases hm : m = 0
        · rw [hm]
          decide
        · exact Nat.lt_of_lt_of_le ((Nat.log2_lt hm).mpr (Nat.lt_trans m60 (show (10 : Nat) ^ 60 < 2 ^ 200 by decide))) (by decide)
      have l60 : (TL.numL m).length ≤ 60 := TL.numL_len (by decide) m60
      obtain ⟨r, hr1, hr2⟩ := tail_int m g (by omega) (by omega)
      have el : (Str.ofString (toString (m : Int))).length = (TL.numL m).length := by
        rw [← TL.tl_num m]
        rfl
      refine ⟨_, rfl, _, rfl, hlog, _, rfl, _, rfl, _, rfl, _, rfl, Nat.le_of_lt (small1000 (by omega)), _, (r : Int), rfl, hr1, Nat.le_trans (cutS_length _ _ _) (by omega), ?_⟩
      refine k _ c' H2 (by omega) ?_ c2 (by omega) P2 k2
      rw [Int.toNat_natCast]
      have e : ((10 : Int) ^ g) = ((10 ^ g : Nat) : Int) := by simp
      rw [e]
      exact Int.ofNat_lt.mpr hr2
end
end Fk

namespace Fk
open PySem L2
/-! ### a drawn name -/
def Plain (z : Str) : Prop := ∀ c ∈ z.cps.toList, c < 128
theorem plain_app {y z : Str} (h1 : Plain y) (h2 : Plain z) : Plain (y ++ z) := fun c hc => by
  have e : (y ++ z).cps.toList = y.cps.toList ++ z.cps.toList := TL.tl_append y z
  rw [e, List.mem_append] at hc
  rcases hc with hc | hc
  · exact h1 c hc
  · exact h2 c hc
theorem len_app (y z : Str) : (y ++ z).length = y.length + z.length := by
  have e : (y ++ z).cps.toList = y.cps.toList ++ z.cps.toList := TL.tl_append y z
  have f : ∀ x : Str, x.length = x.cps.toList.length := fun x => Array.length_toList.symm
  rw [f, f y, f z, e, List.length_append]
def signs : Str := "abcdefghijklmnopqrstuvwxyz0123456789"
theorem signs_len : signs.cps.toList.length = 36 := by decide +kernel
theorem signs_plain : Plain signs := by
  have h : signs.cps.toList.all (fun c => decide (c < 128)) = true := by decide +kernel
  intro c hc
  exact of_decide_eq_true (List.all_eq_true.mp h c hc)
theorem sign_at {r : Int} (h0 : 0 ≤ r) (h1 : r < 36) : ∃ c, atI signs.cps.toList r = some c ∧ c < 128 := by
  have hl : r.toNat < signs.cps.toList.length := by
    rw [signs_len]
    omega
  refine ⟨signs.cps.toList[r.toNat]'hl, ?_, signs_plain _ (List.getElem_mem hl)⟩
  have e := atI_nat (List.getElem?_eq_getElem hl)
  rw [show ((r.toNat : Nat) : Int) = r by omega] at e
  exact e
theorem plain_one {c : Nat} (h : c < 128) : Plain (⟨#[c]⟩ : Str) := fun d hd => by
  rw [List.mem_singleton.mp hd]
  exact h
/-- all but what stands at p and u is as it was -/
def Keep2 (p u : Addr) (H H' : Hp) : Prop := ∀ b o, b ≠ p → b ≠ u → H b = some o → H' b = some o
def spName0 : Sp := fun vs H Q _ => ∃ (p l u : Addr) (c : Int), vs = [.ref p, .ref u] ∧ PenAt H p l c ∧ c < 900000000 ∧ H u = some (.lst []) ∧ l ≠ u ∧
  ∀ (z : Str) (c' : Int) (H' : Hp), Plain z → z.length ≤ 8 → c ≤ c' → c' ≤ c + 30 → PenAt H' p l c' → Keep2 p u H H' → Q (.str z) H'
section
variable {P : Program} {w : World} {K : PySem.W.Frag} {mg : Str → Option Value} {base : Heap}
abbrev psName : List Str := ["_law_pen_here", "_law_used"]
theorem scName : FnScope ["_law_pen_here", "_law_used", "_law_signs", "_law_name_here", "_law_k"] psName (defScope sName) := ⟨rfl, rfl, rfl, by decide +kernel, rfl, by decide +kernel, by decide +kernel⟩
theorem ok_name {f fD fP : Addr} {fd fdD fdP : FuncData} (F : Fun K "_law_name" "_law_name" sName f fd) (mr : mg "range" = none) (ml : mg "len" = none) (ms : mg "str" = none)
    (D : Cl P w K mg base "_law_draw" psDraw 1 spDraw fD fdD) (C : Cl P w K mg base "_law_pick" psPick 2 spPick fP fdP) : FnOk P w K mg base CX0 3 f fd psName spName0 := by
  refine F.ok scName (fun vs H Q E h => ?_) (fun cdv A outer s H vs Q E hr h => ?_)
  · obtain ⟨p, l, u, c, rfl, _⟩ := h
    rfl
  · obtain ⟨p, l, u, c, rfl, hp, c1, hu0, lu, k⟩ := h
    have hr1 : Room 1 _ := hr.mono (by decide)
    have up : u ≠ p := by
      obtain ⟨⟨a, d, fo, ns, hp', _⟩, _⟩ := hp
      exact ne_of hu0 hp' (by intro z; cases z)
    refine ⟨_, pss_cons (ps_set (i := 2) scName.nd rfl (Or.inl rfl) pe_str)
      (pss_cons (ps_set (i := 3) scName.nd rfl (Or.inl rfl) (pe_ix ix_str (pv 2) (pe_call D.G hr1 (by rfl) D.g D.kp D.b .nil pass0 (pa_cons (pv 0) (pa_cons pe_int pa_nil))) (fun _ _ => rfl)))
      (pss_cons (ps_for PassesOwn.never rfl (pi_range1 (by rfl) mr (pa_cons (pe_call C.G hr (by rfl) C.g C.kp C.b .nil pass0 (pa_cons (pv 0) (pa_cons (pe_lst (pa_cons pe_int (pa_cons pe_int (pa_cons pe_int (pa_cons pe_int (pa_cons pe_int (pa_cons pe_int pa_nil))))))) pa_nil))) pa_nil)) (pg_name (i := 4) scName.nd rfl (Or.inl rfl))
        (pss_one (ps_set (i := 3) scName.nd rfl (Or.inl rfl) (pe_op op_add_str (pv 3) (pe_ix ix_str (pv 2) (pe_call D.G hr1 (by rfl) D.g D.kp D.b .nil pass0 (pa_cons (pv 0) (pa_cons pe_int pa_nil))) (fun _ _ => rfl))))))
      (pss_cons (ps_for PassesOwn.never rfl (pi_range1 (by rfl) mr (pa_cons (pe_op op_add (pe_callB call_len_seq (by rfl) ml PySem.boot_len (pa_cons (pv 1) pa_nil)) pe_int) pa_nil)) (pg_name (i := 4) scName.nd rfl (Or.inl rfl))
        (pss_cons (ps_if (pt_cmpR op_notIn_seq (pv 3) (pv 1) (by rfl)) (pss_one ps_break) pss_nil)
        (pss_one (ps_set (i := 3) scName.nd rfl (Or.inl rfl) (pe_op op_add_str (pe_slice sl_str (pv 3) po_none (po_some pe_int)) (pe_callTy call_str_int (by rfl) ms (by decide +kernel) (pa_cons (pe_op op_add pe_int (pv 4)) pa_nil)))))))
      (pss_cons (ps_expr (pe_bm PySem.F.plainAttrs_list PySem.F.slot_list_append PySem.F.type_list_append mt_append (pv 1) (pa_cons (pv 3) pa_nil)))
      (pss_one (ps_ret (pv 3))))))), ?_⟩
    refine ⟨_, rfl, _, rfl, p, l, c, 26, rfl, hp, by omega, by decide, by decide, fun r H1 r0 r1 P1 k1 => ?_⟩
    obtain ⟨s0, hs0, hs1⟩ := sign_at r0 (by omega : r < 36)
    refine ⟨signs, r, s0, rfl, rfl, by decide +kernel, hs0, ?_⟩
    refine ⟨_, rfl, by show 6 ≤ sizeLine; decide, fun q hq => ?_⟩
    refine ⟨p, l, q, c + 1, _, rfl, P1.upd hq, by omega, upd_same, by show 0 < 6; decide, by show 6 ≤ 1000; decide, fun i x H2 hx P2 k2 => ?_⟩
    obtain ⟨n, rfl, n0, n1⟩ : ∃ n : Int, x = .int n ∧ 0 ≤ n ∧ n ≤ 7 := by
      have hm := List.mem_of_getElem? hx
      simp only [List.mem_cons, List.not_mem_nil, or_false] at hm
      rcases hm with e | e | e | e | e | e
      · exact ⟨0, e, by decide, by decide⟩
      · exact ⟨0, e, by decide, by decide⟩
      · exact ⟨1, e, by decide, by decide⟩
      · exact ⟨2, e, by decide, by decide⟩
      · exact ⟨4, e, by decide, by decide⟩
      · exact ⟨7, e, by decide, by decide⟩
    have k12 : Keep p H H2 := (k1.trans (Keep.new hq)).trans k2
    refine ⟨n, rfl, by omega, by omega, ?_⟩
    refine for_range (lo := 0) (n := n.toNat) (fun i σ H3 => ∃ (z : Str) (c' : Int) (v : Option V), σ = [some (.ref p), some (.ref u), some (.str signs), some (.str z), v] ∧ Plain z ∧ z.length ≤ i + 1 ∧ c ≤ c' ∧ c' ≤ c + 2 + i ∧ PenAt H3 p l c' ∧ Keep p H H3)
      ⟨⟨#[s0]⟩, c + 1 + 1, none, rfl, plain_one hs1, Nat.le_refl _, by omega, by omega, P2, k12⟩ ?_ ?_
    · rintro i σ H3 hi ⟨z, c', v, rfl, z0, z1, c2, c3, P3, k3⟩
      refine ⟨_, rfl, _, rfl, _, rfl, p, l, c', 36, rfl, P3, by omega, by decide, by decide, fun r H4 r0 r1 P4 k4 => ?_⟩
      obtain ⟨s1, hs1, hs2⟩ := sign_at r0 r1
      refine ⟨signs, r, s1, rfl, rfl, by decide +kernel, hs1, _, _, rfl, rfl, ?_, ?_⟩
      · exact Nat.le_of_lt (small1000 (by show z.length + 1 ≤ 1000; omega))
      refine ⟨_, c' + 1, _, rfl, plain_app z0 (plain_one hs2), ?_, by omega, by omega, P4, k3.trans k4⟩
      rw [len_app]
      show z.length + 1 ≤ _
      omega
    · rintro σ H3 ⟨z, c', v, rfl, z0, z1, c2, c3, P3, k3⟩
      have hu3 : H3 u = some (.lst []) := k3 u _ up hu0
      refine ⟨_, rfl, u, [], rfl, Or.inl (SqL.of hu3), _, _, rfl, rfl, 1, rfl, by decide, by decide, ?_⟩
      refine for_range (lo := 0) (n := 1) (fun i σ H4 => i = 0 ∧ ∃ (v : Option V), σ = [some (.ref p), some (.ref u), some (.str signs), some (.str z), v] ∧ H4 = H3)
        ⟨rfl, _, rfl, rfl⟩ ?_ ?_
      · rintro i σ H4 hi ⟨rfl, v, rfl, rfl⟩
        refine ⟨_, rfl, _, rfl, u, [], rfl, Or.inl (SqL.of hu3), rfl, rfl, _, rfl, ?_⟩
        refine iteT ?_
        refine ⟨_, rfl, Or.inl ⟨rfl, _, SqL.of hu3⟩, _, rfl, u, [], _, rfl, rfl, hu3, by show 0 < sizeLine; decide, _, rfl, ?_⟩
        refine k z c' _ z0 (by omega) c2 (by omega) ?_ fun b o hb hub e => ?_
        · obtain ⟨⟨a, d, fo, ns, h1, h2, r⟩, lo⟩ := P3
          exact ⟨⟨a, d, fo, ns, by rw [upd_ne up.symm]; exact h1, by rw [upd_ne lu]; exact h2, r⟩, lo⟩
        · rw [upd_ne hub]
          exact k3 b o hb e
      · rintro σ H4 ⟨e, _⟩
        cases e
end
end Fk

set_option maxHeartbeats 2000000
namespace Fk
open PySem L2
/-! ### exceptions as values -/
/-- what the written part says of an error class, for its instances to be made, read and asked -/
structure ErrC (K : PySem.W.Frag) (C : Addr) : Prop where
  ga : PySem.W.findIn K (.ref C) "__getattribute__" = some (some (.builtin "BaseException.__getattribute__"))
  gg : PySem.W.findIn K (.ref C) "__getattr__" = some none
  exC : PySem.W.subIn K (.ref C) (.type "BaseException") = some true
  hdC : PySem.W.hasDictIn K C = true
  kC : PySem.W.keepIn K (.ref C) = true
  clC : (PySem.W.clsIn K C).isSome = true
  ccC : PySem.W.findIn K (.ref C) "__class__" = some (some (.builtin "object.__class__"))
  moC : PySem.W.mroIn K C (.type "object") = some true
structure CommonC (K : PySem.W.Frag) : Prop where
  sp : PySem.W.specialIn K (.builtin "object.__class__") "__get__" = some (some (.builtin "getset_descriptor.__get__"))
  tk : PySem.W.takesIn K (.builtin "object.__class__") = some true
/-- an error object stands at a: of the class at C, with these fields -/
def ErrAt (H : Hp) (a C : Addr) (fs : List (Str × V)) : Prop := (H a = some (exo a C none) ∧ fs = []) ∨ ∃ d, H a = some (exo a C (some d)) ∧ H d = some (exd d fs)
section
variable {X : Cx} {pins : List (Addr × Obj)} {σ : St} {H : Hp} {s : Shared} {a C : Addr} {fs : List (Str × V)}
theorem err_inst (I : Inv X pins σ H s) (h : ErrAt H a C fs) : ∃ ox od, PySem.W.InstAt s.heap a ox C od := by
  rcases h with ⟨h, _⟩ | ⟨d, h, hd⟩
  · obtain ⟨t1, ho⟩ := exo_at I.hok h
    exact ⟨_, none, ho, rfl, rfl, True.intro⟩
  · obtain ⟨t1, ho⟩ := exo_at I.hok h
    obtain ⟨mA, hns, _⟩ := exd_at I.hok hd
    obtain ⟨od, hq, _⟩ := lookIn_ns hns
    exact ⟨_, some od, ho, rfl, rfl, hq⟩
/-- isinstance(e, D) of such an object -/
def rIsO (K : PySem.W.Frag) : List V → Hp → VK → Prop := fun xs H Q => ∃ (a C : Addr) (fs : List (Str × V)) (c : V) (u : Value) (b : Bool), xs = [.ref a, c] ∧ ClsV c u ∧ ErrAt H a C fs ∧ ErrC K C ∧ CommonC K ∧ PySem.W.kitOne K (.ref C) u = some b ∧ Q (.bl b) H
theorem call_isO : CallR X (.builtin "isinstance") (rIsO X.K) := by
  intro pins s σ H xs us Q I r h
  obtain ⟨a, C, fs, c, u, b, rfl, k, he, T, M, e, q⟩ := h
  obtain ⟨u1, u2, rfl, r1, r2⟩ := vals2 r
  obtain rfl : u1 = Value.ref a := r1
  obtain rfl := k.eq r2
  obtain ⟨ox, od, J⟩ := err_inst I he
  exact PySem.W.kia_one (PySem.W.kitx_exc T.clC T.ga T.gg T.exC T.ccC M.sp M.tk T.moC) I.kIn J e (fun z => nomatch z) fun tk => ⟨.bl b, H, I.tok tk, rfl, q⟩
/-- e.f of such an object -/
def tEf (K : PySem.W.Frag) (f : Str) (te : TE) : TE := fun σ H Q => te σ H fun x H1 => ∃ (a C d : Addr) (fs : List (Str × V)) (v : V), x = .ref a ∧ ErrC K C ∧ PySem.W.findIn K (.ref C) f = some none ∧
  H1 a = some (exo a C (some d)) ∧ H1 d = some (exd d fs) ∧ fs.lookup f = some v ∧ Q v H1
theorem pe_ef {e : Expr} {te : TE} {pos : Pos} {n : Str} (he : PE X e te) (hb : attributeBase e n X.env (eval e X.env) = eval e X.env := by rfl) : PE X (.Attribute e n pos) (tEf X.K n te) := by
  refine ⟨fun pins s σ H Q I h => ?_⟩
  refine attr_of hb (thn (he.run pins s σ H _ I h) fun u s1 hh => ?_)
  obtain ⟨x, H1, I1, rx, a, C, d, fs, v, rfl, T, hno, ha, hd, l, q⟩ := hh
  obtain rfl : u = Value.ref a := rx
  obtain ⟨t1, ho⟩ := exo_at I1.hok ha
  obtain ⟨mA, hns, hr⟩ := exd_at I1.hok hd
  obtain ⟨od, hod, hlk⟩ := lookIn_ns hns
  obtain ⟨u, hu, ru⟩ := RelO.some_of (v := v) (o := mA n) (by rw [← l]; exact hr n)
  exact PySem.HandSPX.exc_get I1.kIn (od := some od) ⟨ho, rfl, rfl, hod⟩ T.ga T.gg T.exC (PySem.W.findObj_own T.hdC hno rfl (by rw [hlk, hu])) (handed_of ru) ⟨v, H1, I1.tok _, ru, q⟩
/-- C(e, ..) as a value, C's own __init__ keeping sp -/
def tEm (C : Addr) (sp : Sp) (ta : TA) : TE := fun σ H Q => ta σ H fun vs H1 => vs.length ≤ 1000 ∧ ∀ a, H1 a = none → sp (.ref a :: vs) (upd H1 a (exo a C none)) (fun v H2 => v = .non ∧ Q (.ref a) H2) fun _ _ _ => False
theorem pe_em {x : Str} {C fI : Addr} {k : Nat} {fd : FuncData} {ps : List Str} {sp : Sp} {e : Expr} {es : List Expr} {p pos : Pos} {ta : TA} (T : OexC X.K C)
    (iC : PySem.W.findIn X.K (.ref C) "__init__" = some (some (.ref fI))) (tI : PySem.W.typeIn X.K (.ref fI) = some (.type "function"))
    (F1 : FnOk X.prog X.w X.K X.mg X.base CX0 k fI fd ps sp) (hr : Room (k + 1) X.A) (hb : Binds X.K fd ps []) (hg : Gl X x) (hm : X.mg x = some (.ref C)) (ha : PA X (e :: es) ta)
    (hdb : (x == ("__debug__" : Str)) = false := by decide) (he : starEach (e :: es) X.env = (false, eval e X.env) :: starEach es X.env := by rfl) (hpl : (backTo pos (starEach es X.env)).any (·.1) = false := by rfl) :
    PE X (.Call (.Name x p) (e :: es) [] pos) (tEm C sp ta) := by
  refine ⟨fun pins s σ H Q I h => ?_⟩
  obtain ⟨nm, q, N, bs, bm, sn, sub, ab, col, dd, k0, k1, k2, k3, k5, hC, hbm⟩ := T.cls
  refine wpAny_Call_Name_kw (ld_glob I hg hm ?_ hdb)
  refine PySem.W.callWith_K (h₀ := X.base) I.ok.mod.kin T.kC (thn (ha.run pos pins s σ H _ I h) fun us s1 ⟨vs, H1, I1, r1, hz, q1⟩ => ⟨I1.kIn, ?_⟩) he hpl
  show wpAny _ _ (call (.ref C) us) _ _ _
  obtain ⟨hp, g, dr, tk, os⟩ := s1
  have hq := q1 (hp.objs.size + 1) (I1.hok.fresh (Nat.le_succ _))
  have hget : ((hp.push (PySem.W.kdv_tup us)).push (PySem.HandSPX.excO C hp.objs.size)).get? (hp.objs.size + 1) = some (PySem.HandSPX.excO C hp.objs.size) := by heap_get
  have I2 := I1.laid (t' := tk) (a := hp.objs.size + 1) (o := exo (hp.objs.size + 1) C none) (h' := (hp.push (PySem.W.kdv_tup us)).push (PySem.HandSPX.excO C hp.objs.size))
    (fun b o e => Heap.get?_push_of_some _ (Heap.get?_push_of_some _ e)) (Nat.le_succ _) (exo_ok hget)
  have r2 : Vals (V.ref (hp.objs.size + 1) :: vs) (Value.ref (hp.objs.size + 1) :: us) := .cons rfl r1
  have hl : (Value.ref (hp.objs.size + 1) :: us).length = ps.length := (r2.length.symm.trans (F1.len _ _ _ _ hq))
  have hus : us.length ≤ sizeLine := Nat.le_trans (Nat.le_of_eq (Paired.length r1).symm) (Nat.le_trans hz (by decide))
  have hbb := hb _ (Value.ref (hp.objs.size + 1) :: us) I2.kIn (by rw [List.append_nil]; exact hl)
  rw [List.append_nil] at hbb
  refine wpAny_call (PySem.HandSPX.call_own PySem.F.excBase_ValueError (fun Y => PySem.HandSPX.refsVE_contains Y bm hbm) (I1.kIn _ _ hC) (PySem.W.looks_findIn I1.kIn iC) (fun self => PySem.W.bind_fn I1.kIn self tI) hus
    (codeAny_mono (F1.run _ X.stack _ _ ⟨Value.ref (hp.objs.size + 1) :: us, []⟩ (Value.ref (hp.objs.size + 1) :: us) _ _ (fun _ _ _ => False) (hr.make C us []) (I2.env0.make C us []) hbb r2 hq) fun r s' hq' => ?_))
  cases r with
  | error er => exact False.elim hq'
  | ok fl =>
    cases fl with
    | ret u =>
      have z := I2.after hq'
      obtain ⟨v, H2, J, rv, ev, q2⟩ := z
      subst ev
      exact ⟨rv, ⟨.ref (hp.objs.size + 1), H2, J, rfl, q2⟩⟩
    | next => exact False.elim hq'
    | brk => exact False.elim hq'
    | cont => exact False.elim hq'
/-- C() as a value, C without an own __init__ -/
theorem pe_e0 {x : Str} {C : Addr} {p pos : Pos} {bmB : List Value} {B newId initId : String} (F : ExcBaseFacts B newId initId bmB) (q : PySem.W.excIn X.K C bmB newId = true) (gC : X.mg x = some (.ref C)) (kC : PySem.W.keepIn X.K (.ref C) = true) (hg : Gl X x)
    (hdb : (x == ("__debug__" : Str)) = false := by decide) : PE X (.Call (.Name x p) [] [] pos) (fun _ H Q => ∀ a, H a = none → Q (.ref a) (upd H a (exo a C none))) := by
  refine ⟨fun pins s σ H Q I h => ?_⟩
  refine wpAny_Call_Name_kw (ld_glob I hg gC ?_ hdb)
  refine PySem.W.callWith_K0 I.kIn kC ?_
  obtain ⟨bm, N, nm, qn, bs, hdct, sn, sub, ab, col, dd, k0, k1, k2, k3, k5, mN, hC, hN, hni, T⟩ := exc_obj I.kIn q
  refine wpAny_call_exc_subT F T hC hN hni (fun h' a hm => ?_) (by show 0 ≤ sizeLine; exact Nat.zero_le _)
  have hn : H a = none := I.hok.gone hm.new
  obtain ⟨t, ht, _, _⟩ := hm.there
  exact ⟨.ref a, upd H a (exo a C none), I.laidN hm.keeps hm.new hn (exo_ok ht), rfl, h a hn⟩
end
end Fk

set_option maxHeartbeats 2000000
namespace Fk
open PySem PySem.Spec L2 PyProof.Rows
/-! ### repr of data, where no repr is under way -/
section
variable {X : Cx}
theorem call_reprD (hg : X.A.guards = some []) (hu : X.A.units + 64 < cLine) : CallR X (.builtin "repr") (fun xs H Q => ∃ (a : Addr) (d : PyData), xs = [.ref a] ∧ Dp X.K H (.ref a) d ∧ d.showable = true ∧ d.hasDict = false ∧ d.depth ≤ 10 ∧ d.shown.length ≤ sizeLine ∧ Q (.str d.shown) H) := by
  intro pins s σ H xs us Q I r h
  obtain ⟨a, d, rfl, hd, hs, hn, hp, hl, q⟩ := h
  obtain ⟨u1, rfl, r1⟩ := vals1 r
  obtain rfl : u1 = Value.ref a := r1
  obtain ⟨as, rd⟩ := Dp.reads I d _ _ hd (show RelV (.ref a) (Value.ref a) from rfl)
  exact repr_of_reads' rd hs (fun z => by rw [hn] at z; cases z) hg (by omega) (fun _ _ e => e) (fun h' u tk hk => ⟨.str d.shown, H, I.kept hk, ⟨u, rfl⟩, q⟩) hl
end
/-! ### a def that is called where no repr is under way, and the law's call -/
structure FnG (P : Program) (w : World) (K : PySem.W.Frag) (mg : Str → Option Value) (base : Heap) (k : Nat) (f : Addr) (fd : FuncData) (ps : List Str) (sp : Sp) : Prop where
  len : ∀ vs H Q E, sp vs H Q E → vs.length = ps.length
  run : ∀ (A : Around) (outer : List Env) (s : Shared) (H : Hp) (args : Args) (us : List Value) (vs : List V) (Q : VK) (E : XK), A.guards = some [] → Room k A → Env0 P w K mg base A outer s H →
    BindsTo s fd args (ps.zip us) → Vals vs us → sp vs H Q E → codeAny (model P w) A (.call (.ref f) args) (CR CX0 outer P w H s Q E) s
section
variable {P : Program} {w : World} {K : PySem.W.Frag} {mg : Str → Option Value} {base : Heap}
theorem fun_okG {x qual : Str} {st : Stmt} {f : Addr} {fd : FuncData} {N ps : List Str} {k : Nat} {sp : Sp} (F : Fun K x qual st f fd) (S : FnScope N ps (defScope st)) (len : ∀ vs H Q E, sp vs H Q E → vs.length = ps.length)
    (hb : ∀ (cdv : Value) (A : Around) (outer : List Env) (s : Shared) (H : Hp) (vs : List V) (Q : VK) (E : XK), (A.deeper (envOfC qual (defScope st) s.heap.objs.size f cdv)).guards = some [] →
      Room k (A.deeper (envOfC qual (defScope st) s.heap.objs.size f cdv)) → sp vs H Q E →
      ∃ t, PSs (cxOf CX0 P w K mg base N qual (defScope st) f cdv A outer s H E).nox (defBody st) t ∧ t { nx := fun _ H' => Q .non H', rt := Q } (start N vs) H) : FnG P w K mg base (k + 1) f fd ps sp := by
  obtain ⟨oc, od, kV, doc, pm, an, cdv, ct, osl, rfl, lk, hcd⟩ := F.ex
  refine ⟨len, fun A outer s H args us vs Q E hg hr e0 hbt r hsp => ?_⟩
  have ll := len _ _ _ _ hsp
  have KX : K.In s.heap := e0.mod.kin.keeps fun b o z => (e0.bs b o z).1
  have nl : s.heap.NoLimit := e0.mod.nolimit.keeps fun b o z => (e0.bs b o z).1
  refine codeAny_call_function hr.depth (KX _ _ lk) rfl S.co S.gen rfl (PySem.W.codeRec_of KX hcd) (hbt _ _ _ _ ?_)
  refine wpAny_newFunctionEnv_cells S.kind (fun ⟨n, v⟩ hy => ?_) fun env he s1 z => ?_
  · exact (S.par n (List.of_mem_zip hy).1).elim .inl fun q => .inr ⟨q, PySem.W.cellsFrom_some _ _ _ (.inl q)⟩
  · subst he
    refine ⟨nl.keeps z.toInCall.keep, codeAny_func ?_⟩
    obtain ⟨t, ht, hq⟩ := hb cdv A outer s H vs Q E hg (hr.deeper _) hsp
    have I := inv_start (CX := CX0) (E := E) S hr.hd e0 ll r z
    refine wpAny_mono (ht.nox.run [] s1 (start N vs) H _ I hq) (fun fl s' hs => ?_) fun e s' hs => hs
    cases fl with
    | ret u =>
      obtain ⟨v, σ', H', J, rv, q⟩ := hs
      exact ⟨v, H', J.os, J.bare, J.base, J.hok, rv, q⟩
    | next =>
      obtain ⟨σ', H', J, q⟩ := hs
      exact ⟨.non, H', J.os, J.bare, J.base, J.hok, rfl, q⟩
    | brk =>
      obtain ⟨_, _, _, q⟩ := hs
      exact q.elim
    | cont =>
      obtain ⟨_, _, _, q⟩ := hs
      exact q.elim
/-- the law's call, from any heap in which nothing but the script is tracked -/
theorem core_callG {mb : Str → Option Value} {k : Nat} {fa a : Addr} {fd : FuncData} {x : Str} {sp : Sp} {s₁ : Shared} {vs : List Value} {H : Hp}
    (KX : K.In s₁.heap) (hns : s₁.heap.Ns mainGlobals mg) (hbn : s₁.heap.Ns builtinsNs mb) (hbb : ∀ x : Str, x ≠ "__name__" → mb x = bootBuiltins x) (hlim : s₁.heap.NoLimit) (hgn : s₁.gens = #[])
    (ha : s₁.heap.get? a = some { cls := .type "list", data := .seq vs.toArray }) (hr : Room k callerA)
    (F : ∀ base : Heap, K.In base → base.Ns mainGlobals mg → FnG P w K mg base k fa fd [x] sp) (hbind : ∀ (s : Shared) (u : Value), BindsTo s fd ⟨[u], []⟩ [(x, u)])
    (hO : Only H) (hok : HOk P w H s₁.heap) (hA : ∀ b, H b ≠ none → b = a) (hK : H a ≠ none → K.lookup a = none) (hsp : sp [.ref a] H (fun v _ => v = .bl true) fun _ _ _ => False) :
    codeAny (model P w) callerA (.call (.ref fa) ⟨[.ref a], []⟩) (fun r s' => r = .ok (.ret (.bool true)) ∧ OldK s₁.heap s'.heap ∧ s'.os = s₁.os ∧ AllBare s'.gens) s₁ := by
  have free : ∀ {b : Addr}, b ≠ a → H b = none := fun {b} hb => by
    cases q : H b with
    | none => rfl
    | some u => exact absurd (hA b (by rw [q]; exact fun z => nomatch z)) hb
  have notDict : ∀ {b : Addr} {o : Obj} {es : Array DictEntry} {ep : Nat}, s₁.heap.get? b = some o → o.data = .dict es ep → H b = none := fun {b o es ep} e d => free fun z => by
    rw [z, ha] at e
    cases e
    have d' : Data.seq vs.toArray _ = Data.dict es ep := d
    cases d'
  have nsH : ∀ {b : Addr} {m : Str → Option Value}, s₁.heap.Ns b m → (hidT s₁.heap H).Ns b m := fun {b m} ⟨o, es, ep, e, d, r⟩ => ⟨o, es, ep, hidT_get e (notDict e d), d, r⟩
  have kH : K.In (hidT s₁.heap H) := fun b o e => hidT_get (KX b o e) (by
    by_cases hb : b = a
    · subst hb
      cases q : H b with
      | none => rfl
      | some u =>
        have z := hK (by rw [q]; exact fun z => nomatch z)
        rw [e] at z
        cases z
    · exact free hb)
  obtain ⟨mc, c1, c2⟩ := hlim
  have e0 : Env0 P w K mg (hidT s₁.heap H) callerA [] s₁ H := ⟨rfl, ⟨kH, nsH hns, ⟨mb, nsH hbn, hbb⟩, ⟨mc, nsH c1, c2⟩⟩, fun b o e => of_hidT e, Nat.le_of_eq (hidT_size _ _), trivial, fun b hb => (nomatch (show b ∈ ([] : List Addr) from hb)), hok, .of_eq hgn⟩
  refine codeAny_mono ((F _ kH (nsH hns)).run callerA [] s₁ H ⟨[.ref a], []⟩ [.ref a] [.ref a] _ _ rfl hr e0 (hbind s₁ (.ref a)) (.cons rfl .nil) hsp) fun r s' h => ?_
  cases r with
  | error e => exact False.elim h
  | ok fl =>
    cases fl with
    | next => exact False.elim h
    | brk => exact False.elim h
    | cont => exact False.elim h
    | ret u =>
      obtain ⟨v, H', os, bare, un, hok', r', q⟩ := h
      obtain rfl : v = .bl true := q
      obtain rfl : u = Value.bool true := r'
      refine ⟨rfl, OldK.of_keep fun b o e => ?_, os, bare⟩
      cases q : H b with
      | none => exact un.keep b o e q (fun z => nomatch (show b ∈ ([] : List Addr) from z)) (fun z => nomatch z)
      | some u =>
        rcases hO b with z | ⟨ob, xs, z⟩
        · rw [q] at z
          cases z
        · obtain ⟨e1, _⟩ := hok b _ z
          obtain ⟨e2, _⟩ := hok' b _ (un.frzs b ob _ z)
          rw [e] at e1
          cases e1
          exact e2
theorem law_callG {mb : Str → Option Value} {k : Nat} {fa a : Addr} {fd : FuncData} {x : Str} {sp : Sp} {s₁ : Shared} {vs : List Value} {ns : List Int}
    (KX : K.In s₁.heap) (hns : s₁.heap.Ns mainGlobals mg) (hbn : s₁.heap.Ns builtinsNs mb) (hbb : ∀ x : Str, x ≠ "__name__" → mb x = bootBuiltins x) (hlim : s₁.heap.NoLimit) (hgn : s₁.gens = #[])
    (ha : s₁.heap.get? a = some { cls := .type "list", data := .seq vs.toArray }) (hi : IntsAre vs ns) (hl : ns.length ≤ sizeLine) (hr : Room k callerA)
    (F : ∀ base : Heap, K.In base → base.Ns mainGlobals mg → FnG P w K mg base k fa fd [x] sp) (hbind : ∀ (s : Shared) (u : Value), BindsTo s fd ⟨[u], []⟩ [(x, u)])
    (hsp : ∀ H : Hp, Only H → SqL K H a (ns.map V.int) → sp [.ref a] H (fun v _ => v = .bl true) fun _ _ _ => False) :
    codeAny (model P w) callerA (.call (.ref fa) ⟨[.ref a], []⟩) (fun r s' => r = .ok (.ret (.bool true)) ∧ OldK s₁.heap s'.heap ∧ s'.os = s₁.os ∧ AllBare s'.gens) s₁ := by
  have rv := vals_ints hi
  have lv := hi.length
  have one : ∀ H : Hp, Only H → SqL K H a (ns.map V.int) → HOk P w H s₁.heap → (∀ b, H b ≠ none → b = a) → (H a ≠ none → K.lookup a = none) → _ :=
    fun H hO hS hok hA hK => core_callG KX hns hbn hbb hlim hgn ha hr F hbind hO hok hA hK (hsp H hO hS)
  cases hk : K.lookup a with
  | some o =>
    have e := KX a o hk
    rw [ha] at e
    cases e
    refine one (fun _ => none) (fun _ => .inl rfl) (.inr ⟨_, vs.toArray, _, hk, rfl, rfl, rfl, ?_, by simpa using rv⟩) (fun b u z => ?_) (fun b z => absurd rfl z) fun z => absurd rfl z
    · rw [List.size_toArray, lv]
      exact hl
    · have z' : (none : Option HO) = some u := z
      cases z'
  | none =>
    refine one (fun b => if b = a then some (.frz { cls := .type "list", data := .seq vs.toArray } (.lst (ns.map V.int))) else none) (fun b => ?_) (.inl (.inr ⟨_, if_pos rfl⟩)) (fun b u z => ?_) (fun b z => ?_) fun _ => hk
    · by_cases hb : b = a
      · exact .inr ⟨_, _, if_pos hb⟩
      · exact .inl (if_neg hb)
    · by_cases hb : b = a
      · cases (if_pos hb).symm.trans z
        subst hb
        exact ⟨ha, by rw [List.length_map]; exact hl, vs, _, rv, ha⟩
      · cases (if_neg hb).symm.trans z
    · by_cases hb : b = a
      · exact hb
      · exact absurd (if_neg hb) z
end
/-- the goal that the head leaves -/
theorem walkG {l : PySem.W.OpenLaw} {n k : Nat} {q : Program} {loose : List Str} {XP : (Str → Option Value) → Heap → Prop} {YP : World → Heap → Prop} {d : DefRec} {K : Params → PySem.W.Frag} {sp : World → Sp} {x : Str}
    (hn : l.most = some n) (hn2 : n ≤ sizeLine) (hdf : d.params.defaults = []) (hr : Room k callerA) (hY : ∀ (w : World) (h : Heap), YP w h → (K w.params).In h)
    (F : ∀ (w : World) (mg : Str → Option Value) (fa : Addr) (h : Heap), (K w.params).In h → h.Ns mainGlobals mg → mg d.name = some (.ref fa) →
      ∃ fd : FuncData, (∀ (s : Shared) (u : Value), BindsTo s fd ⟨[u], []⟩ [(x, u)]) ∧ ∀ base : Heap, (K w.params).In base → base.Ns mainGlobals mg → FnG l.prog w (K w.params) mg base k fa fd [x] (sp w))
    (hsp : ∀ (w : World) (H : Hp) (a : Addr) (ns : List Int), ns.length ≤ n → Only H → SqL (K w.params) H a (ns.map V.int) → sp w [.ref a] H (fun v _ => v = .bl true) fun _ _ _ => False) :
    PySem.W.WalkO q loose XP YP l.row.toRowW d [] (fun f vs => PySem.call f vs) := by
  refine Att.attach_call hn hdf fun w s₀ s₁ mg mb fa o pm cd doc a vs ns G Y ho hd hcd hmg hobj hints hlen hg => ?_
  obtain ⟨fd, hb, hF⟩ := F w mg fa _ (hY w _ Y) G.T.g hmg
  exact law_callG (hY w _ Y) G.T.g G.T.b G.T.builtins G.T.nolimit hg hobj hints (Nat.le_trans hlen hn2) hr hF hb fun H hO hS => hsp w H a ns hlen hO hS
end Fk

namespace Fk
open PySem L2
/-! ### the __init__ of each error -/
/-- what a class with these fields must have -/
structure IniC (K : PySem.W.Frag) (C : Addr) (fs : List Str) : Prop where
  ox : OexC K C
  no : ∀ f ∈ fs, PySem.W.findIn K (.ref C) f = some none
/-- __init__ leaves the fields, the last one first -/
def spIni (C : Addr) (fs : List Str) : Sp := fun vs H Q _ => ∃ (a : Addr) (ws : List V), vs = .ref a :: ws ∧ ws.length = fs.length ∧ H a = some (exo a C none) ∧
  ∀ (d : Addr) (H' : Hp), (∀ b o, b ≠ a → H b = some o → H' b = some o) → H' a = some (exo a C (some d)) → H' d = some (exd d (fs.zip ws).reverse) → Q .non H'
section
variable {P : Program} {w : World} {K : PySem.W.Frag} {mg : Str → Option Value} {base : Heap}
theorem ini_one {H : Hp} {a C d : Addr} {x : List (Str × V)} (hd : H d = none) (n : d ≠ a) : (∀ b o, b ≠ a → H b = some o → (upd (upd H d (exd d x)) a (exo a C (some d))) b = some o) ∧ (upd (upd H d (exd d x)) a (exo a C (some d))) a = some (exo a C (some d)) ∧ (upd (upd H d (exd d x)) a (exo a C (some d))) d = some (exd d x) :=
  ⟨fun b o hb e => by rw [upd_ne hb, upd_ne (ne_of_none e hd)]; exact e, upd_same, by rw [upd_ne n, upd_same]⟩
theorem ini_more {H H1 : Hp} {a C d : Addr} {x y : List (Str × V)} (hd : H d = none) (n : d ≠ a) (h : (∀ b o, b ≠ a → H b = some o → H1 b = some o) ∧ H1 a = some (exo a C (some d)) ∧ H1 d = some (exd d x)) :
    (∀ b o, b ≠ a → H b = some o → (upd H1 d (exd d y)) b = some o) ∧ (upd H1 d (exd d y)) a = some (exo a C (some d)) ∧ (upd H1 d (exd d y)) d = some (exd d y) :=
  ⟨fun b o hb e => by rw [upd_ne (ne_of_none e hd)]; exact h.1 b o hb e, by rw [upd_ne n.symm]; exact h.2.1, upd_same⟩
abbrev sIBadText : Stmt := inClass (top 2) 0
theorem scBadText : FnScope ["self", "line", "column"] ["self", "line", "column"] (defScope sIBadText) := ⟨rfl, rfl, rfl, by decide +kernel, rfl, by decide +kernel, by decide +kernel⟩
theorem ini_BadText {C f : Addr} {fd : FuncData} (F : Fun K "__init__" "BadText.__init__" sIBadText f fd) (T : IniC K C ["line", "column"]) : FnOk P w K mg base CX0 1 f fd ["self", "line", "column"] (spIni C ["line", "column"]) := by
  refine F.ok scBadText (fun vs H Q E h => ?_) (fun cdv A outer s H vs Q E hr h => ?_)
  · obtain ⟨a, ws, rfl, e, _⟩ := h
    exact congrArg (· + 1) e
  · obtain ⟨a, ws, rfl, e, ha, k⟩ := h
    match ws, e, k with
    | [v1, v2], _, k =>
      refine ⟨_, (pss_cons (ps_ost (pv 0) (pv 1)) (pss_one (ps_ost (pv 0) (pv 2)))), ?_⟩
      refine ⟨_, rfl, _, rfl, a, C, rfl, T.ox, T.no _ (by simp), Or.inl ⟨ha, fun d hd hn => ?_⟩⟩
      have h1 := ini_one (C := C) (x := [("line", v1)]) hd hn
      refine ⟨_, rfl, _, rfl, a, C, rfl, T.ox, T.no _ (by simp), Or.inr ⟨d, _, h1.2.1, h1.2.2, by show 1 ≤ 900; decide, ?_⟩⟩
      have h2 := ini_more (y := [("column", v2), ("line", v1)]) hd hn h1
      exact k d _ h2.1 h2.2.1 h2.2.2
abbrev sIBadNumber : Stmt := inClass (top 3) 0
theorem scBadNumber : FnScope ["self", "what", "number"] ["self", "what", "number"] (defScope sIBadNumber) := ⟨rfl, rfl, rfl, by decide +kernel, rfl, by decide +kernel, by decide +kernel⟩
theorem ini_BadNumber {C f : Addr} {fd : FuncData} (F : Fun K "__init__" "BadNumber.__init__" sIBadNumber f fd) (T : IniC K C ["what", "number"]) : FnOk P w K mg base CX0 1 f fd ["self", "what", "number"] (spIni C ["what", "number"]) := by
  refine F.ok scBadNumber (fun vs H Q E h => ?_) (fun cdv A outer s H vs Q E hr h => ?_)
  · obtain ⟨a, ws, rfl, e, _⟩ := h
    exact congrArg (· + 1) e
  · obtain ⟨a, ws, rfl, e, ha, k⟩ := h
    match ws, e, k with
    | [v1, v2], _, k =>
      refine ⟨_, (pss_cons (ps_ost (pv 0) (pv 1)) (pss_one (ps_ost (pv 0) (pv 2)))), ?_⟩
      refine ⟨_, rfl, _, rfl, a, C, rfl, T.ox, T.no _ (by simp), Or.inl ⟨ha, fun d hd hn => ?_⟩⟩
      have h1 := ini_one (C := C) (x := [("what", v1)]) hd hn
      refine ⟨_, rfl, _, rfl, a, C, rfl, T.ox, T.no _ (by simp), Or.inr ⟨d, _, h1.2.1, h1.2.2, by show 1 ≤ 900; decide, ?_⟩⟩
      have h2 := ini_more (y := [("number", v2), ("what", v1)]) hd hn h1
      exact k d _ h2.1 h2.2.1 h2.2.2
abbrev sIUntold : Stmt := inClass (top 7) 0
theorem scUntold : FnScope ["self", "board", "words"] ["self", "board", "words"] (defScope sIUntold) := ⟨rfl, rfl, rfl, by decide +kernel, rfl, by decide +kernel, by decide +kernel⟩
theorem ini_Untold {C f : Addr} {fd : FuncData} (F : Fun K "__init__" "Untold.__init__" sIUntold f fd) (T : IniC K C ["board", "words"]) : FnOk P w K mg base CX0 1 f fd ["self", "board", "words"] (spIni C ["board", "words"]) := by
  refine F.ok scUntold (fun vs H Q E h => ?_) (fun cdv A outer s H vs Q E hr h => ?_)
  · obtain ⟨a, ws, rfl, e, _⟩ := h
    exact congrArg (· + 1) e
  · obtain ⟨a, ws, rfl, e, ha, k⟩ := h
    match ws, e, k with
    | [v1, v2], _, k =>
      refine ⟨_, (pss_cons (ps_ost (pv 0) (pv 1)) (pss_one (ps_ost (pv 0) (pv 2)))), ?_⟩
      refine ⟨_, rfl, _, rfl, a, C, rfl, T.ox, T.no _ (by simp), Or.inl ⟨ha, fun d hd hn => ?_⟩⟩
      have h1 := ini_one (C := C) (x := [("board", v1)]) hd hn
      refine ⟨_, rfl, _, rfl, a, C, rfl, T.ox, T.no _ (by simp), Or.inr ⟨d, _, h1.2.1, h1.2.2, by show 1 ≤ 900; decide, ?_⟩⟩
      have h2 := ini_more (y := [("words", v2), ("board", v1)]) hd hn h1
      exact k d _ h2.1 h2.2.1 h2.2.2
abbrev sINotKept : Stmt := inClass (top 18) 0
theorem scNotKept : FnScope ["self", "promise", "witness"] ["self", "promise", "witness"] (defScope sINotKept) := ⟨rfl, rfl, rfl, by decide +kernel, rfl, by decide +kernel, by decide +kernel⟩
theorem ini_NotKept {C f : Addr} {fd : FuncData} (F : Fun K "__init__" "NotKept.__init__" sINotKept f fd) (T : IniC K C ["promise", "witness"]) : FnOk P w K mg base CX0 1 f fd ["self", "promise", "witness"] (spIni C ["promise", "witness"]) := by
  refine F.ok scNotKept (fun vs H Q E h => ?_) (fun cdv A outer s H vs Q E hr h => ?_)
  · obtain ⟨a, ws, rfl, e, _⟩ := h
    exact congrArg (· + 1) e
  · obtain ⟨a, ws, rfl, e, ha, k⟩ := h
    match ws, e, k with
    | [v1, v2], _, k =>
      refine ⟨_, (pss_cons (ps_ost (pv 0) (pv 1)) (pss_one (ps_ost (pv 0) (pv 2)))), ?_⟩
      refine ⟨_, rfl, _, rfl, a, C, rfl, T.ox, T.no _ (by simp), Or.inl ⟨ha, fun d hd hn => ?_⟩⟩
      have h1 := ini_one (C := C) (x := [("promise", v1)]) hd hn
      refine ⟨_, rfl, _, rfl, a, C, rfl, T.ox, T.no _ (by simp), Or.inr ⟨d, _, h1.2.1, h1.2.2, by show 1 ≤ 900; decide, ?_⟩⟩
      have h2 := ini_more (y := [("witness", v2), ("promise", v1)]) hd hn h1
      exact k d _ h2.1 h2.2.1 h2.2.2
abbrev sIBadName : Stmt := inClass (top 4) 0
theorem scBadName : FnScope ["self", "name"] ["self", "name"] (defScope sIBadName) := ⟨rfl, rfl, rfl, by decide +kernel, rfl, by decide +kernel, by decide +kernel⟩
theorem ini_BadName {C f : Addr} {fd : FuncData} (F : Fun K "__init__" "BadName.__init__" sIBadName f fd) (T : IniC K C ["name"]) : FnOk P w K mg base CX0 1 f fd ["self", "name"] (spIni C ["name"]) := by
  refine F.ok scBadName (fun vs H Q E h => ?_) (fun cdv A outer s H vs Q E hr h => ?_)
  · obtain ⟨a, ws, rfl, e, _⟩ := h
    exact congrArg (· + 1) e
  · obtain ⟨a, ws, rfl, e, ha, k⟩ := h
    match ws, e, k with
    | [v1], _, k =>
      refine ⟨_, (pss_one (ps_ost (pv 0) (pv 1))), ?_⟩
      refine ⟨_, rfl, _, rfl, a, C, rfl, T.ox, T.no _ (by simp), Or.inl ⟨ha, fun d hd hn => ?_⟩⟩
      have h1 := ini_one (C := C) (x := [("name", v1)]) hd hn
      exact k d _ h1.1 h1.2.1 h1.2.2
abbrev sIBadChoice : Stmt := inClass (top 5) 0
theorem scBadChoice : FnScope ["self", "place"] ["self", "place"] (defScope sIBadChoice) := ⟨rfl, rfl, rfl, by decide +kernel, rfl, by decide +kernel, by decide +kernel⟩
theorem ini_BadChoice {C f : Addr} {fd : FuncData} (F : Fun K "__init__" "BadChoice.__init__" sIBadChoice f fd) (T : IniC K C ["place"]) : FnOk P w K mg base CX0 1 f fd ["self", "place"] (spIni C ["place"]) := by
  refine F.ok scBadChoice (fun vs H Q E h => ?_) (fun cdv A outer s H vs Q E hr h => ?_)
  · obtain ⟨a, ws, rfl, e, _⟩ := h
    exact congrArg (· + 1) e
  · obtain ⟨a, ws, rfl, e, ha, k⟩ := h
    match ws, e, k with
    | [v1], _, k =>
      refine ⟨_, (pss_one (ps_ost (pv 0) (pv 1))), ?_⟩
      refine ⟨_, rfl, _, rfl, a, C, rfl, T.ox, T.no _ (by simp), Or.inl ⟨ha, fun d hd hn => ?_⟩⟩
      have h1 := ini_one (C := C) (x := [("place", v1)]) hd hn
      exact k d _ h1.1 h1.2.1 h1.2.2
abbrev sIBadPaper : Stmt := inClass (top 6) 0
theorem scBadPaper : FnScope ["self", "what"] ["self", "what"] (defScope sIBadPaper) := ⟨rfl, rfl, rfl, by decide +kernel, rfl, by decide +kernel, by decide +kernel⟩
theorem ini_BadPaper {C f : Addr} {fd : FuncData} (F : Fun K "__init__" "BadPaper.__init__" sIBadPaper f fd) (T : IniC K C ["what"]) : FnOk P w K mg base CX0 1 f fd ["self", "what"] (spIni C ["what"]) := by
  refine F.ok scBadPaper (fun vs H Q E h => ?_) (fun cdv A outer s H vs Q E hr h => ?_)
  · obtain ⟨a, ws, rfl, e, _⟩ := h
    exact congrArg (· + 1) e
  · obtain ⟨a, ws, rfl, e, ha, k⟩ := h
    match ws, e, k with
    | [v1], _, k =>
      refine ⟨_, (pss_one (ps_ost (pv 0) (pv 1))), ?_⟩
      refine ⟨_, rfl, _, rfl, a, C, rfl, T.ox, T.no _ (by simp), Or.inl ⟨ha, fun d hd hn => ?_⟩⟩
      have h1 := ini_one (C := C) (x := [("what", v1)]) hd hn
      exact k d _ h1.1 h1.2.1 h1.2.2
abbrev sINotPlain : Stmt := inClass (top 8) 0
theorem scNotPlain : FnScope ["self", "what"] ["self", "what"] (defScope sINotPlain) := ⟨rfl, rfl, rfl, by decide +kernel, rfl, by decide +kernel, by decide +kernel⟩
theorem ini_NotPlain {C f : Addr} {fd : FuncData} (F : Fun K "__init__" "NotPlain.__init__" sINotPlain f fd) (T : IniC K C ["what"]) : FnOk P w K mg base CX0 1 f fd ["self", "what"] (spIni C ["what"]) := by
  refine F.ok scNotPlain (fun vs H Q E h => ?_) (fun cdv A outer s H vs Q E hr h => ?_)
  · obtain ⟨a, ws, rfl, e, _⟩ := h
    exact congrArg (· + 1) e
  · obtain ⟨a, ws, rfl, e, ha, k⟩ := h
    match ws, e, k with
    | [v1], _, k =>
      refine ⟨_, (pss_one (ps_ost (pv 0) (pv 1))), ?_⟩
      refine ⟨_, rfl, _, rfl, a, C, rfl, T.ox, T.no _ (by simp), Or.inl ⟨ha, fun d hd hn => ?_⟩⟩
      have h1 := ini_one (C := C) (x := [("what", v1)]) hd hn
      exact k d _ h1.1 h1.2.1 h1.2.2
abbrev sIAllBarred : Stmt := inClass (top 11) 0
theorem scAllBarred : FnScope ["self", "standing"] ["self", "standing"] (defScope sIAllBarred) := ⟨rfl, rfl, rfl, by decide +kernel, rfl, by decide +kernel, by decide +kernel⟩
theorem ini_AllBarred {C f : Addr} {fd : FuncData} (F : Fun K "__init__" "AllBarred.__init__" sIAllBarred f fd) (T : IniC K C ["standing"]) : FnOk P w K mg base CX0 1 f fd ["self", "standing"] (spIni C ["standing"]) := by
  refine F.ok scAllBarred (fun vs H Q E h => ?_) (fun cdv A outer s H vs Q E hr h => ?_)
  · obtain ⟨a, ws, rfl, e, _⟩ := h
    exact congrArg (· + 1) e
  · obtain ⟨a, ws, rfl, e, ha, k⟩ := h
    match ws, e, k with
    | [v1], _, k =>
      refine ⟨_, (pss_one (ps_ost (pv 0) (pv 1))), ?_⟩
      refine ⟨_, rfl, _, rfl, a, C, rfl, T.ox, T.no _ (by simp), Or.inl ⟨ha, fun d hd hn => ?_⟩⟩
      have h1 := ini_one (C := C) (x := [("standing", v1)]) hd hn
      exact k d _ h1.1 h1.2.1 h1.2.2
abbrev sIUnlike : Stmt := inClass (top 12) 0
theorem scUnlike : FnScope ["self", "what"] ["self", "what"] (defScope sIUnlike) := ⟨rfl, rfl, rfl, by decide +kernel, rfl, by decide +kernel, by decide +kernel⟩
theorem ini_Unlike {C f : Addr} {fd : FuncData} (F : Fun K "__init__" "Unlike.__init__" sIUnlike f fd) (T : IniC K C ["what"]) : FnOk P w K mg base CX0 1 f fd ["self", "what"] (spIni C ["what"]) := by
  refine F.ok scUnlike (fun vs H Q E h => ?_) (fun cdv A outer s H vs Q E hr h => ?_)
  · obtain ⟨a, ws, rfl, e, _⟩ := h
    exact congrArg (· + 1) e
  · obtain ⟨a, ws, rfl, e, ha, k⟩ := h
    match ws, e, k with
    | [v1], _, k =>
      refine ⟨_, (pss_one (ps_ost (pv 0) (pv 1))), ?_⟩
      refine ⟨_, rfl, _, rfl, a, C, rfl, T.ox, T.no _ (by simp), Or.inl ⟨ha, fun d hd hn => ?_⟩⟩
      have h1 := ini_one (C := C) (x := [("what", v1)]) hd hn
      exact k d _ h1.1 h1.2.1 h1.2.2
abbrev sINoName : Stmt := inClass (top 16) 0
theorem scNoName : FnScope ["self", "name"] ["self", "name"] (defScope sINoName) := ⟨rfl, rfl, rfl, by decide +kernel, rfl, by decide +kernel, by decide +kernel⟩
theorem ini_NoName {C f : Addr} {fd : FuncData} (F : Fun K "__init__" "NoName.__init__" sINoName f fd) (T : IniC K C ["name"]) : FnOk P w K mg base CX0 1 f fd ["self", "name"] (spIni C ["name"]) := by
  refine F.ok scNoName (fun vs H Q E h => ?_) (fun cdv A outer s H vs Q E hr h => ?_)
  · obtain ⟨a, ws, rfl, e, _⟩ := h
    exact congrArg (· + 1) e
  · obtain ⟨a, ws, rfl, e, ha, k⟩ := h
    match ws, e, k with
    | [v1], _, k =>
      refine ⟨_, (pss_one (ps_ost (pv 0) (pv 1))), ?_⟩
      refine ⟨_, rfl, _, rfl, a, C, rfl, T.ox, T.no _ (by simp), Or.inl ⟨ha, fun d hd hn => ?_⟩⟩
      have h1 := ini_one (C := C) (x := [("name", v1)]) hd hn
      exact k d _ h1.1 h1.2.1 h1.2.2
abbrev sITakenName : Stmt := inClass (top 17) 0
theorem scTakenName : FnScope ["self", "name"] ["self", "name"] (defScope sITakenName) := ⟨rfl, rfl, rfl, by decide +kernel, rfl, by decide +kernel, by decide +kernel⟩
theorem ini_TakenName {C f : Addr} {fd : FuncData} (F : Fun K "__init__" "TakenName.__init__" sITakenName f fd) (T : IniC K C ["name"]) : FnOk P w K mg base CX0 1 f fd ["self", "name"] (spIni C ["name"]) := by
  refine F.ok scTakenName (fun vs H Q E h => ?_) (fun cdv A outer s H vs Q E hr h => ?_)
  · obtain ⟨a, ws, rfl, e, _⟩ := h
    exact congrArg (· + 1) e
  · obtain ⟨a, ws, rfl, e, ha, k⟩ := h
    match ws, e, k with
    | [v1], _, k =>
      refine ⟨_, (pss_one (ps_ost (pv 0) (pv 1))), ?_⟩
      refine ⟨_, rfl, _, rfl, a, C, rfl, T.ox, T.no _ (by simp), Or.inl ⟨ha, fun d hd hn => ?_⟩⟩
      have h1 := ini_one (C := C) (x := [("name", v1)]) hd hn
      exact k d _ h1.1 h1.2.1 h1.2.2
abbrev sITooMany : Stmt := inClass (top 13) 0
theorem scTooMany : FnScope ["self", "what", "many", "limit"] ["self", "what", "many", "limit"] (defScope sITooMany) := ⟨rfl, rfl, rfl, by decide +kernel, rfl, by decide +kernel, by decide +kernel⟩
theorem ini_TooMany {C f : Addr} {fd : FuncData} (F : Fun K "__init__" "TooMany.__init__" sITooMany f fd) (T : IniC K C ["what", "many", "limit"]) : FnOk P w K mg base CX0 1 f fd ["self", "what", "many", "limit"] (spIni C ["what", "many", "limit"]) := by
  refine F.ok scTooMany (fun vs H Q E h => ?_) (fun cdv A outer s H vs Q E hr h => ?_)
  · obtain ⟨a, ws, rfl, e, _⟩ := h
    exact congrArg (· + 1) e
  · obtain ⟨a, ws, rfl, e, ha, k⟩ := h
    match ws, e, k with
    | [v1, v2, v3], _, k =>
      refine ⟨_, (pss_cons (ps_ost (pv 0) (pv 1)) (pss_cons (ps_ost (pv 0) (pv 2)) (pss_one (ps_ost (pv 0) (pv 3))))), ?_⟩
      refine ⟨_, rfl, _, rfl, a, C, rfl, T.ox, T.no _ (by simp), Or.inl ⟨ha, fun d hd hn => ?_⟩⟩
      have h1 := ini_one (C := C) (x := [("what", v1)]) hd hn
      refine ⟨_, rfl, _, rfl, a, C, rfl, T.ox, T.no _ (by simp), Or.inr ⟨d, _, h1.2.1, h1.2.2, by show 1 ≤ 900; decide, ?_⟩⟩
      have h2 := ini_more (y := [("many", v2), ("what", v1)]) hd hn h1
      refine ⟨_, rfl, _, rfl, a, C, rfl, T.ox, T.no _ (by simp), Or.inr ⟨d, _, h2.2.1, h2.2.2, by show 2 ≤ 900; decide, ?_⟩⟩
      have h3 := ini_more (y := [("limit", v3), ("many", v2), ("what", v1)]) hd hn h2
      exact k d _ h3.1 h3.2.1 h3.2.2
abbrev sITooLarge : Stmt := inClass (top 14) 0
theorem scTooLarge : FnScope ["self", "what", "number", "limit"] ["self", "what", "number", "limit"] (defScope sITooLarge) := ⟨rfl, rfl, rfl, by decide +kernel, rfl, by decide +kernel, by decide +kernel⟩
theorem ini_TooLarge {C f : Addr} {fd : FuncData} (F : Fun K "__init__" "TooLarge.__init__" sITooLarge f fd) (T : IniC K C ["what", "number", "limit"]) : FnOk P w K mg base CX0 1 f fd ["self", "what", "number", "limit"] (spIni C ["what", "number", "limit"]) := by
  refine F.ok scTooLarge (fun vs H Q E h => ?_) (fun cdv A outer s H vs Q E hr h => ?_)
  · obtain ⟨a, ws, rfl, e, _⟩ := h
    exact congrArg (· + 1) e
  · obtain ⟨a, ws, rfl, e, ha, k⟩ := h
    match ws, e, k with
    | [v1, v2, v3], _, k =>
      refine ⟨_, (pss_cons (ps_ost (pv 0) (pv 1)) (pss_cons (ps_ost (pv 0) (pv 2)) (pss_one (ps_ost (pv 0) (pv 3))))), ?_⟩
      refine ⟨_, rfl, _, rfl, a, C, rfl, T.ox, T.no _ (by simp), Or.inl ⟨ha, fun d hd hn => ?_⟩⟩
      have h1 := ini_one (C := C) (x := [("what", v1)]) hd hn
      refine ⟨_, rfl, _, rfl, a, C, rfl, T.ox, T.no _ (by simp), Or.inr ⟨d, _, h1.2.1, h1.2.2, by show 1 ≤ 900; decide, ?_⟩⟩
      have h2 := ini_more (y := [("number", v2), ("what", v1)]) hd hn h1
      refine ⟨_, rfl, _, rfl, a, C, rfl, T.ox, T.no _ (by simp), Or.inr ⟨d, _, h2.2.1, h2.2.2, by show 2 ≤ 900; decide, ?_⟩⟩
      have h3 := ini_more (y := [("limit", v3), ("number", v2), ("what", v1)]) hd hn h2
      exact k d _ h3.1 h3.2.1 h3.2.2
end
end Fk

namespace Fk
open PySem L2
abbrev sTwo : Stmt := top 27
/-- an error class whose __init__ keeps its fields -/
structure MkE (P : Program) (w : World) (K : PySem.W.Frag) (mg : Str → Option Value) (base : Heap) (x : Str) (fs : List Str) (C fI : Addr) (fd : FuncData) : Prop where
  ox : OexC K C
  no : ∀ f ∈ fs, PySem.W.findIn K (.ref C) f = some none
  iC : PySem.W.findIn K (.ref C) "__init__" = some (some (.ref fI))
  tI : PySem.W.typeIn K (.ref fI) = some (.type "function")
  G : FnOk P w K mg base CX0 1 fI fd ("self" :: fs) (spIni C fs)
  b : Binds K fd ("self" :: fs) []
  g : mg x = some (.ref C)
  er : ErrC K C
theorem keq {j i : Int} (h : decide (V.int j = V.int i) = true) : j = i := V.int.inj (of_decide_eq_true h)
theorem kne {j i : Int} (h : ¬ decide (V.int j = V.int i) = true) : j ≠ i := fun e => h (by rw [e]; exact decide_eq_true rfl)
theorem look1 (f : Str) (y : V) (r : List (Str × V)) : ((f, y) :: r).lookup f = some y := by
  rw [lookup_put, if_pos rfl]
theorem look2 {f g : Str} (n : ¬ g = f) (y : V) (r : List (Str × V)) : ((f, y) :: r).lookup g = r.lookup g := by
  rw [lookup_put, if_neg n]
def spTwo (c : Nat → Addr) : Sp := fun vs H Q _ => ∃ (j : Nat) (x y : V), vs = [.int j, x, y] ∧ j < 4 ∧
  ∀ (e q p : Addr) (fs : List (Str × V)) (H' : Hp), Same H H' → H' p = some (.tup [.ref e, .ref q]) → H' q = some (.tup [x, y]) → ErrAt H' e (c j) fs → Q (.ref p) H'
section
variable {P : Program} {w : World} {K : PySem.W.Frag} {mg : Str → Option Value} {base : Heap}
abbrev psTwo : List Str := ["_law_kind", "_law_a", "_law_b"]
theorem scTwo : FnScope ["_law_kind", "_law_a", "_law_b", "_law_e"] psTwo (defScope sTwo) := ⟨rfl, rfl, rfl, by decide +kernel, rfl, by decide +kernel, by decide +kernel⟩
/-- what stands behind the making of an error with two fields and the two tuples -/
theorem two_end {H H' : Hp} {e d q p C : Addr} {fs : List (Str × V)} {x y : V} (he : H e = none) (hk : ∀ b o, b ≠ e → (upd H e (exo e C none)) b = some o → H' b = some o) (ha : H' e = some (exo e C (some d))) (hd : H' d = some (exd d fs)) (hq : H' q = none) (hp : (upd H' q (.tup [x, y])) p = none) :
    let H2 := upd (upd H' q (.tup [x, y])) p (.tup [.ref e, .ref q])
    Same H H2 ∧ H2 p = some (.tup [.ref e, .ref q]) ∧ H2 q = some (.tup [x, y]) ∧ ErrAt H2 e C fs := by
  have s1 : Same H' (upd (upd H' q (.tup [x, y])) p (.tup [.ref e, .ref q])) := (same_new hq).trans (same_new hp)
  refine ⟨fun b o z => s1 b o (hk b o (ne_of_none z he) ?_), upd_same, ?_, Or.inr ⟨d, s1 _ _ ha, s1 _ _ hd⟩⟩
  · rw [upd_ne (ne_of_none z he)]
    exact z
  · rw [upd_ne (ne_of_none upd_same hp), upd_same]
theorem mk_end {H H' : Hp} {e d q p C : Addr} {fs : List (Str × V)} {xs : List V} (he : H e = none) (hk : ∀ b o, b ≠ e → (upd H e (exo e C none)) b = some o → H' b = some o) (ha : H' e = some (exo e C (some d))) (hd : H' d = some (exd d fs)) (hq : H' q = none) (hp : (upd H' q (.tup xs)) p = none) :
    let H2 := upd (upd H' q (.tup xs)) p (.tup [.ref e, .ref q])
    Same H H2 ∧ H2 p = some (.tup [.ref e, .ref q]) ∧ H2 q = some (.tup xs) ∧ ErrAt H2 e C fs := by
  have s1 : Same H' (upd (upd H' q (.tup xs)) p (.tup [.ref e, .ref q])) := (same_new hq).trans (same_new hp)
  refine ⟨fun b o z => s1 b o (hk b o (ne_of_none z he) ?_), upd_same, ?_, Or.inr ⟨d, s1 _ _ ha, s1 _ _ hd⟩⟩
  · rw [upd_ne (ne_of_none z he)]
    exact z
  · rw [upd_ne (ne_of_none upd_same hp), upd_same]
theorem ok_two {f : Addr} {fd : FuncData} {c : Nat → Addr} {f0 f1 f2 f3 : Addr} {d0 d1 d2 d3 : FuncData} (F : Fun K "_law_of_two" "_law_of_two" sTwo f fd)
    (M0 : MkE P w K mg base "BadText" ["line", "column"] (c 0) f0 d0) (M1 : MkE P w K mg base "BadNumber" ["what", "number"] (c 1) f1 d1) (M2 : MkE P w K mg base "Untold" ["board", "words"] (c 2) f2 d2) (M3 : MkE P w K mg base "NotKept" ["promise", "witness"] (c 3) f3 d3) : FnOk P w K mg base CX0 3 f fd psTwo (spTwo c) := by
  refine F.ok scTwo (fun vs H Q E h => ?_) (fun cdv A outer s H vs Q E hr h => ?_)
  · obtain ⟨j, x, y, rfl, _⟩ := h
    rfl
  · obtain ⟨j, x, y, rfl, hj, k⟩ := h
    refine ⟨_, pss_cons (ps_if (pt_cmpR op_eq (pv 0) pe_int (nomark _)) (pss_cons (ps_set (i := 3) scTwo.nd rfl (Or.inl rfl) (pe_em M0.ox M0.iC M0.tI M0.G hr M0.b (by rfl) M0.g (pa_cons (pv 1) (pa_cons (pv 2) pa_nil)))) (pss_one (ps_ret (pe_tup (pa_cons (pv 3) (pa_cons (pe_tup (pa_cons (pe_ef (pv 3)) (pa_cons (pe_ef (pv 3)) pa_nil))) pa_nil)))))) pss_nil)
      (pss_cons (ps_if (pt_cmpR op_eq (pv 0) pe_int (nomark _)) (pss_cons (ps_set (i := 3) scTwo.nd rfl (Or.inl rfl) (pe_em M1.ox M1.iC M1.tI M1.G hr M1.b (by rfl) M1.g (pa_cons (pv 1) (pa_cons (pv 2) pa_nil)))) (pss_one (ps_ret (pe_tup (pa_cons (pv 3) (pa_cons (pe_tup (pa_cons (pe_ef (pv 3)) (pa_cons (pe_ef (pv 3)) pa_nil))) pa_nil)))))) pss_nil)
      (pss_cons (ps_if (pt_cmpR op_eq (pv 0) pe_int (nomark _)) (pss_cons (ps_set (i := 3) scTwo.nd rfl (Or.inl rfl) (pe_em M2.ox M2.iC M2.tI M2.G hr M2.b (by rfl) M2.g (pa_cons (pv 1) (pa_cons (pv 2) pa_nil)))) (pss_one (ps_ret (pe_tup (pa_cons (pv 3) (pa_cons (pe_tup (pa_cons (pe_ef (pv 3)) (pa_cons (pe_ef (pv 3)) pa_nil))) pa_nil)))))) pss_nil)
      (pss_cons (ps_set (i := 3) scTwo.nd rfl (Or.inl rfl) (pe_em M3.ox M3.iC M3.tI M3.G hr M3.b (by rfl) M3.g (pa_cons (pv 1) (pa_cons (pv 2) pa_nil)))) (pss_one (ps_ret (pe_tup (pa_cons (pv 3) (pa_cons (pe_tup (pa_cons (pe_ef (pv 3)) (pa_cons (pe_ef (pv 3)) pa_nil))) pa_nil)))))))), ?_⟩
    refine ⟨_, rfl, rfl, _, rfl, ite2 (fun h => ?_) (fun h0 => ?_)⟩
    · obtain rfl : j = 0 := by have := keq h; omega
      refine ⟨_, rfl, _, rfl, by show 2 ≤ 1000; decide, fun e he => ⟨e, [x, y], rfl, rfl, upd_same, fun d H' hk ha hd => ⟨rfl, ?_⟩⟩⟩
      refine ⟨_, rfl, _, rfl, e, c 0, d, _, x, rfl, M0.er, M0.no _ (by simp), ha, hd, (look2 (by decide +kernel) _ _).trans (look1 _ _ _), _, rfl, e, c 0, d, _, y, rfl, M0.er, M0.no _ (by simp), ha, hd, look1 _ _ _, by show 2 ≤ sizeLine; decide, fun q hq => ?_⟩
      refine ⟨by show 2 ≤ sizeLine; decide, fun p hp => ?_⟩
      have z := mk_end he hk ha hd hq hp
      exact k e q p _ _ z.1 z.2.1 z.2.2.1 z.2.2.2
    refine ⟨_, rfl, rfl, _, rfl, ite2 (fun h => ?_) (fun h1 => ?_)⟩
    · obtain rfl : j = 1 := by have := keq h; omega
      refine ⟨_, rfl, _, rfl, by show 2 ≤ 1000; decide, fun e he => ⟨e, [x, y], rfl, rfl, upd_same, fun d H' hk ha hd => ⟨rfl, ?_⟩⟩⟩
      refine ⟨_, rfl, _, rfl, e, c 1, d, _, x, rfl, M1.er, M1.no _ (by simp), ha, hd, (look2 (by decide +kernel) _ _).trans (look1 _ _ _), _, rfl, e, c 1, d, _, y, rfl, M1.er, M1.no _ (by simp), ha, hd, look1 _ _ _, by show 2 ≤ sizeLine; decide, fun q hq => ?_⟩
      refine ⟨by show 2 ≤ sizeLine; decide, fun p hp => ?_⟩
      have z := mk_end he hk ha hd hq hp
      exact k e q p _ _ z.1 z.2.1 z.2.2.1 z.2.2.2
    refine ⟨_, rfl, rfl, _, rfl, ite2 (fun h => ?_) (fun h2 => ?_)⟩
    · obtain rfl : j = 2 := by have := keq h; omega
      refine ⟨_, rfl, _, rfl, by show 2 ≤ 1000; decide, fun e he => ⟨e, [x, y], rfl, rfl, upd_same, fun d H' hk ha hd => ⟨rfl, ?_⟩⟩⟩
      refine ⟨_, rfl, _, rfl, e, c 2, d, _, x, rfl, M2.er, M2.no _ (by simp), ha, hd, (look2 (by decide +kernel) _ _).trans (look1 _ _ _), _, rfl, e, c 2, d, _, y, rfl, M2.er, M2.no _ (by simp), ha, hd, look1 _ _ _, by show 2 ≤ sizeLine; decide, fun q hq => ?_⟩
      refine ⟨by show 2 ≤ sizeLine; decide, fun p hp => ?_⟩
      have z := mk_end he hk ha hd hq hp
      exact k e q p _ _ z.1 z.2.1 z.2.2.1 z.2.2.2
    obtain rfl : j = 3 := by
      have g0 := kne h0
      have g1 := kne h1
      have g2 := kne h2
      omega
    refine ⟨_, rfl, _, rfl, by show 2 ≤ 1000; decide, fun e he => ⟨e, [x, y], rfl, rfl, upd_same, fun d H' hk ha hd => ⟨rfl, ?_⟩⟩⟩
    refine ⟨_, rfl, _, rfl, e, c 3, d, _, x, rfl, M3.er, M3.no _ (by simp), ha, hd, (look2 (by decide +kernel) _ _).trans (look1 _ _ _), _, rfl, e, c 3, d, _, y, rfl, M3.er, M3.no _ (by simp), ha, hd, look1 _ _ _, by show 2 ≤ sizeLine; decide, fun q hq => ?_⟩
    refine ⟨by show 2 ≤ sizeLine; decide, fun p hp => ?_⟩
    have z := mk_end he hk ha hd hq hp
    exact k e q p _ _ z.1 z.2.1 z.2.2.1 z.2.2.2
abbrev sOne : Stmt := top 28
abbrev psOne : List Str := ["_law_kind", "_law_a"]
theorem scOne : FnScope ["_law_kind", "_law_a", "_law_e"] psOne (defScope sOne) := ⟨rfl, rfl, rfl, by decide +kernel, rfl, by decide +kernel, by decide +kernel⟩
def spOne (c : Nat → Addr) : Sp := fun vs H Q _ => ∃ (j : Nat) (x : V), vs = [.int j, x] ∧ 4 ≤ j ∧ j < 12 ∧
  ∀ (e q p : Addr) (fs : List (Str × V)) (H' : Hp), Same H H' → H' p = some (.tup [.ref e, .ref q]) → H' q = some (.tup [x]) → ErrAt H' e (c j) fs → Q (.ref p) H'
theorem ok_one {f : Addr} {fd : FuncData} {c : Nat → Addr} {f4 f5 f6 f7 f8 f9 f10 f11 : Addr} {d4 d5 d6 d7 d8 d9 d10 d11 : FuncData} (F : Fun K "_law_of_one" "_law_of_one" sOne f fd)
    (M4 : MkE P w K mg base "BadName" ["name"] (c 4) f4 d4) (M5 : MkE P w K mg base "BadChoice" ["place"] (c 5) f5 d5) (M6 : MkE P w K mg base "BadPaper" ["what"] (c 6) f6 d6) (M7 : MkE P w K mg base "NotPlain" ["what"] (c 7) f7 d7) (M8 : MkE P w K mg base "AllBarred" ["standing"] (c 8) f8 d8) (M9 : MkE P w K mg base "Unlike" ["what"] (c 9) f9 d9) (M10 : MkE P w K mg base "NoName" ["name"] (c 10) f10 d10) (M11 : MkE P w K mg base "TakenName" ["name"] (c 11) f11 d11) : FnOk P w K mg base CX0 3 f fd psOne (spOne c) := by
  refine F.ok scOne (fun vs H Q E h => ?_) (fun cdv A outer s H vs Q E hr h => ?_)
  · obtain ⟨j, x, rfl, _⟩ := h
    rfl
  · obtain ⟨j, x, rfl, hj, hj2, k⟩ := h
    refine ⟨_, pss_cons (ps_if (pt_cmpR op_eq (pv 0) pe_int (nomark _)) (pss_cons (ps_set (i := 2) scOne.nd rfl (Or.inl rfl) (pe_em M4.ox M4.iC M4.tI M4.G hr M4.b (by rfl) M4.g (pa_cons (pv 1) pa_nil))) (pss_one (ps_ret (pe_tup (pa_cons (pv 2) (pa_cons (pe_tup (pa_cons (pe_ef (pv 2)) pa_nil)) pa_nil)))))) pss_nil)
      (pss_cons (ps_if (pt_cmpR op_eq (pv 0) pe_int (nomark _)) (pss_cons (ps_set (i := 2) scOne.nd rfl (Or.inl rfl) (pe_em M5.ox M5.iC M5.tI M5.G hr M5.b (by rfl) M5.g (pa_cons (pv 1) pa_nil))) (pss_one (ps_ret (pe_tup (pa_cons (pv 2) (pa_cons (pe_tup (pa_cons (pe_ef (pv 2)) pa_nil)) pa_nil)))))) pss_nil)
      (pss_cons (ps_if (pt_cmpR op_eq (pv 0) pe_int (nomark _)) (pss_cons (ps_set (i := 2) scOne.nd rfl (Or.inl rfl) (pe_em M6.ox M6.iC M6.tI M6.G hr M6.b (by rfl) M6.g (pa_cons (pv 1) pa_nil))) (pss_one (ps_ret (pe_tup (pa_cons (pv 2) (pa_cons (pe_tup (pa_cons (pe_ef (pv 2)) pa_nil)) pa_nil)))))) pss_nil)
      (pss_cons (ps_if (pt_cmpR op_eq (pv 0) pe_int (nomark _)) (pss_cons (ps_set (i := 2) scOne.nd rfl (Or.inl rfl) (pe_em M7.ox M7.iC M7.tI M7.G hr M7.b (by rfl) M7.g (pa_cons (pv 1) pa_nil))) (pss_one (ps_ret (pe_tup (pa_cons (pv 2) (pa_cons (pe_tup (pa_cons (pe_ef (pv 2)) pa_nil)) pa_nil)))))) pss_nil)
      (pss_cons (ps_if (pt_cmpR op_eq (pv 0) pe_int (nomark _)) (pss_cons (ps_set (i := 2) scOne.nd rfl (Or.inl rfl) (pe_em M8.ox M8.iC M8.tI M8.G hr M8.b (by rfl) M8.g (pa_cons (pv 1) pa_nil))) (pss_one (ps_ret (pe_tup (pa_cons (pv 2) (pa_cons (pe_tup (pa_cons (pe_ef (pv 2)) pa_nil)) pa_nil)))))) pss_nil)
      (pss_cons (ps_if (pt_cmpR op_eq (pv 0) pe_int (nomark _)) (pss_cons (ps_set (i := 2) scOne.nd rfl (Or.inl rfl) (pe_em M9.ox M9.iC M9.tI M9.G hr M9.b (by rfl) M9.g (pa_cons (pv 1) pa_nil))) (pss_one (ps_ret (pe_tup (pa_cons (pv 2) (pa_cons (pe_tup (pa_cons (pe_ef (pv 2)) pa_nil)) pa_nil)))))) pss_nil)
      (pss_cons (ps_if (pt_cmpR op_eq (pv 0) pe_int (nomark _)) (pss_cons (ps_set (i := 2) scOne.nd rfl (Or.inl rfl) (pe_em M10.ox M10.iC M10.tI M10.G hr M10.b (by rfl) M10.g (pa_cons (pv 1) pa_nil))) (pss_one (ps_ret (pe_tup (pa_cons (pv 2) (pa_cons (pe_tup (pa_cons (pe_ef (pv 2)) pa_nil)) pa_nil)))))) pss_nil)
      (pss_cons (ps_set (i := 2) scOne.nd rfl (Or.inl rfl) (pe_em M11.ox M11.iC M11.tI M11.G hr M11.b (by rfl) M11.g (pa_cons (pv 1) pa_nil))) (pss_one (ps_ret (pe_tup (pa_cons (pv 2) (pa_cons (pe_tup (pa_cons (pe_ef (pv 2)) pa_nil)) pa_nil)))))))))))), ?_⟩
    refine ⟨_, rfl, rfl, _, rfl, ite2 (fun h => ?_) (fun h4 => ?_)⟩
    · obtain rfl : j = 4 := by have := keq h; omega
      refine ⟨_, rfl, by show 1 ≤ 1000; decide, fun e he => ⟨e, [x], rfl, rfl, upd_same, fun d H' hk ha hd => ⟨rfl, ?_⟩⟩⟩
      refine ⟨_, rfl, _, rfl, e, c 4, d, _, x, rfl, M4.er, M4.no _ (by simp), ha, hd, look1 _ _ _, by show 1 ≤ sizeLine; decide, fun q hq => ?_⟩
      refine ⟨by show 2 ≤ sizeLine; decide, fun p hp => ?_⟩
      have z := mk_end he hk ha hd hq hp
      exact k e q p _ _ z.1 z.2.1 z.2.2.1 z.2.2.2
    refine ⟨_, rfl, rfl, _, rfl, ite2 (fun h => ?_) (fun h5 => ?_)⟩
    · obtain rfl : j = 5 := by have := keq h; omega
      refine ⟨_, rfl, by show 1 ≤ 1000; decide, fun e he => ⟨e, [x], rfl, rfl, upd_same, fun d H' hk ha hd => ⟨rfl, ?_⟩⟩⟩
      refine ⟨_, rfl, _, rfl, e, c 5, d, _, x, rfl, M5.er, M5.no _ (by simp), ha, hd, look1 _ _ _, by show 1 ≤ sizeLine; decide, fun q hq => ?_⟩
      refine ⟨by show 2 ≤ sizeLine; decide, fun p hp => ?_⟩
      have z := mk_end he hk ha hd hq hp
      exact k e q p _ _ z.1 z.2.1 z.2.2.1 z.2.2.2
    refine ⟨_, rfl, rfl, _, rfl, ite2 (fun h => ?_) (fun h6 => ?_)⟩
    · obtain rfl : j = 6 := by have := keq h; omega
      refine ⟨_, rfl, by show 1 ≤ 1000; decide, fun e he => ⟨e, [x], rfl, rfl, upd_same, fun d H' hk ha hd => ⟨rfl, ?_⟩⟩⟩
      refine ⟨_, rfl, _, rfl, e, c 6, d, _, x, rfl, M6.er, M6.no _ (by simp), ha, hd, look1 _ _ _, by show 1 ≤ sizeLine; decide, fun q hq => ?_⟩
      refine ⟨by show 2 ≤ sizeLine; decide, fun p hp => ?_⟩
      have z := mk_end he hk ha hd hq hp
      exact k e q p _ _ z.1 z.2.1 z.2.2.1 z.2.2.2
    refine ⟨_, rfl, rfl, _, rfl, ite2 (fun h => ?_) (fun h7 => ?_)⟩
    · obtain rfl : j = 7 := by have := keq h; omega
      refine ⟨_, rfl, by show 1 ≤ 1000; decide, fun e he => ⟨e, [x], rfl, rfl, upd_same, fun d H' hk ha hd => ⟨rfl, ?_⟩⟩⟩
      refine ⟨_, rfl, _, rfl, e, c 7, d, _, x, rfl, M7.er, M7.no _ (by simp), ha, hd, look1 _ _ _, by show 1 ≤ sizeLine; decide, fun q hq => ?_⟩
      refine ⟨by show 2 ≤ sizeLine; decide, fun p hp => ?_⟩
      have z := mk_end he hk ha hd hq hp
      exact k e q p _ _ z.1 z.2.1 z.2.2.1 z.2.2.2
    refine ⟨_, rfl, rfl, _, rfl, ite2 (fun h => ?_) (fun h8 => ?_)⟩
    · obtain rfl : j = 8 := by have := keq h; omega
      refine ⟨_, rfl, by show 1 ≤ 1000; decide, fun e he => ⟨e, [x], rfl, rfl, upd_same, fun d H' hk ha hd => ⟨rfl, ?_⟩⟩⟩
      refine ⟨_, rfl, _, rfl, e, c 8, d, _, x, rfl, M8.er, M8.no _ (by simp), ha, hd, look1 _ _ _, by show 1 ≤ sizeLine; decide, fun q hq => ?_⟩
      refine ⟨by show 2 ≤ sizeLine; decide, fun p hp => ?_⟩
      have z := mk_end he hk ha hd hq hp
      exact k e q p _ _ z.1 z.2.1 z.2.2.1 z.2.2.2
    refine ⟨_, rfl, rfl, _, rfl, ite2 (fun h => ?_) (fun h9 => ?_)⟩
    · obtain rfl : j = 9 := by have := keq h; omega
      refine ⟨_, rfl, by show 1 ≤ 1000; decide, fun e he => ⟨e, [x], rfl, rfl, upd_same, fun d H' hk ha hd => ⟨rfl, ?_⟩⟩⟩
      refine ⟨_, rfl, _, rfl, e, c 9, d, _, x, rfl, M9.er, M9.no _ (by simp), ha, hd, look1 _ _ _, by show 1 ≤ sizeLine; decide, fun q hq => ?_⟩
      refine ⟨by show 2 ≤ sizeLine; decide, fun p hp => ?_⟩
      have z := mk_end he hk ha hd hq hp
      exact k e q p _ _ z.1 z.2.1 z.2.2.1 z.2.2.2
    refine ⟨_, rfl, rfl, _, rfl, ite2 (fun h => ?_) (fun h10 => ?_)⟩
    · obtain rfl : j = 10 := by have := keq h; omega
      refine ⟨_, rfl, by show 1 ≤ 1000; decide, fun e he => ⟨e, [x], rfl, rfl, upd_same, fun d H' hk ha hd => ⟨rfl, ?_⟩⟩⟩
      refine ⟨_, rfl, _, rfl, e, c 10, d, _, x, rfl, M10.er, M10.no _ (by simp), ha, hd, look1 _ _ _, by show 1 ≤ sizeLine; decide, fun q hq => ?_⟩
      refine ⟨by show 2 ≤ sizeLine; decide, fun p hp => ?_⟩
      have z := mk_end he hk ha hd hq hp
      exact k e q p _ _ z.1 z.2.1 z.2.2.1 z.2.2.2
    obtain rfl : j = 11 := by
      have g4 := kne h4
      have g5 := kne h5
      have g6 := kne h6
      have g7 := kne h7
      have g8 := kne h8
      have g9 := kne h9
      have g10 := kne h10
      omega
    refine ⟨_, rfl, by show 1 ≤ 1000; decide, fun e he => ⟨e, [x], rfl, rfl, upd_same, fun d H' hk ha hd => ⟨rfl, ?_⟩⟩⟩
    refine ⟨_, rfl, _, rfl, e, c 11, d, _, x, rfl, M11.er, M11.no _ (by simp), ha, hd, look1 _ _ _, by show 1 ≤ sizeLine; decide, fun q hq => ?_⟩
    refine ⟨by show 2 ≤ sizeLine; decide, fun p hp => ?_⟩
    have z := mk_end he hk ha hd hq hp
    exact k e q p _ _ z.1 z.2.1 z.2.2.1 z.2.2.2
/-- an error class without an __init__ of its own -/
structure MkN (K : PySem.W.Frag) (mg : Str → Option Value) (x : Str) (C : Addr) : Prop where
  q : PySem.W.excIn K C [.type "ValueError", .type "Exception", .type "BaseException", .type "object"] "ValueError.__new__" = true
  g : mg x = some (.ref C)
  er : ErrC K C
theorem none_end {H : Hp} {e q p C : Addr} (he : H e = none) (hq : (upd H e (exo e C none)) q = none) (hp : (upd (upd H e (exo e C none)) q (.tup [])) p = none) :
    let H2 := upd (upd (upd H e (exo e C none)) q (.tup [])) p (.tup [.ref e, .ref q])
    Same H H2 ∧ H2 p = some (.tup [.ref e, .ref q]) ∧ H2 q = some (.tup []) ∧ ErrAt H2 e C [] := by
  refine ⟨((same_new he).trans (same_new hq)).trans (same_new hp), upd_same, ?_, Or.inl ⟨?_, rfl⟩⟩
  · rw [upd_ne (ne_of_none upd_same hp), upd_same]
  · exact (same_new hp) _ _ ((same_new hq) _ _ upd_same)
abbrev sMade : Stmt := top 29
abbrev psMade : List Str := ["_law_kind", "_law_values"]
theorem scMade : FnScope ["_law_kind", "_law_values", "_law_e"] psMade (defScope sMade) := ⟨rfl, rfl, rfl, by decide +kernel, rfl, by decide +kernel, by decide +kernel⟩
def spMade (c : Nat → Addr) : Sp := fun vs H Q _ => ∃ (j : Nat) (l : Addr) (x y z : V), vs = [.int j, .ref l] ∧ H l = some (.lst [x, y, z]) ∧ j < 19 ∧
  ∀ (e q p : Addr) (fs : List (Str × V)) (n : Nat) (H' : Hp), Same H H' → H' p = some (.tup [.ref e, .ref q]) → H' q = some (.tup ([x, y, z].take n)) → ErrAt H' e (c j) fs → n ≤ 3 → Q (.ref p) H'
theorem ok_made {f fT fO : Addr} {fd dT dO : FuncData} {c : Nat → Addr} {f12 f13 : Addr} {d12 d13 : FuncData} (F : Fun K "_law_made" "_law_made" sMade f fd) (T2 : Cl P w K mg base "_law_of_two" psTwo 3 (spTwo c) fT dT) (T1 : Cl P w K mg base "_law_of_one" psOne 3 (spOne c) fO dO)
    (M12 : MkE P w K mg base "TooMany" ["what", "many", "limit"] (c 12) f12 d12) (M13 : MkE P w K mg base "TooLarge" ["what", "number", "limit"] (c 13) f13 d13) (N14 : MkN K mg "HasLetter" (c 14)) (N15 : MkN K mg "NoLetter" (c 15)) (N16 : MkN K mg "NoSolution" (c 16)) (N17 : MkN K mg "NothingToUndo" (c 17)) (N18 : MkN K mg "NothingToRedo" (c 18)) : FnOk P w K mg base CX0 4 f fd psMade (spMade c) := by
  refine F.ok scMade (fun vs H Q E h => ?_) (fun cdv A outer s H vs Q E hr h => ?_)
  · obtain ⟨j, l, x, y, z, rfl, _⟩ := h
    rfl
  · obtain ⟨j, l, x, y, z, rfl, hl, hj, k⟩ := h
    refine ⟨_, pss_cons (ps_if (pt_cmpR op_lt (pv 0) pe_int (nomark _)) (pss_one (ps_ret (pe_call T2.G hr (by rfl) T2.g T2.kp T2.b .nil pass0 (pa_cons (pv 0) (pa_cons (pe_ix ix_list (pv 1) pe_int (fun _ _ => rfl)) (pa_cons (pe_ix ix_list (pv 1) pe_int (fun _ _ => rfl)) pa_nil)))))) pss_nil)
      (pss_cons (ps_if (pt_cmpR op_lt (pv 0) pe_int (nomark _)) (pss_one (ps_ret (pe_call T1.G hr (by rfl) T1.g T1.kp T1.b .nil pass0 (pa_cons (pv 0) (pa_cons (pe_ix ix_list (pv 1) pe_int (fun _ _ => rfl)) pa_nil))))) pss_nil)
      (pss_cons (ps_if (pt_cmpR op_eq (pv 0) pe_int (nomark _)) (pss_cons (ps_set (i := 2) scMade.nd rfl (Or.inl rfl) (pe_em M12.ox M12.iC M12.tI M12.G (hr.mono (by decide)) M12.b (by rfl) M12.g (pa_cons (pe_ix ix_list (pv 1) pe_int (fun _ _ => rfl)) (pa_cons (pe_ix ix_list (pv 1) pe_int (fun _ _ => rfl)) (pa_cons (pe_ix ix_list (pv 1) pe_int (fun _ _ => rfl)) pa_nil))))) (pss_one (ps_ret (pe_tup (pa_cons (pv 2) (pa_cons (pe_tup (pa_cons (pe_ef (pv 2)) (pa_cons (pe_ef (pv 2)) (pa_cons (pe_ef (pv 2)) pa_nil)))) pa_nil)))))) pss_nil)
      (pss_cons (ps_if (pt_cmpR op_eq (pv 0) pe_int (nomark _)) (pss_cons (ps_set (i := 2) scMade.nd rfl (Or.inl rfl) (pe_em M13.ox M13.iC M13.tI M13.G (hr.mono (by decide)) M13.b (by rfl) M13.g (pa_cons (pe_ix ix_list (pv 1) pe_int (fun _ _ => rfl)) (pa_cons (pe_ix ix_list (pv 1) pe_int (fun _ _ => rfl)) (pa_cons (pe_ix ix_list (pv 1) pe_int (fun _ _ => rfl)) pa_nil))))) (pss_one (ps_ret (pe_tup (pa_cons (pv 2) (pa_cons (pe_tup (pa_cons (pe_ef (pv 2)) (pa_cons (pe_ef (pv 2)) (pa_cons (pe_ef (pv 2)) pa_nil)))) pa_nil)))))) pss_nil)
      (pss_cons (ps_if (pt_cmpR op_eq (pv 0) pe_int (nomark _)) (pss_one (ps_ret (pe_tup (pa_cons (pe_e0 PySem.F.excBase_ValueError N14.q N14.g N14.er.kC (by rfl)) (pa_cons (pe_tup pa_nil) pa_nil))))) pss_nil)
      (pss_cons (ps_if (pt_cmpR op_eq (pv 0) pe_int (nomark _)) (pss_one (ps_ret (pe_tup (pa_cons (pe_e0 PySem.F.excBase_ValueError N15.q N15.g N15.er.kC (by rfl)) (pa_cons (pe_tup pa_nil) pa_nil))))) pss_nil)
      (pss_cons (ps_if (pt_cmpR op_eq (pv 0) pe_int (nomark _)) (pss_one (ps_ret (pe_tup (pa_cons (pe_e0 PySem.F.excBase_ValueError N16.q N16.g N16.er.kC (by rfl)) (pa_cons (pe_tup pa_nil) pa_nil))))) pss_nil)
      (pss_one (ps_ret (pe_tup (pa_cons (pe_ifExp (pt_cmpR op_eq (pv 0) pe_int (nomark _)) (pe_e0 PySem.F.excBase_ValueError N17.q N17.g N17.er.kC (by rfl)) (pe_e0 PySem.F.excBase_ValueError N18.q N18.g N18.er.kC (by rfl))) (pa_cons (pe_tup pa_nil) pa_nil))))))))))), ?_⟩
    refine ⟨_, rfl, _, _, rfl, rfl, _, rfl, ite2 (fun h => ?_) (fun h0 => ?_)⟩
    · have h' := of_decide_eq_true h
      refine ⟨_, rfl, _, rfl, l, [x, y, z], 0, x, rfl, rfl, SqL.of hl, rfl, _, rfl, l, [x, y, z], 1, y, rfl, rfl, SqL.of hl, rfl, j, x, y, rfl, by omega, fun e q p fs H' s1 hp hq he => ?_⟩
      exact k e q p fs 2 H' s1 hp hq he (by decide)
    refine ⟨_, rfl, _, _, rfl, rfl, _, rfl, ite2 (fun h => ?_) (fun h1 => ?_)⟩
    · have h' := of_decide_eq_true h
      have h0' : ¬ (j : Int) < 4 := fun z => h0 (decide_eq_true z)
      refine ⟨_, rfl, _, rfl, l, [x, y, z], 0, x, rfl, rfl, SqL.of hl, rfl, j, x, rfl, by omega, by omega, fun e q p fs H' s1 hp hq he => ?_⟩
      exact k e q p fs 1 H' s1 hp hq he (by decide)
    have h1' : ¬ (j : Int) < 12 := fun z => h1 (decide_eq_true z)
    refine ⟨_, rfl, rfl, _, rfl, ite2 (fun h => ?_) (fun h12 => ?_)⟩
    · obtain rfl : j = 12 := by have := keq h; omega
      refine ⟨_, rfl, l, [x, y, z], 0, x, rfl, rfl, SqL.of hl, rfl, _, rfl, l, [x, y, z], 1, y, rfl, rfl, SqL.of hl, rfl, _, rfl, l, [x, y, z], 2, z, rfl, rfl, SqL.of hl, rfl, by show 3 ≤ 1000; decide, fun e he => ⟨e, [x, y, z], rfl, rfl, upd_same, fun d H' hk ha hd => ⟨rfl, ?_⟩⟩⟩
      refine ⟨_, rfl, _, rfl, e, c 12, d, _, x, rfl, M12.er, M12.no _ (by simp), ha, hd, (look2 (by decide +kernel) _ _).trans ((look2 (by decide +kernel) _ _).trans (look1 _ _ _)), _, rfl, e, c 12, d, _, y, rfl, M12.er, M12.no _ (by simp), ha, hd, (look2 (by decide +kernel) _ _).trans (look1 _ _ _), _, rfl, e, c 12, d, _, z, rfl, M12.er, M12.no _ (by simp), ha, hd, look1 _ _ _, by show 3 ≤ sizeLine; decide, fun q hq => ?_⟩
      refine ⟨by show 2 ≤ sizeLine; decide, fun p hp => ?_⟩
      have zz := mk_end he hk ha hd hq hp
      exact k e q p _ 3 _ zz.1 zz.2.1 zz.2.2.1 zz.2.2.2 (by decide)
    refine ⟨_, rfl, rfl, _, rfl, ite2 (fun h => ?_) (fun h13 => ?_)⟩
    · obtain rfl : j = 13 := by have := keq h; omega
      refine ⟨_, rfl, l, [x, y, z], 0, x, rfl, rfl, SqL.of hl, rfl, _, rfl, l, [x, y, z], 1, y, rfl, rfl, SqL.of hl, rfl, _, rfl, l, [x, y, z], 2, z, rfl, rfl, SqL.of hl, rfl, by show 3 ≤ 1000; decide, fun e he => ⟨e, [x, y, z], rfl, rfl, upd_same, fun d H' hk ha hd => ⟨rfl, ?_⟩⟩⟩
      refine ⟨_, rfl, _, rfl, e, c 13, d, _, x, rfl, M13.er, M13.no _ (by simp), ha, hd, (look2 (by decide +kernel) _ _).trans ((look2 (by decide +kernel) _ _).trans (look1 _ _ _)), _, rfl, e, c 13, d, _, y, rfl, M13.er, M13.no _ (by simp), ha, hd, (look2 (by decide +kernel) _ _).trans (look1 _ _ _), _, rfl, e, c 13, d, _, z, rfl, M13.er, M13.no _ (by simp), ha, hd, look1 _ _ _, by show 3 ≤ sizeLine; decide, fun q hq => ?_⟩
      refine ⟨by show 2 ≤ sizeLine; decide, fun p hp => ?_⟩
      have zz := mk_end he hk ha hd hq hp
      exact k e q p _ 3 _ zz.1 zz.2.1 zz.2.2.1 zz.2.2.2 (by decide)
    refine ⟨_, rfl, rfl, _, rfl, ite2 (fun h => ?_) (fun h14 => ?_)⟩
    · obtain rfl : j = 14 := by have := keq h; omega
      refine fun e he => ⟨by show 0 ≤ sizeLine; decide, fun q hq => ⟨by show 2 ≤ sizeLine; decide, fun p hp => ?_⟩⟩
      have zz := none_end he hq hp
      exact k e q p _ 0 _ zz.1 zz.2.1 zz.2.2.1 zz.2.2.2 (by decide)
    refine ⟨_, rfl, rfl, _, rfl, ite2 (fun h => ?_) (fun h15 => ?_)⟩
    · obtain rfl : j = 15 := by have := keq h; omega
      refine fun e he => ⟨by show 0 ≤ sizeLine; decide, fun q hq => ⟨by show 2 ≤ sizeLine; decide, fun p hp => ?_⟩⟩
      have zz := none_end he hq hp
      exact k e q p _ 0 _ zz.1 zz.2.1 zz.2.2.1 zz.2.2.2 (by decide)
    refine ⟨_, rfl, rfl, _, rfl, ite2 (fun h => ?_) (fun h16 => ?_)⟩
    · obtain rfl : j = 16 := by have := keq h; omega
      refine fun e he => ⟨by show 0 ≤ sizeLine; decide, fun q hq => ⟨by show 2 ≤ sizeLine; decide, fun p hp => ?_⟩⟩
      have zz := none_end he hq hp
      exact k e q p _ 0 _ zz.1 zz.2.1 zz.2.2.1 zz.2.2.2 (by decide)
    refine ⟨_, rfl, rfl, _, rfl, ite2 (fun h => ?_) (fun h17 => ?_)⟩
    · obtain rfl : j = 17 := by have := keq h; omega
      refine fun e he => ⟨by show 0 ≤ sizeLine; decide, fun q hq => ⟨by show 2 ≤ sizeLine; decide, fun p hp => ?_⟩⟩
      have zz := none_end he hq hp
      exact k e q p _ 0 _ zz.1 zz.2.1 zz.2.2.1 zz.2.2.2 (by decide)
    · obtain rfl : j = 18 := by
        have g12 := kne h12
        have g13 := kne h13
        have g14 := kne h14
        have g15 := kne h15
        have g16 := kne h16
        have g17 := kne h17
        omega
      refine fun e he => ⟨by show 0 ≤ sizeLine; decide, fun q hq => ⟨by show 2 ≤ sizeLine; decide, fun p hp => ?_⟩⟩
      have zz := none_end he hq hp
      exact k e q p _ 0 _ zz.1 zz.2.1 zz.2.2.1 zz.2.2.2 (by decide)
end
end Fk

namespace Fk
open PySem L2
/-! ### the classes, told by looks at the written part -/
def errB (K : PySem.W.Frag) (C : Addr) : Bool :=
  decide (PySem.W.findIn K (.ref C) "__getattribute__" = some (some (.builtin "BaseException.__getattribute__"))) && (decide (PySem.W.findIn K (.ref C) "__getattr__" = some none) && (decide (PySem.W.subIn K (.ref C) (.type "BaseException") = some true) &&
  (PySem.W.hasDictIn K C && (PySem.W.keepIn K (.ref C) && ((PySem.W.clsIn K C).isSome && (decide (PySem.W.findIn K (.ref C) "__class__" = some (some (.builtin "object.__class__"))) && decide (PySem.W.mroIn K C (.type "object") = some true)))))))
theorem errB_ok {K : PySem.W.Frag} {C : Addr} (h : errB K C = true) : ErrC K C := by
  unfold errB at h
  simp only [Bool.and_eq_true, decide_eq_true_eq] at h
  obtain ⟨h1, h2, h3, h4, h5, h6, h7, h8⟩ := h
  exact ⟨h1, h2, h3, h4, h5, h6, h7, h8⟩
def oexB (K : PySem.W.Frag) (C : Addr) : Bool := match K.lookup C with
  | some ⟨.type "type", _, .cls cd, sl⟩ => (match cd.mro, sl.toList with
    | .ref C' :: bm, [_, _, _, _, some (.builtin n), _] => C' == C && (n == "ValueError.__new__" && (!cd.hasDel && (cd.hasDict && PySem.HandSPX.refsVE bm)))
    | _, _ => false)
  | _ => false
def oexB2 (K : PySem.W.Frag) (C : Addr) : Bool := oexB K C && (decide (PySem.W.findIn K (.ref C) "__setattr__" = some (some (.builtin "object.__setattr__"))) && (decide (PySem.W.subIn K (.ref C) (.type "BaseException") = some true) && (decide (PySem.W.typeIn K (.ref C) = some (.type "type")) && PySem.W.keepIn K (.ref C))))
theorem oexB_ok {K : PySem.W.Frag} {C : Addr} (q : oexB K C = true) : ∃ nm q N bs bm sn sub ab col dd k0 k1 k2 k3 k5, K.lookup C = some (excClassObj nm q C N bs bm true sn sub ab col dd k0 k1 k2 k3 k5 "ValueError.__new__") ∧ PySem.HandSPX.refsVE bm = true := by
  unfold oexB at q
  split at q
  · rename_i dd cd sl ho
    split at q
    · rename_i D bm s0 s1 s2 s3 n s5 hm hs
      simp only [Bool.and_eq_true, beq_iff_eq, Bool.not_eq_true'] at q
      obtain ⟨rfl, rfl, g1, g2, g3⟩ := q
      obtain ⟨w1, w2, w3, w4, w5, w6, w7, w8, w9, w10, w11⟩ := cd
      dsimp only at hm g1 g2
      subst hm g1 g2
      obtain ⟨ls⟩ := sl
      dsimp only at hs
      subst hs
      exact ⟨_, _, _, _, _, _, _, _, _, _, _, _, _, _, _, ho, g3⟩
    · cases q
  · cases q
theorem oexB2_ok {K : PySem.W.Frag} {C : Addr} (h : oexB2 K C = true) : OexC K C := by
  unfold oexB2 at h
  simp only [Bool.and_eq_true, decide_eq_true_eq] at h
  obtain ⟨h1, h2, h3, h4, h5⟩ := h
  exact ⟨oexB_ok h1, h2, h3, h4, h5⟩
def kitsB (K : PySem.W.Frag) (cs : List Addr) : Bool := cs.all fun C => cs.all fun D => decide (PySem.W.kitOne K (.ref C) (.ref D) = some (C == D))
/-- all that is known of the nineteen classes when one is asked which it is -/
structure Kit (K : PySem.W.Frag) (c : Nat → Addr) : Prop where
  er : ∀ j, j < 19 → ErrC K (c j)
  cm : CommonC K
  kit : ∀ i j, i < 19 → j < 19 → PySem.W.kitOne K (.ref (c j)) (.ref (c i)) = some (decide (i = j))
theorem kit_of_list {K : PySem.W.Frag} {cs : List Addr} (hl : cs.length = 19) (hn : cs.Nodup) (h1 : cs.all (errB K) = true) (cm : CommonC K) (h2 : kitsB K cs = true) : Kit K (fun j => cs.getD j 0) := by
  have at_ : ∀ j, j < 19 → ∃ h : j < cs.length, cs.getD j 0 = cs[j]'h := fun j hj => ⟨by omega, by rw [List.getD_eq_getElem?_getD, List.getElem?_eq_getElem (by omega)]; rfl⟩
  refine ⟨fun j hj => ?_, cm, fun i j hi hj => ?_⟩
  · obtain ⟨h, e⟩ := at_ j hj
    show ErrC K (cs.getD j 0)
    rw [e]
    exact errB_ok (List.all_eq_true.mp h1 _ (List.getElem_mem h))
  · obtain ⟨h, e⟩ := at_ j hj
    obtain ⟨g, e'⟩ := at_ i hi
    show PySem.W.kitOne K (.ref (cs.getD j 0)) (.ref (cs.getD i 0)) = some (decide (i = j))
    rw [e, e']
    have z := of_decide_eq_true (List.all_eq_true.mp (List.all_eq_true.mp h2 _ (List.getElem_mem h)) _ (List.getElem_mem g))
    rw [z]
    by_cases ij : i = j
    · subst ij
      rw [beq_self_eq_true, decide_eq_true rfl]
    · have ne : ¬ cs[j]'h = cs[i]'g := fun q => (Nat.lt_or_gt_of_ne ij).elim (fun o => List.pairwise_iff_getElem.mp hn i j g h o q.symm) (fun o => List.pairwise_iff_getElem.mp hn j i h g o q)
      rw [decide_eq_false ij, beq_eq_false_iff_ne.mpr ne]
def flags (j : Nat) : List V := (List.range 19).map fun i => V.bl (decide (i = j))
theorem flags_eq (j : Nat) : flags j = [V.bl (decide (0 = j)), V.bl (decide (1 = j)), V.bl (decide (2 = j)), V.bl (decide (3 = j)), V.bl (decide (4 = j)), V.bl (decide (5 = j)), V.bl (decide (6 = j)), V.bl (decide (7 = j)), V.bl (decide (8 = j)), V.bl (decide (9 = j)),
    V.bl (decide (10 = j)), V.bl (decide (11 = j)), V.bl (decide (12 = j)), V.bl (decide (13 = j)), V.bl (decide (14 = j)), V.bl (decide (15 = j)), V.bl (decide (16 = j)), V.bl (decide (17 = j)), V.bl (decide (18 = j))] := rfl
def spKinds (c : Nat → Addr) : Sp := fun vs H Q _ => ∃ (e : Addr) (j : Nat) (fs : List (Str × V)), vs = [.ref e] ∧ ErrAt H e (c j) fs ∧ j < 19 ∧ ∀ p H', Same H H' → H' p = some (.lst (flags j)) → Q (.ref p) H'
theorem ErrAt.same {H H' : Hp} {e C : Addr} {fs : List (Str × V)} (h : ErrAt H e C fs) (s : Same H H') : ErrAt H' e C fs := by
  rcases h with ⟨h1, h2⟩ | ⟨d, h1, h2⟩
  · exact .inl ⟨s _ _ h1, h2⟩
  · exact .inr ⟨d, s _ _ h1, s _ _ h2⟩
abbrev sKinds : Stmt := top 30
section
variable {P : Program} {w : World} {K : PySem.W.Frag} {mg : Str → Option Value} {base : Heap}
theorem scKinds : FnScope ["_law_e", "_law_found"] ["_law_e"] (defScope sKinds) := ⟨rfl, rfl, rfl, by decide +kernel, rfl, by decide +kernel, by decide +kernel⟩
theorem ok_kinds {f : Addr} {fd : FuncData} {c : Nat → Addr} (F : Fun K "_law_kinds" "_law_kinds" sKinds f fd) (mi : mg "isinstance" = none) (T : Kit K c)
    (g0 : mg "BadText" = some (.ref (c 0))) (g1 : mg "BadNumber" = some (.ref (c 1))) (g2 : mg "Untold" = some (.ref (c 2))) (g3 : mg "NotKept" = some (.ref (c 3))) (g4 : mg "BadName" = some (.ref (c 4))) (g5 : mg "BadChoice" = some (.ref (c 5))) (g6 : mg "BadPaper" = some (.ref (c 6))) (g7 : mg "NotPlain" = some (.ref (c 7))) (g8 : mg "AllBarred" = some (.ref (c 8))) (g9 : mg "Unlike" = some (.ref (c 9))) (g10 : mg "NoName" = some (.ref (c 10))) (g11 : mg "TakenName" = some (.ref (c 11))) (g12 : mg "TooMany" = some (.ref (c 12))) (g13 : mg "TooLarge" = some (.ref (c 13))) (g14 : mg "HasLetter" = some (.ref (c 14))) (g15 : mg "NoLetter" = some (.ref (c 15))) (g16 : mg "NoSolution" = some (.ref (c 16))) (g17 : mg "NothingToUndo" = some (.ref (c 17))) (g18 : mg "NothingToRedo" = some (.ref (c 18))) :
    FnOk P w K mg base CX0 1 f fd ["_law_e"] (spKinds c) := by
  refine F.ok scKinds (fun vs H Q E h => ?_) (fun cdv A outer s H vs Q E hr h => ?_)
  · obtain ⟨e, j, fs, rfl, _⟩ := h
    rfl
  · obtain ⟨e, j, fs, rfl, he, hj, k⟩ := h
    refine ⟨_, (pss_cons (ps_set (i := 1) scKinds.nd rfl (Or.inl rfl) (pe_lst (pa_cons (pe_callB call_isO (by rfl) mi (by decide +kernel) (pa_cons (pv 0) (pa_cons (pe_glob (v := .ref (c 0)) (by rfl) g0 rfl) pa_nil))) (pa_cons (pe_callB call_isO (by rfl) mi (by decide +kernel) (pa_cons (pv 0) (pa_cons (pe_glob (v := .ref (c 1)) (by rfl) g1 rfl) pa_nil))) (pa_cons (pe_callB call_isO (by rfl) mi (by decide +kernel) (pa_cons (pv 0) (pa_cons (pe_glob (v := .ref (c 2)) (by rfl) g2 rfl) pa_nil))) (pa_cons (pe_callB call_isO (by rfl) mi (by decide +kernel) (pa_cons (pv 0) (pa_cons (pe_glob (v := .ref (c 3)) (by rfl) g3 rfl) pa_nil))) pa_nil))))))
      (pss_cons (ps_set (i := 1) scKinds.nd rfl (Or.inl rfl) (pe_op op_cat (pv 1) (pe_lst (pa_cons (pe_callB call_isO (by rfl) mi (by decide +kernel) (pa_cons (pv 0) (pa_cons (pe_glob (v := .ref (c 4)) (by rfl) g4 rfl) pa_nil))) (pa_cons (pe_callB call_isO (by rfl) mi (by decide +kernel) (pa_cons (pv 0) (pa_cons (pe_glob (v := .ref (c 5)) (by rfl) g5 rfl) pa_nil))) (pa_cons (pe_callB call_isO (by rfl) mi (by decide +kernel) (pa_cons (pv 0) (pa_cons (pe_glob (v := .ref (c 6)) (by rfl) g6 rfl) pa_nil))) (pa_cons (pe_callB call_isO (by rfl) mi (by decide +kernel) (pa_cons (pv 0) (pa_cons (pe_glob (v := .ref (c 7)) (by rfl) g7 rfl) pa_nil))) pa_nil)))))))
      (pss_cons (ps_set (i := 1) scKinds.nd rfl (Or.inl rfl) (pe_op op_cat (pv 1) (pe_lst (pa_cons (pe_callB call_isO (by rfl) mi (by decide +kernel) (pa_cons (pv 0) (pa_cons (pe_glob (v := .ref (c 8)) (by rfl) g8 rfl) pa_nil))) (pa_cons (pe_callB call_isO (by rfl) mi (by decide +kernel) (pa_cons (pv 0) (pa_cons (pe_glob (v := .ref (c 9)) (by rfl) g9 rfl) pa_nil))) (pa_cons (pe_callB call_isO (by rfl) mi (by decide +kernel) (pa_cons (pv 0) (pa_cons (pe_glob (v := .ref (c 10)) (by rfl) g10 rfl) pa_nil))) (pa_cons (pe_callB call_isO (by rfl) mi (by decide +kernel) (pa_cons (pv 0) (pa_cons (pe_glob (v := .ref (c 11)) (by rfl) g11 rfl) pa_nil))) pa_nil)))))))
      (pss_cons (ps_set (i := 1) scKinds.nd rfl (Or.inl rfl) (pe_op op_cat (pv 1) (pe_lst (pa_cons (pe_callB call_isO (by rfl) mi (by decide +kernel) (pa_cons (pv 0) (pa_cons (pe_glob (v := .ref (c 12)) (by rfl) g12 rfl) pa_nil))) (pa_cons (pe_callB call_isO (by rfl) mi (by decide +kernel) (pa_cons (pv 0) (pa_cons (pe_glob (v := .ref (c 13)) (by rfl) g13 rfl) pa_nil))) (pa_cons (pe_callB call_isO (by rfl) mi (by decide +kernel) (pa_cons (pv 0) (pa_cons (pe_glob (v := .ref (c 14)) (by rfl) g14 rfl) pa_nil))) (pa_cons (pe_callB call_isO (by rfl) mi (by decide +kernel) (pa_cons (pv 0) (pa_cons (pe_glob (v := .ref (c 15)) (by rfl) g15 rfl) pa_nil))) pa_nil)))))))
      (pss_one (ps_ret (pe_op op_cat (pv 1) (pe_lst (pa_cons (pe_callB call_isO (by rfl) mi (by decide +kernel) (pa_cons (pv 0) (pa_cons (pe_glob (v := .ref (c 16)) (by rfl) g16 rfl) pa_nil))) (pa_cons (pe_callB call_isO (by rfl) mi (by decide +kernel) (pa_cons (pv 0) (pa_cons (pe_glob (v := .ref (c 17)) (by rfl) g17 rfl) pa_nil))) (pa_cons (pe_callB call_isO (by rfl) mi (by decide +kernel) (pa_cons (pv 0) (pa_cons (pe_glob (v := .ref (c 18)) (by rfl) g18 rfl) pa_nil))) pa_nil))))))))))), ?_⟩
    refine ⟨_, rfl, e, c j, fs, .ref (c 0), .ref (c 0), decide (0 = j), rfl, .own _, he, T.er j hj, T.cm, T.kit 0 j (by decide) hj, _, rfl, e, c j, fs, .ref (c 1), .ref (c 1), decide (1 = j), rfl, .own _, he, T.er j hj, T.cm, T.kit 1 j (by decide) hj, _, rfl, e, c j, fs, .ref (c 2), .ref (c 2), decide (2 = j), rfl, .own _, he, T.er j hj, T.cm, T.kit 2 j (by decide) hj, _, rfl, e, c j, fs, .ref (c 3), .ref (c 3), decide (3 = j), rfl, .own _, he, T.er j hj, T.cm, T.kit 3 j (by decide) hj, by show 4 ≤ sizeLine; decide, fun l0 n0 => ?_⟩
    have s0 : Same H _ := same_new (o := .lst [V.bl (decide (0 = j)), V.bl (decide (1 = j)), V.bl (decide (2 = j)), V.bl (decide (3 = j))]) n0
    have e0 := he.same s0
    refine ⟨_, rfl, _, rfl, e, c j, fs, .ref (c 4), .ref (c 4), decide (4 = j), rfl, .own _, e0, T.er j hj, T.cm, T.kit 4 j (by decide) hj, _, rfl, e, c j, fs, .ref (c 5), .ref (c 5), decide (5 = j), rfl, .own _, e0, T.er j hj, T.cm, T.kit 5 j (by decide) hj, _, rfl, e, c j, fs, .ref (c 6), .ref (c 6), decide (6 = j), rfl, .own _, e0, T.er j hj, T.cm, T.kit 6 j (by decide) hj, _, rfl, e, c j, fs, .ref (c 7), .ref (c 7), decide (7 = j), rfl, .own _, e0, T.er j hj, T.cm, T.kit 7 j (by decide) hj, by show 4 ≤ sizeLine; decide, fun m1 k1 => ?_⟩
    have t1 := same_new (o := .lst [V.bl (decide (4 = j)), V.bl (decide (5 = j)), V.bl (decide (6 = j)), V.bl (decide (7 = j))]) k1
    refine ⟨l0, m1, [V.bl (decide (0 = j)), V.bl (decide (1 = j)), V.bl (decide (2 = j)), V.bl (decide (3 = j))], [V.bl (decide (4 = j)), V.bl (decide (5 = j)), V.bl (decide (6 = j)), V.bl (decide (7 = j))], rfl, rfl, t1 _ _ upd_same, upd_same, by show 4 + 4 ≤ sizeLine; decide, fun l1 n1 => ?_⟩
    have s1 := (s0.trans t1).trans (same_new (o := .lst [V.bl (decide (0 = j)), V.bl (decide (1 = j)), V.bl (decide (2 = j)), V.bl (decide (3 = j)), V.bl (decide (4 = j)), V.bl (decide (5 = j)), V.bl (decide (6 = j)), V.bl (decide (7 = j))]) n1)
    have e1 := he.same s1
    refine ⟨_, rfl, _, rfl, e, c j, fs, .ref (c 8), .ref (c 8), decide (8 = j), rfl, .own _, e1, T.er j hj, T.cm, T.kit 8 j (by decide) hj, _, rfl, e, c j, fs, .ref (c 9), .ref (c 9), decide (9 = j), rfl, .own _, e1, T.er j hj, T.cm, T.kit 9 j (by decide) hj, _, rfl, e, c j, fs, .ref (c 10), .ref (c 10), decide (10 = j), rfl, .own _, e1, T.er j hj, T.cm, T.kit 10 j (by decide) hj, _, rfl, e, c j, fs, .ref (c 11), .ref (c 11), decide (11 = j), rfl, .own _, e1, T.er j hj, T.cm, T.kit 11 j (by decide) hj, by show 4 ≤ sizeLine; decide, fun m2 k2 => ?_⟩
    have t2 := same_new (o := .lst [V.bl (decide (8 = j)), V.bl (decide (9 = j)), V.bl (decide (10 = j)), V.bl (decide (11 = j))]) k2
    refine ⟨l1, m2, [V.bl (decide (0 = j)), V.bl (decide (1 = j)), V.bl (decide (2 = j)), V.bl (decide (3 = j)), V.bl (decide (4 = j)), V.bl (decide (5 = j)), V.bl (decide (6 = j)), V.bl (decide (7 = j))], [V.bl (decide (8 = j)), V.bl (decide (9 = j)), V.bl (decide (10 = j)), V.bl (decide (11 = j))], rfl, rfl, t2 _ _ upd_same, upd_same, by show 8 + 4 ≤ sizeLine; decide, fun l2 n2 => ?_⟩
    have s2 := (s1.trans t2).trans (same_new (o := .lst [V.bl (decide (0 = j)), V.bl (decide (1 = j)), V.bl (decide (2 = j)), V.bl (decide (3 = j)), V.bl (decide (4 = j)), V.bl (decide (5 = j)), V.bl (decide (6 = j)), V.bl (decide (7 = j)), V.bl (decide (8 = j)), V.bl (decide (9 = j)), V.bl (decide (10 = j)), V.bl (decide (11 = j))]) n2)
    have e2 := he.same s2
    refine ⟨_, rfl, _, rfl, e, c j, fs, .ref (c 12), .ref (c 12), decide (12 = j), rfl, .own _, e2, T.er j hj, T.cm, T.kit 12 j (by decide) hj, _, rfl, e, c j, fs, .ref (c 13), .ref (c 13), decide (13 = j), rfl, .own _, e2, T.er j hj, T.cm, T.kit 13 j (by decide) hj, _, rfl, e, c j, fs, .ref (c 14), .ref (c 14), decide (14 = j), rfl, .own _, e2, T.er j hj, T.cm, T.kit 14 j (by decide) hj, _, rfl, e, c j, fs, .ref (c 15), .ref (c 15), decide (15 = j), rfl, .own _, e2, T.er j hj, T.cm, T.kit 15 j (by decide) hj, by show 4 ≤ sizeLine; decide, fun m3 k3 => ?_⟩
    have t3 := same_new (o := .lst [V.bl (decide (12 = j)), V.bl (decide (13 = j)), V.bl (decide (14 = j)), V.bl (decide (15 = j))]) k3
    refine ⟨l2, m3, [V.bl (decide (0 = j)), V.bl (decide (1 = j)), V.bl (decide (2 = j)), V.bl (decide (3 = j)), V.bl (decide (4 = j)), V.bl (decide (5 = j)), V.bl (decide (6 = j)), V.bl (decide (7 = j)), V.bl (decide (8 = j)), V.bl (decide (9 = j)), V.bl (decide (10 = j)), V.bl (decide (11 = j))], [V.bl (decide (12 = j)), V.bl (decide (13 = j)), V.bl (decide (14 = j)), V.bl (decide (15 = j))], rfl, rfl, t3 _ _ upd_same, upd_same, by show 12 + 4 ≤ sizeLine; decide, fun l3 n3 => ?_⟩
    have s3 := (s2.trans t3).trans (same_new (o := .lst [V.bl (decide (0 = j)), V.bl (decide (1 = j)), V.bl (decide (2 = j)), V.bl (decide (3 = j)), V.bl (decide (4 = j)), V.bl (decide (5 = j)), V.bl (decide (6 = j)), V.bl (decide (7 = j)), V.bl (decide (8 = j)), V.bl (decide (9 = j)), V.bl (decide (10 = j)), V.bl (decide (11 = j)), V.bl (decide (12 = j)), V.bl (decide (13 = j)), V.bl (decide (14 = j)), V.bl (decide (15 = j))]) n3)
    have e3 := he.same s3
    refine ⟨_, rfl, _, rfl, e, c j, fs, .ref (c 16), .ref (c 16), decide (16 = j), rfl, .own _, e3, T.er j hj, T.cm, T.kit 16 j (by decide) hj, _, rfl, e, c j, fs, .ref (c 17), .ref (c 17), decide (17 = j), rfl, .own _, e3, T.er j hj, T.cm, T.kit 17 j (by decide) hj, _, rfl, e, c j, fs, .ref (c 18), .ref (c 18), decide (18 = j), rfl, .own _, e3, T.er j hj, T.cm, T.kit 18 j (by decide) hj, by show 3 ≤ sizeLine; decide, fun m4 k4 => ?_⟩
    have t4 := same_new (o := .lst [V.bl (decide (16 = j)), V.bl (decide (17 = j)), V.bl (decide (18 = j))]) k4
    refine ⟨l3, m4, [V.bl (decide (0 = j)), V.bl (decide (1 = j)), V.bl (decide (2 = j)), V.bl (decide (3 = j)), V.bl (decide (4 = j)), V.bl (decide (5 = j)), V.bl (decide (6 = j)), V.bl (decide (7 = j)), V.bl (decide (8 = j)), V.bl (decide (9 = j)), V.bl (decide (10 = j)), V.bl (decide (11 = j)), V.bl (decide (12 = j)), V.bl (decide (13 = j)), V.bl (decide (14 = j)), V.bl (decide (15 = j))], [V.bl (decide (16 = j)), V.bl (decide (17 = j)), V.bl (decide (18 = j))], rfl, rfl, t4 _ _ upd_same, upd_same, by show 16 + 3 ≤ sizeLine; decide, fun l4 n4 => ?_⟩
    have s4 := (s3.trans t4).trans (same_new (o := .lst [V.bl (decide (0 = j)), V.bl (decide (1 = j)), V.bl (decide (2 = j)), V.bl (decide (3 = j)), V.bl (decide (4 = j)), V.bl (decide (5 = j)), V.bl (decide (6 = j)), V.bl (decide (7 = j)), V.bl (decide (8 = j)), V.bl (decide (9 = j)), V.bl (decide (10 = j)), V.bl (decide (11 = j)), V.bl (decide (12 = j)), V.bl (decide (13 = j)), V.bl (decide (14 = j)), V.bl (decide (15 = j)), V.bl (decide (16 = j)), V.bl (decide (17 = j)), V.bl (decide (18 = j))]) n4)
    have e4 := he.same s4
    exact k l4 _ s4 (by rw [flags_eq]; exact upd_same)
end
end Fk

namespace Fk
open PySem L2
/-! ### what a menu holds, read as data -/
/-- what is told of a value that may be shown -/
structure Fine (d : PyData) : Prop where
  show_ : d.showable = true
  nod : d.hasDict = false
  dep : d.depth ≤ 1
  len : d.shown.length ≤ 1000
inductive Item (H : Hp) : V → Prop
  | non : Item H .non
  | bl (b : Bool) : Item H (.bl b)
  | int (i : Int) (g : -10 < i) (h : i < 10 ^ 60) : Item H (.int i)
  | str (z : Str) (h1 : Plain z) (h2 : z.length ≤ 20) : Item H (.str z)
  | pair (t : Addr) (e : H t = some (.tup [.int 1, .int 2])) : Item H (.ref t)
  | one (t : Addr) (e : H t = some (.lst [.int 3])) : Item H (.ref t)
  | twoS (t : Addr) (e : H t = some (.tup [.str "b", .str "c"])) : Item H (.ref t)
theorem Item.keep {H H' : Hp} {p : Addr} {u : HO} {x : V} (h : Item H x) (k : Keep p H H') (hp : H p = some u) (n1 : ∀ xs, u ≠ .tup xs) (n2 : ∀ xs, u ≠ .lst xs) : Item H' x := by
  cases h with
  | non => exact .non
  | bl b => exact .bl b
  | int i g h => exact .int i g h
  | str z h1 h2 => exact .str z h1 h2
  | pair t e => exact .pair t (k.there hp e (fun z => n1 _ z.symm))
  | one t e => exact .one t (k.there hp e (fun z => n2 _ z.symm))
  | twoS t e => exact .twoS t (k.there hp e (fun z => n1 _ z.symm))
theorem Item.same {H H' : Hp} {x : V} (h : Item H x) (s : Same H H') : Item H' x := by
  cases h with
  | non => exact .non
  | bl b => exact .bl b
  | int i g h => exact .int i g h
  | str z h1 h2 => exact .str z h1 h2
  | pair t e => exact .pair t (s _ _ e)
  | one t e => exact .one t (s _ _ e)
  | twoS t e => exact .twoS t (s _ _ e)
theorem log_small {n : Nat} (h : n < 10 ^ 60) : n.log2 < 1920 := by
  by_cases hn : n = 0
  · rw [hn]
    decide
  · exact Nat.lt_of_lt_of_le ((Nat.log2_lt hn).mpr (Nat.lt_trans h (show (10 : Nat) ^ 60 < 2 ^ 200 by decide))) (by decide)
theorem int_text_len {i : Int} (g : -10 < i) (h : i < 10 ^ 60) : (Str.ofString (toString i)).length ≤ 1000 := by
  by_cases h0 : 0 ≤ i
  · exact Nat.le_trans (PyProof.Rows.toString_length_le h0 (k := 60) (by decide) h) (by decide)
  · have z : i = -1 ∨ i = -2 ∨ i = -3 ∨ i = -4 ∨ i = -5 ∨ i = -6 ∨ i = -7 ∨ i = -8 ∨ i = -9 := by omega
    rcases z with z | z | z | z | z | z | z | z | z <;> subst z <;> decide +kernel
theorem Item.data {K : PySem.W.Frag} {H : Hp} {x : V} (h : Item H x) : ∃ d, (∀ H', Same H H' → Dp K H' x d) ∧ Fine d := by
  cases h with
  | non => exact ⟨.none, fun H' s => .non, rfl, rfl, Nat.zero_le _, by decide⟩
  | bl b => exact ⟨.bool b, fun H' s => .bl b, rfl, rfl, Nat.zero_le _, by cases b <;> decide⟩
  | int i g h => exact ⟨.int i, fun H' s => .int i, decide_eq_true (log_small (by omega)), rfl, Nat.zero_le _, int_text_len g h⟩
  | str z h1 h2 => exact ⟨.str z, fun H' s => .str z, rfl, rfl, Nat.zero_le _, Nat.le_trans (StrLaws.reprText_len z fun c hc => Nat.lt_trans (h1 c hc) (by decide)) (by omega)⟩
  | pair t e => exact ⟨.tuple [.int 1, .int 2], fun H' s => .tup (SqT.of (s _ _ e)) (.cons (.int 1) (.cons (.int 2) .nil)), by decide +kernel, by decide +kernel, by decide +kernel, by decide +kernel⟩
  | one t e => exact ⟨.list [.int 3], fun H' s => .lst (SqL.of (s _ _ e)) (.cons (.int 3) .nil), by decide +kernel, by decide +kernel, by decide +kernel, by decide +kernel⟩
  | twoS t e => exact ⟨.tuple [.str "b", .str "c"], fun H' s => .tup (SqT.of (s _ _ e)) (.cons (.str "b") (.cons (.str "c") .nil)), by decide +kernel, by decide +kernel, by decide +kernel, by decide +kernel⟩
/-- a tuple of at most three such values -/
theorem items_data {K : PySem.W.Frag} {H : Hp} : ∀ (xs : List V), (∀ x ∈ xs, Item H x) → ∃ ds, (∀ H', Same H H' → DpAll K H' xs ds) ∧ ds.length = xs.length ∧ ∀ d ∈ ds, Fine d
  | [], _ => ⟨[], fun _ _ => .nil, rfl, fun _ h => nomatch h⟩
  | x :: xs, h => by
    obtain ⟨d, h1, h2⟩ := (h x (List.mem_cons_self ..)).data (K := K)
    obtain ⟨ds, g1, g2, g3⟩ := items_data (K := K) xs fun y hy => h y (List.mem_cons_of_mem _ hy)
    refine ⟨d :: ds, fun H' s => .cons (h1 H' s) (g1 H' s), by rw [List.length_cons, List.length_cons, g2], fun e he => ?_⟩
    rcases List.mem_cons.mp he with z | z
    · rw [z]
      exact h2
    · exact g3 e z
theorem fine_all : ∀ (ds : List PyData), (∀ d ∈ ds, Fine d) → PyData.showableAll ds = true ∧ PyData.hasDictAll ds = false ∧ PyData.depthAll ds ≤ 1 ∧ ((PyData.shownAll ds).map (·.length)).sum ≤ 1000 * ds.length ∧ (PyData.shownAll ds).length = ds.length
  | [], _ => ⟨rfl, rfl, Nat.zero_le _, Nat.zero_le _, rfl⟩
  | d :: ds, h => by
    obtain ⟨a1, a2, a3, a4⟩ := h d (List.mem_cons_self ..)
    obtain ⟨b1, b2, b3, b4, b5⟩ := fine_all ds fun e he => h e (List.mem_cons_of_mem _ he)
    refine ⟨?_, ?_, ?_, ?_, ?_⟩
    · show (PyData.showable d && PyData.showableAll ds) = true
      rw [a1, b1]
      rfl
    · show (PyData.hasDict d || PyData.hasDictAll ds) = false
      rw [a2, b2]
      rfl
    · show max (PyData.depth d) (PyData.depthAll ds) ≤ 1
      omega
    · show (PyData.shown d).length + ((PyData.shownAll ds).map (·.length)).sum ≤ 1000 * (ds.length + 1)
      omega
    · show (PyData.shownAll ds).length + 1 = ds.length + 1
      rw [b5]
theorem fine_tuple {ds : List PyData} (h : ∀ d ∈ ds, Fine d) (hl : ds.length ≤ 3) : (PyData.tuple ds).showable = true ∧ (PyData.tuple ds).hasDict = false ∧ (PyData.tuple ds).depth ≤ 10 ∧ (PyData.tuple ds).shown.length ≤ sizeLine := by
  obtain ⟨b1, b2, b3, b4, b5⟩ := fine_all ds h
  refine ⟨b1, b2, ?_, ?_⟩
  · show PyData.depthAll ds + 1 ≤ 10
    omega
  · refine Nat.le_trans (tupleText_len_le (PyData.shownAll ds)) ?_
    rw [b5]
    refine Nat.le_trans (m := 4000) (by omega) (by decide)
theorem cut_take (xs : List V) (n : Nat) : cutV xs none (some (n : Int)) = xs.take n := by
  unfold cutV
  rw [HT.sIx_nat, HT.sIx_none, List.drop_zero, Nat.sub_zero]
  by_cases h : n ≤ xs.length
  · rw [Nat.min_eq_left h]
  · rw [Nat.min_eq_right (by omega), List.take_of_length_le (Nat.le_refl _), List.take_of_length_le (by omega)]
end Fk

namespace Fk
open PySem L2
abbrev sLaw : Stmt := top 31
abbrev nsLaw : List Str := ["_law_script", "_law_pen_here", "_law_kind", "_law_menu", "_law_values", "_law_e", "_law_fields", "_law_k"]
def spLaw (K : PySem.W.Frag) : Sp := fun vs H Q _ => ∃ (a : Addr) (ns : List Int), vs = [.ref a] ∧ SqL K H a (ns.map V.int) ∧ ns.length ≤ 63 ∧ ∀ H', Q (.bl true) H'
theorem scLaw : FnScope nsLaw ["_law_script"] (defScope sLaw) := ⟨rfl, rfl, rfl, by decide +kernel, rfl, by decide +kernel, by decide +kernel⟩
section
variable {P : Program} {w : World} {K : PySem.W.Frag} {mg : Str → Option Value} {base : Heap}
/-- the defs and the names that the law's own def stands on -/
structure Env3 (P : Program) (w : World) (K : PySem.W.Frag) (mg : Str → Option Value) (base : Heap) (c : Nat → Addr) (FE fp fb fn fd_ fk fm fs : Addr) (dp db dn dd dk dm ds : FuncData) : Prop where
  pen : Cl P w K mg base "_law_pen" ["_law_script"] 1 (spPen K) fp dp
  big : Cl P w K mg base "_law_big" psBig 3 spBig fb db
  name : Cl P w K mg base "_law_name" psName 3 spName0 fn dn
  draw : Cl P w K mg base "_law_draw" psDraw 1 spDraw fd_ dd
  pick : Cl P w K mg base "_law_pick" psPick 2 spPick fk dk
  made : Cl P w K mg base "_law_made" psMade 4 (spMade c) fm dm
  kinds : Cl P w K mg base "_law_kinds" ["_law_e"] 1 (spKinds c) fs ds
  kit : Kit K c
  up : ∀ j, j < 19 → PySem.W.kitOne K (.ref (c j)) (.ref FE) = some true ∧ PySem.W.kitOne K (.ref (c j)) (.type "ValueError") = some true
  gF : mg "FoeError" = some (.ref FE)
  mr : mg "range" = none
  mi : mg "isinstance" = none
  mp : mg "repr" = none
  mt : mg "tuple" = none
  ml : mg "len" = none
  mv : mg "ValueError" = none
theorem PenAt.dk {H : Hp} {p l : Addr} {c : Int} (h : PenAt H p l c) : ∃ kv, H p = some (.dK kv) := by
  obtain ⟨⟨a, d, f, ns, h1, _⟩, _⟩ := h
  exact ⟨_, h1⟩
theorem PenAt.ls {H : Hp} {p l : Addr} {c : Int} (h : PenAt H p l c) : ∃ ns, H l = some (.lst ns) := by
  obtain ⟨⟨a, d, f, ns, _, h2, _⟩, _⟩ := h
  exact ⟨_, h2⟩
theorem Item.keepP {H H' : Hp} {p l : Addr} {c : Int} {x : V} (h : Item H x) (k : Keep p H H') (P : PenAt H p l c) : Item H' x := by
  obtain ⟨kv, e⟩ := P.dk
  exact h.keep k e (fun _ z => nomatch z) fun _ z => nomatch z
theorem PenAt.ne {H : Hp} {p l q : Addr} {c : Int} (P : PenAt H p l c) (h : H q = none) : q ≠ p := by
  obtain ⟨kv, e⟩ := P.dk
  exact (ne_of_none e h).symm
theorem PenAt.neL {H : Hp} {p l q : Addr} {c : Int} {xs : List V} (P : PenAt H p l c) (h : H q = some (.lst xs)) : q ≠ p := by
  obtain ⟨kv, e⟩ := P.dk
  exact ne_of h e (by intro z; cases z)
theorem PenAt.same {H H' : Hp} {p l : Addr} {c : Int} (P : PenAt H p l c) (s : Same H H') : PenAt H' p l c := by
  obtain ⟨⟨a, d, f, ns, h1, h2, r⟩, lo⟩ := P
  exact ⟨⟨a, d, f, ns, s _ _ h1, s _ _ h2, r⟩, lo⟩
theorem bl_nat (m i : Nat) : decide (V.int (0 + (m : Int)) = V.int (0 + (i : Int))) = decide (m = i) := by
  by_cases h : m = i
  · rw [h, decide_eq_true rfl, decide_eq_true rfl]
  · rw [decide_eq_false h, decide_eq_false fun z => h (by have := V.int.inj z; omega)]
theorem bools {K : PySem.W.Frag} {H : Hp} (g : Nat → Bool) : ∀ L : List Nat, DpAll K H (L.map fun m => V.bl (g m)) (L.map fun m => PyData.bool (g m))
  | [] => .nil
  | m :: L => .cons (.bl _) (bools g L)
def menuL (r : Int) (z : Str) (t1 t2 : Addr) (r2 : Int) (t3 : Addr) : List V := [.non, .bl true, .int r, .str "", .str z, .ref t1, .ref t2, .int (-1 - r2), .ref t3]
theorem ok_law {f : Addr} {fd : FuncData} {c : Nat → Addr} {FE fp fb fn fd_ fk fm fs : Addr} {dp db dn dd dk dm ds : FuncData} (F : Fun K "law" "law" sLaw f fd) (T : Env3 P w K mg base c FE fp fb fn fd_ fk fm fs dp db dn dd dk dm ds) : FnG P w K mg base 5 f fd ["_law_script"] (spLaw K) := by
  refine fun_okG F scLaw (fun vs H Q E h => ?_) (fun cdv A outer s H vs Q E hg hr h => ?_)
  · obtain ⟨a, ns, rfl, _⟩ := h
    rfl
  · obtain ⟨a, ns, rfl, hS, hl, k⟩ := h
    have hr1 : Room 1 _ := hr.mono (by decide)
    have hr2 : Room 2 _ := hr.mono (by decide)
    have hr3 : Room 3 _ := hr.mono (by decide)
    refine ⟨_, pss_cons (ps_set (i := 1) scLaw.nd rfl (Or.inl rfl) (pe_call T.pen.G hr1 (by rfl) T.pen.g T.pen.kp T.pen.b .nil pass0 (pa_cons (pv 0) pa_nil)))
      (pss_cons (ps_for PassesOwn.never rfl (pi_range1 (by rfl) T.mr (pa_cons pe_int pa_nil)) (pg_name (i := 2) scLaw.nd rfl (Or.inr rfl))
        (pss_cons (ps_set (i := 3) scLaw.nd rfl (Or.inl rfl) (pe_lst (pa_cons pe_non (pa_cons pe_bl (pa_cons (pe_call T.big.G hr3 (by rfl) T.big.g T.big.kp T.big.b .nil pass0 (pa_cons (pv 1) (pa_cons pe_int pa_nil))) (pa_cons pe_str
            (pa_cons (pe_call T.name.G hr3 (by rfl) T.name.g T.name.kp T.name.b .nil pass0 (pa_cons (pv 1) (pa_cons (pe_lst pa_nil) pa_nil))) (pa_cons (pe_tup (pa_cons pe_int (pa_cons pe_int pa_nil))) (pa_cons (pe_lst (pa_cons pe_int pa_nil))
            (pa_cons (pe_op op_sub (pe_un un_neg pe_int) (pe_call T.draw.G hr1 (by rfl) T.draw.g T.draw.kp T.draw.b .nil pass0 (pa_cons (pv 1) (pa_cons pe_int pa_nil)))) (pa_cons (pe_tup (pa_cons pe_str (pa_cons pe_str pa_nil))) pa_nil)))))))))))
        (pss_cons (ps_set (i := 4) scLaw.nd rfl (Or.inl rfl) (pe_lst (pa_cons (pe_call T.pick.G hr2 (by rfl) T.pick.g T.pick.kp T.pick.b .nil pass0 (pa_cons (pv 1) (pa_cons (pv 3) pa_nil)))
            (pa_cons (pe_call T.pick.G hr2 (by rfl) T.pick.g T.pick.kp T.pick.b .nil pass0 (pa_cons (pv 1) (pa_cons (pv 3) pa_nil))) (pa_cons (pe_call T.pick.G hr2 (by rfl) T.pick.g T.pick.kp T.pick.b .nil pass0 (pa_cons (pv 1) (pa_cons (pv 3) pa_nil))) pa_nil)))))
        (pss_cons (ps_asg (pe_call T.made.G hr (by rfl) T.made.g T.made.kp T.made.b .nil pass0 (pa_cons (pv 2) (pa_cons (pv 4) pa_nil))) (pg_tup (by rfl) (pgs_cons (pg_name (i := 5) scLaw.nd rfl (Or.inl rfl)) (pgs_cons (pg_name (i := 6) scLaw.nd rfl (Or.inl rfl)) pgs_nil))))
        (pss_cons (ps_if (pt_cmpR op_ne (pe_callB (call_reprD hg hr.units) (by rfl) T.mp (by decide +kernel) (pa_cons (pv 6) pa_nil))
            (pe_callB (call_reprD hg hr.units) (by rfl) T.mp (by decide +kernel) (pa_cons (pe_callTy call_tuple_of (by rfl) T.mt (by decide +kernel) (pa_cons (pe_slice sl_list (pv 4) po_none (po_some (pe_callB call_len_seq (by rfl) T.ml PySem.boot_len (pa_cons (pv 6) pa_nil)))) pa_nil)) pa_nil)) (nomark _)) (pss_one (ps_ret pe_bl)) pss_nil)
        (pss_cons (ps_if (PW.pt (pw_or (pt_not (pt_val (pe_callB call_isO (by rfl) T.mi (by decide +kernel) (pa_cons (pv 5) (pa_cons (pe_glob (v := .ref FE) (by rfl) T.gF rfl) pa_nil)))))
            (pw_or1 (pt_not (pt_val (pe_callB call_isO (by rfl) T.mi (by decide +kernel) (pa_cons (pv 5) (pa_cons (pe_bltn (v := .ty "ValueError") (by rfl) T.mv (by decide +kernel) rfl) pa_nil)))))))) (pss_one (ps_ret pe_bl)) pss_nil)
        (pss_one (ps_if (pt_cmpR (op_neD hr.units) (pe_call T.kinds.G hr1 (by rfl) T.kinds.g T.kinds.kp T.kinds.b .nil pass0 (pa_cons (pv 5) pa_nil))
            (pe_lc (own := [("_law_k", 7)]) (g := gName 7) (tt := tYes) rfl scLaw.nd (pi_range1 (by rfl) T.mr (pa_cons pe_int pa_nil)) (blkOk_by (N := nsLaw) (sc := defScope sLaw) (by decide +kernel)) (fun _ _ _ _ _ => pg_name (i := 7) scLaw.nd rfl (Or.inl rfl)) (fun _ _ _ _ _ => pts_nil) (fun _ _ _ _ _ => pe_cmpR op_eq (pv 7) (pv 2) (nomark _))) (nomark _)) (pss_one (ps_ret pe_bl)) pss_nil))))))))
      (pss_one (ps_ret pe_bl))), ?_⟩
    refine ⟨_, rfl, a, ns, rfl, hS, hl, fun p l H1 s1 np nl P1 => ?_⟩
    refine ⟨19, rfl, by decide, by decide, ?_⟩
    refine for_range (lo := 0) (n := 19) (fun i σ H2 => ∃ (c1 : Int) (v2 v3 v4 v5 v6 : Option V), σ = [some (.ref a), some (.ref p), v2, v3, v4, v5, v6, none] ∧ PenAt H2 p l c1 ∧ c1 ≤ 100 * i)
      ⟨0, none, none, none, none, none, rfl, P1, by decide⟩ ?_ ?_
    · rintro i σ H2 hi ⟨c1, v2, v3, v4, v5, v6, rfl, P2, hc⟩
      -- the menu
      refine ⟨_, rfl, p, l, c1, 40, rfl, P2, by omega, by decide, by decide, fun r c2 H3 r0 r1 c3 c4 P3 k3 => ?_⟩
      refine ⟨_, rfl, by show 0 ≤ sizeLine; decide, fun u nu => ?_⟩
      obtain ⟨ns2, hl3⟩ := P3.ls
      refine ⟨p, l, u, c2, rfl, P3.upd nu, by omega, upd_same, ne_of_none hl3 nu, fun z c5 H4 z0 z1 c6 c7 P4 k4 => ?_⟩
      refine ⟨by show 2 ≤ sizeLine; decide, fun t1 nt1 => ?_⟩
      refine ⟨by show 1 ≤ sizeLine; decide, fun t2 nt2 => ?_⟩
      have P5 := (P4.upd (o := .tup [.int 1, .int 2]) nt1).upd (o := .lst [.int 3]) nt2
      have q1 : Item (upd (upd H4 t1 (.tup [.int 1, .int 2])) t2 (.lst [.int 3])) (.ref t1) := .pair t1 (same_new nt2 _ _ upd_same)
      have q2 : Item (upd (upd H4 t1 (.tup [.int 1, .int 2])) t2 (.lst [.int 3])) (.ref t2) := .one t2 upd_same
      generalize upd (upd H4 t1 (.tup [.int 1, .int 2])) t2 (.lst [.int 3]) = H4' at P5 q1 q2 ⊢
      refine ⟨_, rfl, _, rfl, p, l, c5, 9, rfl, P5, by omega, by decide, by decide, fun r2 H5 r3 r4 P6 k6 => ?_⟩
      refine ⟨_, _, rfl, rfl, ?_⟩
      refine ⟨by show 2 ≤ sizeLine; decide, fun t3 nt3 => ?_⟩
      refine ⟨by show 9 ≤ sizeLine; decide, fun m nm => ?_⟩
      have sm := (same_new (o := .tup [.str "b", .str "c"]) nt3).trans (same_new (o := .lst (menuL r z t1 t2 r2 t3)) nm)
      have P7 := P6.same sm
      have all7 : ∀ x ∈ menuL r z t1 t2 r2 t3, Item (upd (upd H5 t3 (.tup [.str "b", .str "c"])) m (.lst (menuL r z t1 t2 r2 t3))) x := by
        intro x hx
        simp only [menuL, List.mem_cons, List.not_mem_nil, or_false] at hx
        rcases hx with e | e | e | e | e | e | e | e | e <;> rw [e]
        · exact .non
        · exact .bl true
        · exact .int r (by omega) (Int.lt_trans r1 (by decide))
        · exact .str "" (fun c hc => nomatch hc) (by decide)
        · exact .str z z0 (by omega)
        · exact (q1.keepP k6 P5).same sm
        · exact (q2.keepP k6 P5).same sm
        · exact .int _ (by omega) (Int.lt_trans (show -1 - r2 < 0 by omega) (by decide))
        · exact .twoS t3 (same_new nm _ _ upd_same)
      have hm7 : (upd (upd H5 t3 (.tup [.str "b", .str "c"])) m (.lst (menuL r z t1 t2 r2 t3))) m = some (.lst (menuL r z t1 t2 r2 t3)) := upd_same
      have mlen : (menuL r z t1 t2 r2 t3).length = 9 := rfl
      refine ⟨_, rfl, _, rfl, p, l, m, c5 + 1, menuL r z t1 t2 r2 t3, rfl, P7, by omega, hm7, by rw [mlen]; decide, by rw [mlen]; decide, fun i1 x H8 hx P8 k8 => ?_⟩
      have hm8 := k8 m _ (P7.neL hm7) hm7
      have x8 := (all7 x (List.mem_of_getElem? hx)).keepP k8 P7
      have all8 : ∀ y ∈ menuL r z t1 t2 r2 t3, Item H8 y := fun y hy => (all7 y hy).keepP k8 P7
      refine ⟨_, rfl, _, rfl, p, l, m, c5 + 1 + 1, menuL r z t1 t2 r2 t3, rfl, P8, by omega, hm8, by rw [mlen]; decide, by rw [mlen]; decide, fun i2 y H9 hy P9 k9 => ?_⟩
      have hm9 := k9 m _ (P8.neL hm8) hm8
      have x9 := x8.keepP k9 P8
      have y9 := (all8 y (List.mem_of_getElem? hy)).keepP k9 P8
      have all9 : ∀ y ∈ menuL r z t1 t2 r2 t3, Item H9 y := fun y hy => (all8 y hy).keepP k9 P8
      refine ⟨_, rfl, _, rfl, p, l, m, c5 + 1 + 1 + 1, menuL r z t1 t2 r2 t3, rfl, P9, by omega, hm9, by rw [mlen]; decide, by rw [mlen]; decide, fun i3 z' H10 hz P10 k10 => ?_⟩
      have x10 := x9.keepP k10 P9
      have y10 := y9.keepP k10 P9
      have z10 := (all9 z' (List.mem_of_getElem? hz)).keepP k10 P9
      refine ⟨by show 3 ≤ sizeLine; decide, fun vl nvl => ?_⟩
      have hvl : (upd H10 vl (.lst [x, y, z'])) vl = some (.lst [x, y, z']) := upd_same
      have P11 := P10.upd (o := .lst [x, y, z']) nvl
      have items : ∀ v ∈ [x, y, z'], Item (upd H10 vl (.lst [x, y, z'])) v := by
        intro v hv
        simp only [List.mem_cons, List.not_mem_nil, or_false] at hv
        rcases hv with e | e | e <;> rw [e]
        · exact x10.same (same_new nvl)
        · exact y10.same (same_new nvl)
        · exact z10.same (same_new nvl)
      generalize upd H10 vl (.lst [x, y, z']) = H11 at hvl P11 items ⊢
      -- the error and its fields
      refine ⟨_, rfl, _, rfl, i, vl, x, y, z', by rw [Int.zero_add]; rfl, hvl, hi, fun e q pr fs n H12 s12 hpr hq he hn => ?_⟩
      refine ⟨pr, [.ref e, .ref q], rfl, SqT.of hpr, rfl, .ref e, [.ref q], rfl, .ref q, [], rfl, rfl, ?_⟩
      have P12 := P11.same s12
      have hv12 := s12 _ _ hvl
      have hit : ∀ v ∈ [x, y, z'].take n, Item H12 v := fun v hv => (items v (List.mem_of_mem_take hv)).same s12
      obtain ⟨ds, hds, hdl, hdf⟩ := items_data (K := K) _ hit
      have ln : ([x, y, z'].take n).length = n := by
        rw [List.length_take]
        exact Nat.min_eq_left hn
      obtain ⟨f1, f2, f3, f4⟩ := fine_tuple hdf (by rw [hdl, ln]; exact hn)
      refine ⟨_, rfl, q, .tuple ds, rfl, .tup (SqT.of hq) (hds _ (Same.refl _)), f1, f2, f3, f4, ?_⟩
      refine ⟨_, rfl, _, rfl, q, _, rfl, Or.inr (SqT.of hq), ?_⟩
      refine ⟨_, rfl, vl, _, rfl, SqL.of hv12, fun sl nsl => ?_⟩
      rw [ln, cut_take]
      refine ⟨sl, _, rfl, Or.inl ⟨SqL.of upd_same, fun tt ntt => ?_⟩⟩
      have s13 := (same_new (o := .lst ([x, y, z'].take n)) nsl).trans (same_new (o := .tup ([x, y, z'].take n)) ntt)
      have hp13 := P12.same s13
      have he13 := he.same s13
      have htt : (upd (upd H12 sl (.lst ([x, y, z'].take n))) tt (.tup ([x, y, z'].take n))) tt = some (.tup ([x, y, z'].take n)) := upd_same
      have hds13 := hds _ s13
      generalize upd (upd H12 sl (.lst ([x, y, z'].take n))) tt (.tup ([x, y, z'].take n)) = H13 at hp13 he13 htt hds13 ⊢
      refine ⟨tt, .tuple ds, rfl, .tup (SqT.of htt) hds13, f1, f2, f3, f4, ?_⟩
      refine ⟨rfl, _, rfl, iteNS rfl ?_⟩
      -- its kinds
      obtain ⟨up1, up2⟩ := T.up i hi
      refine ⟨_, rfl, e, c i, fs, _, _, true, rfl, .own _, he13, T.kit.er i hi, T.kit.cm, up1, _, rfl, iteF ?_⟩
      refine ⟨_, rfl, e, c i, fs, _, _, true, rfl, .ty _, he13, T.kit.er i hi, T.kit.cm, up2, _, rfl, iteF ?_⟩
      refine ⟨_, rfl, e, i, fs, rfl, he13, hi, fun kp H14 s14 hkp => ?_⟩
      refine ⟨19, rfl, by decide, by decide, fun D nD => ?_⟩
      refine lc_range (lo := 0) (n := 19) (fun m H => H kp = some (.lst (flags i)) ∧ PenAt H p l (c5 + 1 + 1 + 1 + 1) ∧ H D = some (.lst ((List.range m).map fun m => V.bl (decide (m = i)))) ∧ D ≠ kp ∧ D ≠ p ∧ D ≠ l) ?_ ?_ ?_
      · have P14 := hp13.same s14
        obtain ⟨ns14, hl14⟩ := P14.ls
        exact ⟨same_new nD _ _ hkp, P14.upd nD, upd_same, (ne_of_none hkp nD).symm, P14.ne nD, (ne_of_none hl14 nD).symm⟩
      · rintro m' H15 hm' ⟨h1, h2, h3, h4, h5, h6⟩
        refine ⟨rfl, ?_⟩
        unfold tYes
        dsimp only
        rw [if_pos rfl]
        refine ⟨_, rfl, _, rfl, rfl, _, h3, ?_, ?_⟩
        · rw [List.length_map, List.length_range]
          exact small1000 (by omega)
        refine ⟨?_, ?_, ?_, h4, h5, h6⟩
        · rw [upd_ne h4.symm]
          exact h1
        · obtain ⟨⟨a', d', f', ns', e1, e2, rr⟩, lo⟩ := h2
          exact ⟨⟨a', d', f', ns', by rw [upd_ne h5.symm]; exact e1, by rw [upd_ne h6.symm]; exact e2, rr⟩, lo⟩
        · rw [upd_same, List.range_succ, List.map_append, bl_nat]
          rfl
      · rintro H15 ⟨h1, h2, h3, h4, h5, h6⟩
        have e1 : SeqAt.shaped (.list ((List.range 19).map fun m => PyData.bool (decide (m = i)))) = true := rfl
        refine ⟨_, _, .lst (SqL.of h1) (bools _ (List.range 19)), .lst (SqL.of h3) (bools _ (List.range 19)), e1, e1, _, rfl, ?_⟩
        rw [SeqAt.eqv_refl _ (SeqAt.canLay_of_shaped e1)]
        refine iteF ?_
        exact ⟨_, _, _, _, _, _, rfl, h2, by omega⟩
    · rintro σ H2 ⟨c1, v2, v3, v4, v5, v6, rfl, P2, hc⟩
      exact k H2
end
end Fk

namespace Fk
open PySem L2
def upB (K : PySem.W.Frag) (FE : Addr) (cs : List Addr) : Bool := cs.all fun C => decide (PySem.W.kitOne K (.ref C) (.ref FE) = some true) && decide (PySem.W.kitOne K (.ref C) (.type "ValueError") = some true)
theorem up_of {K : PySem.W.Frag} {FE : Addr} {cs : List Addr} (hl : cs.length = 19) (h : upB K FE cs = true) (j : Nat) (hj : j < 19) : PySem.W.kitOne K (.ref (cs.getD j 0)) (.ref FE) = some true ∧ PySem.W.kitOne K (.ref (cs.getD j 0)) (.type "ValueError") = some true := by
  have g : j < cs.length := by omega
  have e : cs.getD j 0 = cs[j]'g := by
    rw [List.getD_eq_getElem?_getD, List.getElem?_eq_getElem g]
    rfl
  rw [e]
  have z := List.all_eq_true.mp h _ (List.getElem_mem g)
  rw [Bool.and_eq_true, decide_eq_true_eq, decide_eq_true_eq] at z
  exact z
theorem all_mk {l : PySem.W.OpenLaw} {w : World} {K : PySem.W.Frag} {h : Heap} {mg : Str → Option Value} {fa FE f_law f_pen f_draw f_pick f_big f_name f_two f_one f_made f_kinds C0 C1 C2 C3 C4 C5 C6 C7 C8 C9 C10 C11 C12 C13 C14 C15 C16 C17 C18 g0 g1 g2 g3 g4 g5 g6 g7 g8 g9 g10 g11 g12 g13 : Addr} {d_pen d_draw d_pick d_big d_name d_two d_one d_made d_kinds e0 e1 e2 e3 e4 e5 e6 e7 e8 e9 e10 e11 e12 e13 : FuncData} {od an : Option Addr} {sl : Array (Option Value)} {oc kV dc pm cd ct : Value}
    (X : K.In h) (G : h.Ns mainGlobals mg) (hfa : mg "law" = some (.ref fa))
    (a_pen : PySem.W.nsIn K mainGlobals "_law_pen" = some (some (.ref f_pen)))
    (F_pen : Fun K "_law_pen" "_law_pen" sPen f_pen d_pen)
    (a_draw : PySem.W.nsIn K mainGlobals "_law_draw" = some (some (.ref f_draw)))
    (F_draw : Fun K "_law_draw" "_law_draw" sDraw f_draw d_draw)
    (a_pick : PySem.W.nsIn K mainGlobals "_law_pick" = some (some (.ref f_pick)))
    (F_pick : Fun K "_law_pick" "_law_pick" sPick f_pick d_pick)
    (a_big : PySem.W.nsIn K mainGlobals "_law_big" = some (some (.ref f_big)))
    (F_big : Fun K "_law_big" "_law_big" sBig f_big d_big)
    (a_name : PySem.W.nsIn K mainGlobals "_law_name" = some (some (.ref f_name)))
    (F_name : Fun K "_law_name" "_law_name" sName f_name d_name)
    (a_two : PySem.W.nsIn K mainGlobals "_law_of_two" = some (some (.ref f_two)))
    (F_two : Fun K "_law_of_two" "_law_of_two" sTwo f_two d_two)
    (a_one : PySem.W.nsIn K mainGlobals "_law_of_one" = some (some (.ref f_one)))
    (F_one : Fun K "_law_of_one" "_law_of_one" sOne f_one d_one)
    (a_made : PySem.W.nsIn K mainGlobals "_law_made" = some (some (.ref f_made)))
    (F_made : Fun K "_law_made" "_law_made" sMade f_made d_made)
    (a_kinds : PySem.W.nsIn K mainGlobals "_law_kinds" = some (some (.ref f_kinds)))
    (F_kinds : Fun K "_law_kinds" "_law_kinds" sKinds f_kinds d_kinds)
    (a_law : PySem.W.nsIn K mainGlobals "law" = some (some (.ref f_law)))
    (b0 : PySem.W.nsIn K mainGlobals "BadText" = some (some (.ref C0)))
    (b1 : PySem.W.nsIn K mainGlobals "BadNumber" = some (some (.ref C1)))
    (b2 : PySem.W.nsIn K mainGlobals "Untold" = some (some (.ref C2)))
    (b3 : PySem.W.nsIn K mainGlobals "NotKept" = some (some (.ref C3)))
    (b4 : PySem.W.nsIn K mainGlobals "BadName" = some (some (.ref C4)))
    (b5 : PySem.W.nsIn K mainGlobals "BadChoice" = some (some (.ref C5)))
    (b6 : PySem.W.nsIn K mainGlobals "BadPaper" = some (some (.ref C6)))
    (b7 : PySem.W.nsIn K mainGlobals "NotPlain" = some (some (.ref C7)))
    (b8 : PySem.W.nsIn K mainGlobals "AllBarred" = some (some (.ref C8)))
    (b9 : PySem.W.nsIn K mainGlobals "Unlike" = some (some (.ref C9)))
    (b10 : PySem.W.nsIn K mainGlobals "NoName" = some (some (.ref C10)))
    (b11 : PySem.W.nsIn K mainGlobals "TakenName" = some (some (.ref C11)))
    (b12 : PySem.W.nsIn K mainGlobals "TooMany" = some (some (.ref C12)))
    (b13 : PySem.W.nsIn K mainGlobals "TooLarge" = some (some (.ref C13)))
    (b14 : PySem.W.nsIn K mainGlobals "HasLetter" = some (some (.ref C14)))
    (b15 : PySem.W.nsIn K mainGlobals "NoLetter" = some (some (.ref C15)))
    (b16 : PySem.W.nsIn K mainGlobals "NoSolution" = some (some (.ref C16)))
    (b17 : PySem.W.nsIn K mainGlobals "NothingToUndo" = some (some (.ref C17)))
    (b18 : PySem.W.nsIn K mainGlobals "NothingToRedo" = some (some (.ref C18)))
    (bF : PySem.W.nsIn K mainGlobals "FoeError" = some (some (.ref FE)))
    (i0 : PySem.W.findIn K (.ref C0) "__init__" = some (some (.ref g0)))
    (t0 : PySem.W.typeIn K (.ref g0) = some (.type "function"))
    (I0 : Fun K "__init__" "BadText.__init__" sIBadText g0 e0)
    (n0_line : PySem.W.findIn K (.ref C0) "line" = some none)
    (n0_column : PySem.W.findIn K (.ref C0) "column" = some none)
    (i1 : PySem.W.findIn K (.ref C1) "__init__" = some (some (.ref g1)))
    (t1 : PySem.W.typeIn K (.ref g1) = some (.type "function"))
    (I1 : Fun K "__init__" "BadNumber.__init__" sIBadNumber g1 e1)
    (n1_what : PySem.W.findIn K (.ref C1) "what" = some none)
    (n1_number : PySem.W.findIn K (.ref C1) "number" = some none)
    (i2 : PySem.W.findIn K (.ref C2) "__init__" = some (some (.ref g2)))
    (t2 : PySem.W.typeIn K (.ref g2) = some (.type "function"))
    (I2 : Fun K "__init__" "Untold.__init__" sIUntold g2 e2)
    (n2_board : PySem.W.findIn K (.ref C2) "board" = some none)
    (n2_words : PySem.W.findIn K (.ref C2) "words" = some none)
    (i3 : PySem.W.findIn K (.ref C3) "__init__" = some (some (.ref g3)))
    (t3 : PySem.W.typeIn K (.ref g3) = some (.type "function"))
    (I3 : Fun K "__init__" "NotKept.__init__" sINotKept g3 e3)
    (n3_promise : PySem.W.findIn K (.ref C3) "promise" = some none)
    (n3_witness : PySem.W.findIn K (.ref C3) "witness" = some none)
    (i4 : PySem.W.findIn K (.ref C4) "__init__" = some (some (.ref g4)))
    (t4 : PySem.W.typeIn K (.ref g4) = some (.type "function"))
    (I4 : Fun K "__init__" "BadName.__init__" sIBadName g4 e4)
    (n4_name : PySem.W.findIn K (.ref C4) "name" = some none)
    (i5 : PySem.W.findIn K (.ref C5) "__init__" = some (some (.ref g5)))
    (t5 : PySem.W.typeIn K (.ref g5) = some (.type "function"))
    (I5 : Fun K "__init__" "BadChoice.__init__" sIBadChoice g5 e5)
    (n5_place : PySem.W.findIn K (.ref C5) "place" = some none)
    (i6 : PySem.W.findIn K (.ref C6) "__init__" = some (some (.ref g6)))
    (t6 : PySem.W.typeIn K (.ref g6) = some (.type "function"))
    (I6 : Fun K "__init__" "BadPaper.__init__" sIBadPaper g6 e6)
    (n6_what : PySem.W.findIn K (.ref C6) "what" = some none)
    (i7 : PySem.W.findIn K (.ref C7) "__init__" = some (some (.ref g7)))
    (t7 : PySem.W.typeIn K (.ref g7) = some (.type "function"))
    (I7 : Fun K "__init__" "NotPlain.__init__" sINotPlain g7 e7)
    (n7_what : PySem.W.findIn K (.ref C7) "what" = some none)
    (i8 : PySem.W.findIn K (.ref C8) "__init__" = some (some (.ref g8)))
    (t8 : PySem.W.typeIn K (.ref g8) = some (.type "function"))
    (I8 : Fun K "__init__" "AllBarred.__init__" sIAllBarred g8 e8)
    (n8_standing : PySem.W.findIn K (.ref C8) "standing" = some none)
    (i9 : PySem.W.findIn K (.ref C9) "__init__" = some (some (.ref g9)))
    (t9 : PySem.W.typeIn K (.ref g9) = some (.type "function"))
    (I9 : Fun K "__init__" "Unlike.__init__" sIUnlike g9 e9)
    (n9_what : PySem.W.findIn K (.ref C9) "what" = some none)
    (i10 : PySem.W.findIn K (.ref C10) "__init__" = some (some (.ref g10)))
    (t10 : PySem.W.typeIn K (.ref g10) = some (.type "function"))
    (I10 : Fun K "__init__" "NoName.__init__" sINoName g10 e10)
    (n10_name : PySem.W.findIn K (.ref C10) "name" = some none)
    (i11 : PySem.W.findIn K (.ref C11) "__init__" = some (some (.ref g11)))
    (t11 : PySem.W.typeIn K (.ref g11) = some (.type "function"))
    (I11 : Fun K "__init__" "TakenName.__init__" sITakenName g11 e11)
    (n11_name : PySem.W.findIn K (.ref C11) "name" = some none)
    (i12 : PySem.W.findIn K (.ref C12) "__init__" = some (some (.ref g12)))
    (t12 : PySem.W.typeIn K (.ref g12) = some (.type "function"))
    (I12 : Fun K "__init__" "TooMany.__init__" sITooMany g12 e12)
    (n12_what : PySem.W.findIn K (.ref C12) "what" = some none)
    (n12_many : PySem.W.findIn K (.ref C12) "many" = some none)
    (n12_limit : PySem.W.findIn K (.ref C12) "limit" = some none)
    (i13 : PySem.W.findIn K (.ref C13) "__init__" = some (some (.ref g13)))
    (t13 : PySem.W.typeIn K (.ref g13) = some (.type "function"))
    (I13 : Fun K "__init__" "TooLarge.__init__" sITooLarge g13 e13)
    (n13_what : PySem.W.findIn K (.ref C13) "what" = some none)
    (n13_number : PySem.W.findIn K (.ref C13) "number" = some none)
    (n13_limit : PySem.W.findIn K (.ref C13) "limit" = some none)
    (q14 : PySem.W.excIn K C14 [.type "ValueError", .type "Exception", .type "BaseException", .type "object"] "ValueError.__new__" = true)
    (q15 : PySem.W.excIn K C15 [.type "ValueError", .type "Exception", .type "BaseException", .type "object"] "ValueError.__new__" = true)
    (q16 : PySem.W.excIn K C16 [.type "ValueError", .type "Exception", .type "BaseException", .type "object"] "ValueError.__new__" = true)
    (q17 : PySem.W.excIn K C17 [.type "ValueError", .type "Exception", .type "BaseException", .type "object"] "ValueError.__new__" = true)
    (q18 : PySem.W.excIn K C18 [.type "ValueError", .type "Exception", .type "BaseException", .type "object"] "ValueError.__new__" = true)
    (z_int : PySem.W.nsIn K mainGlobals "int" = some none)
    (z_list : PySem.W.nsIn K mainGlobals "list" = some none)
    (z_len : PySem.W.nsIn K mainGlobals "len" = some none)
    (z_range : PySem.W.nsIn K mainGlobals "range" = some none)
    (z_str : PySem.W.nsIn K mainGlobals "str" = some none)
    (z_isinstance : PySem.W.nsIn K mainGlobals "isinstance" = some none)
    (z_repr : PySem.W.nsIn K mainGlobals "repr" = some none)
    (z_tuple : PySem.W.nsIn K mainGlobals "tuple" = some none)
    (z_ValueError : PySem.W.nsIn K mainGlobals "ValueError" = some none)
    (sp : PySem.W.specialIn K (.builtin "object.__class__") "__get__" = some (some (.builtin "getset_descriptor.__get__")))
    (tk : PySem.W.takesIn K (.builtin "object.__class__") = some true)
    (nd : ([C0, C1, C2, C3, C4, C5, C6, C7, C8, C9, C10, C11, C12, C13, C14, C15, C16, C17, C18] : List Addr).Nodup)
    (eB : ([C0, C1, C2, C3, C4, C5, C6, C7, C8, C9, C10, C11, C12, C13, C14, C15, C16, C17, C18] : List Addr).all (errB K) = true)
    (kB : kitsB K [C0, C1, C2, C3, C4, C5, C6, C7, C8, C9, C10, C11, C12, C13, C14, C15, C16, C17, C18] = true)
    (oB : ([C0, C1, C2, C3, C4, C5, C6, C7, C8, C9, C10, C11, C12, C13] : List Addr).all (oexB2 K) = true)
    (uB : upB K FE [C0, C1, C2, C3, C4, C5, C6, C7, C8, C9, C10, C11, C12, C13, C14, C15, C16, C17, C18] = true)
    (l_law : K.lookup f_law = some ⟨oc, od, .func (PySem.W.fnOf "law" "law" (defArgs sLaw) (defBody sLaw) (defScope sLaw) .none kV dc pm an cd ct), sl⟩)
    (c_law : PySem.W.codeIn K cd "law" = true)
    (k_law : PySem.W.keepIn K (.ref f_law) = true)
    : ∃ fd : FuncData, (∀ (s : Shared) (v : Value), BindsTo s fd ⟨[v], []⟩ [("_law_script", v)]) ∧ ∀ base : Heap, K.In base → base.Ns mainGlobals mg → FnG l.prog w K mg base 5 fa fd ["_law_script"] (spLaw K) := by
  have e := hfa.symm.trans (PySem.W.mg_of X G a_law)
  cases e
  have hK := kit_of_list (K := K) (cs := [C0, C1, C2, C3, C4, C5, C6, C7, C8, C9, C10, C11, C12, C13, C14, C15, C16, C17, C18]) rfl nd eB ⟨sp, tk⟩ kB
  have hox : ∀ C ∈ ([C0, C1, C2, C3, C4, C5, C6, C7, C8, C9, C10, C11, C12, C13] : List Addr), OexC K C := fun C hC => oexB2_ok (List.all_eq_true.mp oB C hC)
  have F_law := fun_mk (st := sLaw) l_law c_law k_law
  have bd_pen := F_pen.binds (ps := ["_law_script"]) fun _ _ _ _ _ _ us hl => match us, hl with | [_], _ => rfl
  have bd_draw := F_draw.binds (ps := psDraw) fun _ _ _ _ _ _ us hl => match us, hl with | [_, _], _ => rfl
  have bd_pick := F_pick.binds (ps := psPick) fun _ _ _ _ _ _ us hl => match us, hl with | [_, _], _ => rfl
  have bd_big := F_big.binds (ps := psBig) fun _ _ _ _ _ _ us hl => match us, hl with | [_, _], _ => rfl
  have bd_name := F_name.binds (ps := psName) fun _ _ _ _ _ _ us hl => match us, hl with | [_, _], _ => rfl
  have bd_two := F_two.binds (ps := psTwo) fun _ _ _ _ _ _ us hl => match us, hl with | [_, _, _], _ => rfl
  have bd_one := F_one.binds (ps := psOne) fun _ _ _ _ _ _ us hl => match us, hl with | [_, _], _ => rfl
  have bd_made := F_made.binds (ps := psMade) fun _ _ _ _ _ _ us hl => match us, hl with | [_, _], _ => rfl
  have bd_kinds := F_kinds.binds (ps := ["_law_e"]) fun _ _ _ _ _ _ us hl => match us, hl with | [_], _ => rfl
  have be0 := I0.binds (ps := ["self", "line", "column"]) fun _ _ _ _ _ _ us hl => match us, hl with | [_, _, _], _ => rfl
  have be1 := I1.binds (ps := ["self", "what", "number"]) fun _ _ _ _ _ _ us hl => match us, hl with | [_, _, _], _ => rfl
  have be2 := I2.binds (ps := ["self", "board", "words"]) fun _ _ _ _ _ _ us hl => match us, hl with | [_, _, _], _ => rfl
  have be3 := I3.binds (ps := ["self", "promise", "witness"]) fun _ _ _ _ _ _ us hl => match us, hl with | [_, _, _], _ => rfl
  have be4 := I4.binds (ps := ["self", "name"]) fun _ _ _ _ _ _ us hl => match us, hl with | [_, _], _ => rfl
  have be5 := I5.binds (ps := ["self", "place"]) fun _ _ _ _ _ _ us hl => match us, hl with | [_, _], _ => rfl
  have be6 := I6.binds (ps := ["self", "what"]) fun _ _ _ _ _ _ us hl => match us, hl with | [_, _], _ => rfl
  have be7 := I7.binds (ps := ["self", "what"]) fun _ _ _ _ _ _ us hl => match us, hl with | [_, _], _ => rfl
  have be8 := I8.binds (ps := ["self", "standing"]) fun _ _ _ _ _ _ us hl => match us, hl with | [_, _], _ => rfl
  have be9 := I9.binds (ps := ["self", "what"]) fun _ _ _ _ _ _ us hl => match us, hl with | [_, _], _ => rfl
  have be10 := I10.binds (ps := ["self", "name"]) fun _ _ _ _ _ _ us hl => match us, hl with | [_, _], _ => rfl
  have be11 := I11.binds (ps := ["self", "name"]) fun _ _ _ _ _ _ us hl => match us, hl with | [_, _], _ => rfl
  have be12 := I12.binds (ps := ["self", "what", "many", "limit"]) fun _ _ _ _ _ _ us hl => match us, hl with | [_, _, _, _], _ => rfl
  have be13 := I13.binds (ps := ["self", "what", "number", "limit"]) fun _ _ _ _ _ _ us hl => match us, hl with | [_, _, _, _], _ => rfl
  refine ⟨PySem.W.fnOf "law" "law" (defArgs sLaw) (defBody sLaw) (defScope sLaw) .none kV dc pm an cd ct, fun s v => .of_eq rfl, fun base _ _ => ?_⟩
  have y_int := PySem.W.mg_none_of X G z_int
  have y_list := PySem.W.mg_none_of X G z_list
  have y_len := PySem.W.mg_none_of X G z_len
  have y_range := PySem.W.mg_none_of X G z_range
  have y_str := PySem.W.mg_none_of X G z_str
  have y_isinstance := PySem.W.mg_none_of X G z_isinstance
  have y_repr := PySem.W.mg_none_of X G z_repr
  have y_tuple := PySem.W.mg_none_of X G z_tuple
  have y_ValueError := PySem.W.mg_none_of X G z_ValueError
  have nn0 : ∀ f ∈ (["line", "column"] : List Str), PySem.W.findIn K (.ref C0) f = some none := fun f hf => by
    simp only [List.mem_cons, List.not_mem_nil, or_false] at hf
    rcases hf with rfl | rfl
    · exact n0_line
    · exact n0_column
  have M0 : MkE l.prog w K mg base "BadText" ["line", "column"] C0 g0 e0 := ⟨hox _ (by simp), nn0, i0, t0, ini_BadText I0 ⟨hox _ (by simp), nn0⟩, be0, PySem.W.mg_of X G b0, hK.er 0 (by decide)⟩
  have nn1 : ∀ f ∈ (["what", "number"] : List Str), PySem.W.findIn K (.ref C1) f = some none := fun f hf => by
    simp only [List.mem_cons, List.not_mem_nil, or_false] at hf
    rcases hf with rfl | rfl
    · exact n1_what
    · exact n1_number
  have M1 : MkE l.prog w K mg base "BadNumber" ["what", "number"] C1 g1 e1 := ⟨hox _ (by simp), nn1, i1, t1, ini_BadNumber I1 ⟨hox _ (by simp), nn1⟩, be1, PySem.W.mg_of X G b1, hK.er 1 (by decide)⟩
  have nn2 : ∀ f ∈ (["board", "words"] : List Str), PySem.W.findIn K (.ref C2) f = some none := fun f hf => by
    simp only [List.mem_cons, List.not_mem_nil, or_false] at hf
    rcases hf with rfl | rfl
    · exact n2_board
    · exact n2_words
  have M2 : MkE l.prog w K mg base "Untold" ["board", "words"] C2 g2 e2 := ⟨hox _ (by simp), nn2, i2, t2, ini_Untold I2 ⟨hox _ (by simp), nn2⟩, be2, PySem.W.mg_of X G b2, hK.er 2 (by decide)⟩
  have nn3 : ∀ f ∈ (["promise", "witness"] : List Str), PySem.W.findIn K (.ref C3) f = some none := fun f hf => by
    simp only [List.mem_cons, List.not_mem_nil, or_false] at hf
    rcases hf with rfl | rfl
    · exact n3_promise
    · exact n3_witness
  have M3 : MkE l.prog w K mg base "NotKept" ["promise", "witness"] C3 g3 e3 := ⟨hox _ (by simp), nn3, i3, t3, ini_NotKept I3 ⟨hox _ (by simp), nn3⟩, be3, PySem.W.mg_of X G b3, hK.er 3 (by decide)⟩
  have nn4 : ∀ f ∈ (["name"] : List Str), PySem.W.findIn K (.ref C4) f = some none := fun f hf => by
    simp only [List.mem_cons, List.not_mem_nil, or_false] at hf
    rcases hf with rfl
    · exact n4_name
  have M4 : MkE l.prog w K mg base "BadName" ["name"] C4 g4 e4 := ⟨hox _ (by simp), nn4, i4, t4, ini_BadName I4 ⟨hox _ (by simp), nn4⟩, be4, PySem.W.mg_of X G b4, hK.er 4 (by decide)⟩
  have nn5 : ∀ f ∈ (["place"] : List Str), PySem.W.findIn K (.ref C5) f = some none := fun f hf => by
    simp only [List.mem_cons, List.not_mem_nil, or_false] at hf
    rcases hf with rfl
    · exact n5_place
  have M5 : MkE l.prog w K mg base "BadChoice" ["place"] C5 g5 e5 := ⟨hox _ (by simp), nn5, i5, t5, ini_BadChoice I5 ⟨hox _ (by simp), nn5⟩, be5, PySem.W.mg_of X G b5, hK.er 5 (by decide)⟩
  have nn6 : ∀ f ∈ (["what"] : List Str), PySem.W.findIn K (.ref C6) f = some none := fun f hf => by
    simp only [List.mem_cons, List.not_mem_nil, or_false] at hf
    rcases hf with rfl
    · exact n6_what
  have M6 : MkE l.prog w K mg base "BadPaper" ["what"] C6 g6 e6 := ⟨hox _ (by simp), nn6, i6, t6, ini_BadPaper I6 ⟨hox _ (by simp), nn6⟩, be6, PySem.W.mg_of X G b6, hK.er 6 (by decide)⟩
  have nn7 : ∀ f ∈ (["what"] : List Str), PySem.W.findIn K (.ref C7) f = some none := fun f hf => by
    simp only [List.mem_cons, List.not_mem_nil, or_false] at hf
    rcases hf with rfl
    · exact n7_what
  have M7 : MkE l.prog w K mg base "NotPlain" ["what"] C7 g7 e7 := ⟨hox _ (by simp), nn7, i7, t7, ini_NotPlain I7 ⟨hox _ (by simp), nn7⟩, be7, PySem.W.mg_of X G b7, hK.er 7 (by decide)⟩
  have nn8 : ∀ f ∈ (["standing"] : List Str), PySem.W.findIn K (.ref C8) f = some none := fun f hf => by
    simp only [List.mem_cons, List.not_mem_nil, or_false] at hf
    rcases hf with rfl
    · exact n8_standing
  have M8 : MkE l.prog w K mg base "AllBarred" ["standing"] C8 g8 e8 := ⟨hox _ (by simp), nn8, i8, t8, ini_AllBarred I8 ⟨hox _ (by simp), nn8⟩, be8, PySem.W.mg_of X G b8, hK.er 8 (by decide)⟩
  have nn9 : ∀ f ∈ (["what"] : List Str), PySem.W.findIn K (.ref C9) f = some none := fun f hf => by
    simp only [List.mem_cons, List.not_mem_nil, or_false] at hf
    rcases hf with rfl
    · exact n9_what
  have M9 : MkE l.prog w K mg base "Unlike" ["what"] C9 g9 e9 := ⟨hox _ (by simp), nn9, i9, t9, ini_Unlike I9 ⟨hox _ (by simp), nn9⟩, be9, PySem.W.mg_of X G b9, hK.er 9 (by decide)⟩
  have nn10 : ∀ f ∈ (["name"] : List Str), PySem.W.findIn K (.ref C10) f = some none := fun f hf => by
    simp only [List.mem_cons, List.not_mem_nil, or_false] at hf
    rcases hf with rfl
    · exact n10_name
  have M10 : MkE l.prog w K mg base "NoName" ["name"] C10 g10 e10 := ⟨hox _ (by simp), nn10, i10, t10, ini_NoName I10 ⟨hox _ (by simp), nn10⟩, be10, PySem.W.mg_of X G b10, hK.er 10 (by decide)⟩
  have nn11 : ∀ f ∈ (["name"] : List Str), PySem.W.findIn K (.ref C11) f = some none := fun f hf => by
    simp only [List.mem_cons, List.not_mem_nil, or_false] at hf
    rcases hf with rfl
    · exact n11_name
  have M11 : MkE l.prog w K mg base "TakenName" ["name"] C11 g11 e11 := ⟨hox _ (by simp), nn11, i11, t11, ini_TakenName I11 ⟨hox _ (by simp), nn11⟩, be11, PySem.W.mg_of X G b11, hK.er 11 (by decide)⟩
  have nn12 : ∀ f ∈ (["what", "many", "limit"] : List Str), PySem.W.findIn K (.ref C12) f = some none := fun f hf => by
    simp only [List.mem_cons, List.not_mem_nil, or_false] at hf
    rcases hf with rfl | rfl | rfl
    · exact n12_what
    · exact n12_many
    · exact n12_limit
  have M12 : MkE l.prog w K mg base "TooMany" ["what", "many", "limit"] C12 g12 e12 := ⟨hox _ (by simp), nn12, i12, t12, ini_TooMany I12 ⟨hox _ (by simp), nn12⟩, be12, PySem.W.mg_of X G b12, hK.er 12 (by decide)⟩
  have nn13 : ∀ f ∈ (["what", "number", "limit"] : List Str), PySem.W.findIn K (.ref C13) f = some none := fun f hf => by
    simp only [List.mem_cons, List.not_mem_nil, or_false] at hf
    rcases hf with rfl | rfl | rfl
    · exact n13_what
    · exact n13_number
    · exact n13_limit
  have M13 : MkE l.prog w K mg base "TooLarge" ["what", "number", "limit"] C13 g13 e13 := ⟨hox _ (by simp), nn13, i13, t13, ini_TooLarge I13 ⟨hox _ (by simp), nn13⟩, be13, PySem.W.mg_of X G b13, hK.er 13 (by decide)⟩
  have N14 : MkN K mg "HasLetter" C14 := ⟨q14, PySem.W.mg_of X G b14, hK.er 14 (by decide)⟩
  have N15 : MkN K mg "NoLetter" C15 := ⟨q15, PySem.W.mg_of X G b15, hK.er 15 (by decide)⟩
  have N16 : MkN K mg "NoSolution" C16 := ⟨q16, PySem.W.mg_of X G b16, hK.er 16 (by decide)⟩
  have N17 : MkN K mg "NothingToUndo" C17 := ⟨q17, PySem.W.mg_of X G b17, hK.er 17 (by decide)⟩
  have N18 : MkN K mg "NothingToRedo" C18 := ⟨q18, PySem.W.mg_of X G b18, hK.er 18 (by decide)⟩
  have hpen : Cl l.prog w K mg base "_law_pen" ["_law_script"] 1 (spPen K) f_pen d_pen := ⟨ok_pen F_pen y_int y_list, PySem.W.mg_of X G a_pen, F_pen.kp, bd_pen⟩
  have hdraw : Cl l.prog w K mg base "_law_draw" psDraw 1 spDraw f_draw d_draw := ⟨ok_draw F_draw y_int y_len, PySem.W.mg_of X G a_draw, F_draw.kp, bd_draw⟩
  have hpick : Cl l.prog w K mg base "_law_pick" psPick 2 spPick f_pick d_pick := ⟨ok_pick F_pick y_len hdraw, PySem.W.mg_of X G a_pick, F_pick.kp, bd_pick⟩
  have hbig : Cl l.prog w K mg base "_law_big" psBig 3 spBig f_big d_big := ⟨ok_big F_big y_range y_int y_str hdraw hpick, PySem.W.mg_of X G a_big, F_big.kp, bd_big⟩
  have hname : Cl l.prog w K mg base "_law_name" psName 3 spName0 f_name d_name := ⟨ok_name F_name y_range y_len y_str hdraw hpick, PySem.W.mg_of X G a_name, F_name.kp, bd_name⟩
  have htwo : Cl l.prog w K mg base "_law_of_two" psTwo 3 (spTwo fun j => ([C0, C1, C2, C3, C4, C5, C6, C7, C8, C9, C10, C11, C12, C13, C14, C15, C16, C17, C18] : List Addr).getD j 0) f_two d_two := ⟨ok_two F_two M0 M1 M2 M3, PySem.W.mg_of X G a_two, F_two.kp, bd_two⟩
  have hone : Cl l.prog w K mg base "_law_of_one" psOne 3 (spOne fun j => ([C0, C1, C2, C3, C4, C5, C6, C7, C8, C9, C10, C11, C12, C13, C14, C15, C16, C17, C18] : List Addr).getD j 0) f_one d_one := ⟨ok_one F_one M4 M5 M6 M7 M8 M9 M10 M11, PySem.W.mg_of X G a_one, F_one.kp, bd_one⟩
  have hmade : Cl l.prog w K mg base "_law_made" psMade 4 (spMade fun j => ([C0, C1, C2, C3, C4, C5, C6, C7, C8, C9, C10, C11, C12, C13, C14, C15, C16, C17, C18] : List Addr).getD j 0) f_made d_made := ⟨ok_made F_made htwo hone M12 M13 N14 N15 N16 N17 N18, PySem.W.mg_of X G a_made, F_made.kp, bd_made⟩
  have hkinds : Cl l.prog w K mg base "_law_kinds" ["_law_e"] 1 (spKinds fun j => ([C0, C1, C2, C3, C4, C5, C6, C7, C8, C9, C10, C11, C12, C13, C14, C15, C16, C17, C18] : List Addr).getD j 0) f_kinds d_kinds := ⟨ok_kinds F_kinds y_isinstance hK (PySem.W.mg_of X G b0) (PySem.W.mg_of X G b1) (PySem.W.mg_of X G b2) (PySem.W.mg_of X G b3) (PySem.W.mg_of X G b4) (PySem.W.mg_of X G b5) (PySem.W.mg_of X G b6) (PySem.W.mg_of X G b7) (PySem.W.mg_of X G b8) (PySem.W.mg_of X G b9) (PySem.W.mg_of X G b10) (PySem.W.mg_of X G b11) (PySem.W.mg_of X G b12) (PySem.W.mg_of X G b13) (PySem.W.mg_of X G b14) (PySem.W.mg_of X G b15) (PySem.W.mg_of X G b16) (PySem.W.mg_of X G b17) (PySem.W.mg_of X G b18), PySem.W.mg_of X G a_kinds, F_kinds.kp, bd_kinds⟩
  exact ok_law F_law ⟨hpen, hbig, hname, hdraw, hpick, hmade, hkinds, hK, fun j hj => up_of rfl uB j hj, PySem.W.mg_of X G bF, y_range, y_isinstance, y_repr, y_tuple, y_len, y_ValueError⟩
end Fk

open PySem PySem.W PyProof.Rows
set_option maxRecDepth 100000 in
set_option maxHeartbeats 0 in
theorem PySem.Challenge.cw_everyfoe_k03_errors_holds : PySem.Challenge.rw_everyfoe_k03_errors.Holds := by
  w_on; o_law; k_head; (case hw => w_witness2)
  k_fill
  refine Fk.walkG (l := PySem.Challenge.rw_everyfoe_k03_errors) (n := 63) (k := 5) (x := "_law_script") (sp := fun w => Fk.spLaw _) rfl (by decide) rfl ⟨rfl, by decide, by decide⟩ (fun w h Y => PySem.W.kIn_of Y) ?F (fun w H a ns hl hO hS => ⟨a, ns, rfl, hS, hl, fun _ => rfl⟩)
  case F =>
    intro w mg fa h KX G hmg
    refine' Fk.all_mk KX G hmg ?a_pen ?F_pen ?a_draw ?F_draw ?a_pick ?F_pick ?a_big ?F_big ?a_name ?F_name ?a_two ?F_two ?a_one ?F_one ?a_made ?F_made ?a_kinds ?F_kinds ?a_law ?b0 ?b1 ?b2 ?b3 ?b4 ?b5 ?b6 ?b7 ?b8 ?b9 ?b10 ?b11 ?b12 ?b13 ?b14 ?b15 ?b16 ?b17 ?b18 ?bF ?i0 ?t0 ?I0 ?n0_line ?n0_column ?i1 ?t1 ?I1 ?n1_what ?n1_number ?i2 ?t2 ?I2 ?n2_board ?n2_words ?i3 ?t3 ?I3 ?n3_promise ?n3_witness ?i4 ?t4 ?I4 ?n4_name ?i5 ?t5 ?I5 ?n5_place ?i6 ?t6 ?I6 ?n6_what ?i7 ?t7 ?I7 ?n7_what ?i8 ?t8 ?I8 ?n8_standing ?i9 ?t9 ?I9 ?n9_what ?i10 ?t10 ?I10 ?n10_name ?i11 ?t11 ?I11 ?n11_name ?i12 ?t12 ?I12 ?n12_what ?n12_many ?n12_limit ?i13 ?t13 ?I13 ?n13_what ?n13_number ?n13_limit ?q14 ?q15 ?q16 ?q17 ?q18 ?z_int ?z_list ?z_len ?z_range ?z_str ?z_isinstance ?z_repr ?z_tuple ?z_ValueError ?sp ?tk ?nd ?eB ?kB ?oB ?uB ?l_law ?c_law ?k_law
    (case a_pen => k_is)
    (case F_pen => refine' L2.fun_mk ?l ?c ?k; (case l => k_is); (case c => k_is); (case k => k_is))
    (case a_draw => k_is)
    (case F_draw => refine' L2.fun_mk ?l ?c ?k; (case l => k_is); (case c => k_is); (case k => k_is))
    (case a_pick => k_is)
    (case F_pick => refine' L2.fun_mk ?l ?c ?k; (case l => k_is); (case c => k_is); (case k => k_is))
    (case a_big => k_is)
    (case F_big => refine' L2.fun_mk ?l ?c ?k; (case l => k_is); (case c => k_is); (case k => k_is))
    (case a_name => k_is)
    (case F_name => refine' L2.fun_mk ?l ?c ?k; (case l => k_is); (case c => k_is); (case k => k_is))
    (case a_two => k_is)
    (case F_two => refine' L2.fun_mk ?l ?c ?k; (case l => k_is); (case c => k_is); (case k => k_is))
    (case a_one => k_is)
    (case F_one => refine' L2.fun_mk ?l ?c ?k; (case l => k_is); (case c => k_is); (case k => k_is))
    (case a_made => k_is)
    (case F_made => refine' L2.fun_mk ?l ?c ?k; (case l => k_is); (case c => k_is); (case k => k_is))
    (case a_kinds => k_is)
    (case F_kinds => refine' L2.fun_mk ?l ?c ?k; (case l => k_is); (case c => k_is); (case k => k_is))
    (case a_law => k_is)
    (case b0 => k_is)
    (case b1 => k_is)
    (case b2 => k_is)
    (case b3 => k_is)
    (case b4 => k_is)
    (case b5 => k_is)
    (case b6 => k_is)
    (case b7 => k_is)
    (case b8 => k_is)
    (case b9 => k_is)
    (case b10 => k_is)
    (case b11 => k_is)
    (case b12 => k_is)
    (case b13 => k_is)
    (case b14 => k_is)
    (case b15 => k_is)
    (case b16 => k_is)
    (case b17 => k_is)
    (case b18 => k_is)
    (case bF => k_is)
    (case i0 => k_is)
    (case t0 => k_is)
    (case I0 => refine' L2.fun_mk ?l ?c ?k; (case l => k_is); (case c => k_is); (case k => k_is))
    (case n0_line => k_is)
    (case n0_column => k_is)
    (case i1 => k_is)
    (case t1 => k_is)
    (case I1 => refine' L2.fun_mk ?l ?c ?k; (case l => k_is); (case c => k_is); (case k => k_is))
    (case n1_what => k_is)
    (case n1_number => k_is)
    (case i2 => k_is)
    (case t2 => k_is)
    (case I2 => refine' L2.fun_mk ?l ?c ?k; (case l => k_is); (case c => k_is); (case k => k_is))
    (case n2_board => k_is)
    (case n2_words => k_is)
    (case i3 => k_is)
    (case t3 => k_is)
    (case I3 => refine' L2.fun_mk ?l ?c ?k; (case l => k_is); (case c => k_is); (case k => k_is))
    (case n3_promise => k_is)
    (case n3_witness => k_is)
    (case i4 => k_is)
    (case t4 => k_is)
    (case I4 => refine' L2.fun_mk ?l ?c ?k; (case l => k_is); (case c => k_is); (case k => k_is))
    (case n4_name => k_is)
    (case i5 => k_is)
    (case t5 => k_is)
    (case I5 => refine' L2.fun_mk ?l ?c ?k; (case l => k_is); (case c => k_is); (case k => k_is))
    (case n5_place => k_is)
    (case i6 => k_is)
    (case t6 => k_is)
    (case I6 => refine' L2.fun_mk ?l ?c ?k; (case l => k_is); (case c => k_is); (case k => k_is))
    (case n6_what => k_is)
    (case i7 => k_is)
    (case t7 => k_is)
    (case I7 => refine' L2.fun_mk ?l ?c ?k; (case l => k_is); (case c => k_is); (case k => k_is))
    (case n7_what => k_is)
    (case i8 => k_is)
    (case t8 => k_is)
    (case I8 => refine' L2.fun_mk ?l ?c ?k; (case l => k_is); (case c => k_is); (case k => k_is))
    (case n8_standing => k_is)
    (case i9 => k_is)
    (case t9 => k_is)
    (case I9 => refine' L2.fun_mk ?l ?c ?k; (case l => k_is); (case c => k_is); (case k => k_is))
    (case n9_what => k_is)
    (case i10 => k_is)
    (case t10 => k_is)
    (case I10 => refine' L2.fun_mk ?l ?c ?k; (case l => k_is); (case c => k_is); (case k => k_is))
    (case n10_name => k_is)
    (case i11 => k_is)
    (case t11 => k_is)
    (case I11 => refine' L2.fun_mk ?l ?c ?k; (case l => k_is); (case c => k_is); (case k => k_is))
    (case n11_name => k_is)
    (case i12 => k_is)
    (case t12 => k_is)
    (case I12 => refine' L2.fun_mk ?l ?c ?k; (case l => k_is); (case c => k_is); (case k => k_is))
    (case n12_what => k_is)
    (case n12_many => k_is)
    (case n12_limit => k_is)
    (case i13 => k_is)
    (case t13 => k_is)
    (case I13 => refine' L2.fun_mk ?l ?c ?k; (case l => k_is); (case c => k_is); (case k => k_is))
    (case n13_what => k_is)
    (case n13_number => k_is)
    (case n13_limit => k_is)
    (case q14 => k_exc)
    (case q15 => k_exc)
    (case q16 => k_exc)
    (case q17 => k_exc)
    (case q18 => k_exc)
    (case z_int => k_is)
    (case z_list => k_is)
    (case z_len => k_is)
    (case z_range => k_is)
    (case z_str => k_is)
    (case z_isinstance => k_is)
    (case z_repr => k_is)
    (case z_tuple => k_is)
    (case z_ValueError => k_is)
    (case sp => k_is)
    (case tk => k_is)
    (case nd => decide)
    (case eB => kernel_rfl)
    (case kB => kernel_rfl)
    (case oB => kernel_rfl)
    (case uB => kernel_rfl)
    (case l_law => k_is)
    (case c_law => k_is)
    (case k_law => k_is)
#print axioms PySem.Challenge.cw_everyfoe_k03_errors_holds
