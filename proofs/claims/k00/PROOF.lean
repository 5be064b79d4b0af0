import PyProof.Rows.All
import Wide.All
import OpenK.AllK
import Wide.FinOn
import HandS.ForMost
import HandS.Codes
import HandS.IsInst
import HandS.Exc
import HandS.ExcIs
import HandS.Gcd
import HandS.TryMany
import HandS.WordsExc
import KE.KIntText
import PyProof.TupleOfStr
import PyProof.StrBlock2
import HandS.ExcInit
import HandS.ExcField
import HandS.ExcValue
import KE.KExcIs
import PySem.Challenge.RW_everyfoe_k00_ratio_texts
set_option Elab.async false
set_option maxRecDepth 100000
/-! The pen: a dict that every law draws from. -/
namespace Fk
open PySem L2
def top (i : Nat) : Stmt := PySem.Challenge.pw_everyfoe_k00_ratio_texts.main.body.getD i (.Pass ⟨0, 0, 0, 0⟩)
abbrev sPen : Stmt := top 13
abbrev sDraw : Stmt := top 14
abbrev sPick : Stmt := top 15
/-! ### the dict of a pen -/
theorem n_ca : ¬ (("cells" : Str) = "at") := by decide +kernel
theorem n_cd : ¬ (("cells" : Str) = "digits") := by decide +kernel
theorem n_cc : ¬ (("cells" : Str) = "count") := by decide +kernel
theorem n_cf : ¬ (("cells" : Str) = "fold") := by decide +kernel
theorem n_ac : ¬ (("at" : Str) = "cells") := by decide +kernel
theorem n_ad : ¬ (("at" : Str) = "digits") := by decide +kernel
theorem n_an : ¬ (("at" : Str) = "count") := by decide +kernel
theorem n_af : ¬ (("at" : Str) = "fold") := by decide +kernel
theorem n_dc : ¬ (("digits" : Str) = "cells") := by decide +kernel
theorem n_da : ¬ (("digits" : Str) = "at") := by decide +kernel
theorem n_dn : ¬ (("digits" : Str) = "count") := by decide +kernel
theorem n_df : ¬ (("digits" : Str) = "fold") := by decide +kernel
theorem n_nc : ¬ (("count" : Str) = "cells") := by decide +kernel
theorem n_na : ¬ (("count" : Str) = "at") := by decide +kernel
theorem n_nd : ¬ (("count" : Str) = "digits") := by decide +kernel
theorem n_nf : ¬ (("count" : Str) = "fold") := by decide +kernel
theorem n_fc : ¬ (("fold" : Str) = "cells") := by decide +kernel
theorem n_fa : ¬ (("fold" : Str) = "at") := by decide +kernel
theorem n_fd : ¬ (("fold" : Str) = "digits") := by decide +kernel
theorem n_fn : ¬ (("fold" : Str) = "count") := by decide +kernel
def penK (l : Addr) (a d c f : Int) : List (Key × V) := [(Sum.inr "cells", .ref l), (Sum.inr "at", .int a), (Sum.inr "digits", .int d), (Sum.inr "count", .int c), (Sum.inr "fold", .int f)]
section
variable {l : Addr} {a d c f y : Int} {H : Hp} {p : Addr}
theorem put_at : putK (penK l a d c f) (Sum.inr "at") (.int y) = penK l y d c f := by
  simp only [putK, penK, List.any_cons, List.map_cons, List.map_nil, Sum.inr.injEq, n_ca, n_da, n_na, n_fa, decide_true, decide_false, Bool.true_or, Bool.or_true, if_true, if_false]
theorem put_digits : putK (penK l a d c f) (Sum.inr "digits") (.int y) = penK l a y c f := by
  simp only [putK, penK, List.any_cons, List.map_cons, List.map_nil, Sum.inr.injEq, n_cd, n_ad, n_nd, n_fd, decide_true, decide_false, Bool.true_or, Bool.or_true, if_true, if_false]
theorem put_count : putK (penK l a d c f) (Sum.inr "count") (.int y) = penK l a d y f := by
  simp only [putK, penK, List.any_cons, List.map_cons, List.map_nil, Sum.inr.injEq, n_cc, n_an, n_dn, n_fn, decide_true, decide_false, Bool.true_or, Bool.or_true, if_true, if_false]
theorem put_fold : putK (penK l a d c f) (Sum.inr "fold") (.int y) = penK l a d c y := by
  simp only [putK, penK, List.any_cons, List.map_cons, List.map_nil, Sum.inr.injEq, n_cf, n_af, n_df, n_nf, decide_true, decide_false, Bool.true_or, Bool.or_true, if_true, if_false]
theorem put_new {kvs : List (Key × V)} {x : Str} {v : V} (h : ∀ kv ∈ kvs, ¬ kv.1 = Sum.inr x) : putK kvs (Sum.inr x) v = kvs ++ [(Sum.inr x, v)] := by
  unfold putK
  rw [if_neg]
  intro e
  rw [List.any_eq_true] at e
  obtain ⟨kv, hm, hd⟩ := e
  exact h kv hm (of_decide_eq_true hd)
theorem merge5 : mergeK [] (([(Sum.inr "cells", .ref l), (Sum.inr "at", .int a), (Sum.inr "digits", .int d), (Sum.inr "count", .int c), (Sum.inr "fold", .int f)] : List (Key × V))) = penK l a d c f := by
  show putK (putK (putK (putK (putK ([] : List (Key × V)) (Sum.inr "cells" : Key) (.ref l)) (Sum.inr "at" : Key) (.int a)) (Sum.inr "digits" : Key) (.int d)) (Sum.inr "count" : Key) (.int c)) (Sum.inr "fold" : Key) (.int f) = penK l a d c f
  simp only [putK, penK, List.any_nil, List.nil_append, List.any_cons, List.map_cons, List.map_nil, List.cons_append, Sum.inr.injEq, n_ca, n_cd, n_ad, n_cc, n_an, n_dn, n_cf, n_af, n_df, n_nf, decide_false, Bool.or_false, Bool.false_eq_true, if_false]
theorem val_cells : valV (penK l a d c f) (Sum.inr "cells") = some (.ref l) := valV_pos rfl
theorem val_at : valV (penK l a d c f) (Sum.inr "at") = some (.int a) := (valV_neg fun z => n_ca (Sum.inr.inj z)).trans (valV_pos rfl)
theorem val_digits : valV (penK l a d c f) (Sum.inr "digits") = some (.int d) := (valV_neg fun z => n_cd (Sum.inr.inj z)).trans ((valV_neg fun z => n_ad (Sum.inr.inj z)).trans (valV_pos rfl))
theorem val_count : valV (penK l a d c f) (Sum.inr "count") = some (.int c) := (valV_neg fun z => n_cc (Sum.inr.inj z)).trans ((valV_neg fun z => n_an (Sum.inr.inj z)).trans ((valV_neg fun z => n_dn (Sum.inr.inj z)).trans (valV_pos rfl)))
theorem val_fold : valV (penK l a d c f) (Sum.inr "fold") = some (.int f) := (valV_neg fun z => n_cf (Sum.inr.inj z)).trans ((valV_neg fun z => n_af (Sum.inr.inj z)).trans ((valV_neg fun z => n_df (Sum.inr.inj z)).trans ((valV_neg fun z => n_nf (Sum.inr.inj z)).trans (valV_pos rfl))))
theorem g_cells (h : H p = some (.dK (penK l a d c f))) : DGet H p (.str "cells") (some (.ref l)) := val_cells ▸ DGet.k (k := Sum.inr "cells") h
theorem g_at (h : H p = some (.dK (penK l a d c f))) : DGet H p (.str "at") (some (.int a)) := val_at ▸ DGet.k (k := Sum.inr "at") h
theorem g_digits (h : H p = some (.dK (penK l a d c f))) : DGet H p (.str "digits") (some (.int d)) := val_digits ▸ DGet.k (k := Sum.inr "digits") h
theorem g_count (h : H p = some (.dK (penK l a d c f))) : DGet H p (.str "count") (some (.int c)) := val_count ▸ DGet.k (k := Sum.inr "count") h
theorem g_fold (h : H p = some (.dK (penK l a d c f))) : DGet H p (.str "fold") (some (.int f)) := val_fold ▸ DGet.k (k := Sum.inr "fold") h
theorem len5 : (penK l a d c f).length < sizeLine := small1000 (by show 5 ≤ 1000; decide)
theorem p_at (h : H p = some (.dK (penK l a d c f))) : DPut H p (.str "at") (.int y) (upd H p (.dK (penK l y d c f))) := put_at ▸ DPut.k (k := Sum.inr "at") h len5
theorem p_digits (h : H p = some (.dK (penK l a d c f))) : DPut H p (.str "digits") (.int y) (upd H p (.dK (penK l a y c f))) := put_digits ▸ DPut.k (k := Sum.inr "digits") h len5
theorem p_count (h : H p = some (.dK (penK l a d c f))) : DPut H p (.str "count") (.int y) (upd H p (.dK (penK l a d y f))) := put_count ▸ DPut.k (k := Sum.inr "count") h len5
theorem p_fold (h : H p = some (.dK (penK l a d c f))) : DPut H p (.str "fold") (.int y) (upd H p (.dK (penK l a d c y))) := put_fold ▸ DPut.k (k := Sum.inr "fold") h len5
end
/-- a pen stands at p, c draws were made -/
structure PenAt (H : Hp) (p l : Addr) (c : Int) : Prop where
  ex : ∃ (a d f : Int) (ns : List Int), H p = some (.dK (penK l a d c f)) ∧ H l = some (.lst (ns.map V.int)) ∧ 0 ≤ a ∧ 0 ≤ d ∧ 0 ≤ f ∧ f < 2147483648 ∧ ns.length ≤ 63
  lo : 0 ≤ c
/-- all but what stands at p is as it was -/
def Keep (p : Addr) (H H' : Hp) : Prop := ∀ b o, b ≠ p → H b = some o → H' b = some o
theorem Keep.refl (p : Addr) (H : Hp) : Keep p H H := fun _ _ _ e => e
theorem Keep.trans {p : Addr} {H H1 H2 : Hp} (a : Keep p H H1) (b : Keep p H1 H2) : Keep p H H2 := fun c o n e => b c o n (a c o n e)
theorem Keep.upd {p : Addr} {H : Hp} {o : HO} : Keep p H (upd H p o) := fun b x n e => by
  rw [upd_ne n]
  exact e
theorem Keep.new {p q : Addr} {H : Hp} {o : HO} (h : H q = none) : Keep p H (L2.upd H q o) := fun b x n e => by
  rw [upd_ne (ne_of_none e h)]
  exact e
theorem same_new {H : Hp} {q : Addr} {o : HO} (h : H q = none) : Same H (upd H q o) := fun b x e => by
  rw [upd_ne (ne_of_none e h)]
  exact e
theorem Same.keep {p : Addr} {H H' : Hp} (a : Same H H') : Keep p H H' := fun b o _ e => a b o e
theorem Keep.there {p b : Addr} {H H' : Hp} {o u : HO} (k : Keep p H H') (hp : H p = some u) (h : H b = some o) (d : o ≠ u) : H' b = some o := k b o (fun e => d (by rw [e] at h; exact Option.some.inj (h.symm.trans hp))) h
/-- a pen at p stays where something else is written -/
theorem PenAt.upd {H : Hp} {p l q : Addr} {c : Int} {o : HO} (P : PenAt H p l c) (n : H q = none) : PenAt (L2.upd H q o) p l c := by
  obtain ⟨⟨a, d, f, ns, h1, h2, r⟩, lo⟩ := P
  exact ⟨⟨a, d, f, ns, same_new n _ _ h1, same_new n _ _ h2, r⟩, lo⟩
theorem at_ints {ns : List Int} {i : Nat} {z : Int} (h : ns[i]? = some z) : atI (ns.map V.int) (i : Int) = some (.int z) := atI_nat (by rw [List.getElem?_map, h] <;> rfl)
/-! ### the promises -/
def spPen (K : PySem.W.Frag) : Sp := fun vs H Q _ => ∃ (a : Addr) (ns : List Int), vs = [.ref a] ∧ SqL K H a (ns.map V.int) ∧ ns.length ≤ 63 ∧ ∀ p l H', Same H H' → H p = none → H l = none → PenAt H' p l 0 → Q (.ref p) H'
def spDraw : Sp := fun vs H Q _ => ∃ (p l : Addr) (c many : Int), vs = [.ref p, .int many] ∧ PenAt H p l c ∧ c < 1000000000 ∧ 0 < many ∧ many < 1073741824 ∧
  ∀ (r : Int) (H' : Hp), 0 ≤ r → r < many → PenAt H' p l (c + 1) → Keep p H H' → Q (.int r) H'
def spPick : Sp := fun vs H Q _ => ∃ (p l q : Addr) (c : Int) (xs : List V), vs = [.ref p, .ref q] ∧ PenAt H p l c ∧ c < 1000000000 ∧ H q = some (.lst xs) ∧ 0 < xs.length ∧ xs.length ≤ 1000 ∧
  ∀ (i : Nat) (x : V) (H' : Hp), xs[i]? = some x → PenAt H' p l (c + 1) → Keep p H H' → Q x H'
section
variable {P : Program} {w : World} {K : PySem.W.Frag} {mg : Str → Option Value} {base : Heap}
theorem scPen : FnScope ["_law_script", "_law_fold", "_law_cell"] ["_law_script"] (defScope sPen) := ⟨rfl, rfl, rfl, by decide +kernel, rfl, by decide +kernel, by decide +kernel⟩
theorem ok_pen {k : Nat} {f : Addr} {fd : FuncData} (F : Fun K "_law_pen" "_law_pen" sPen f fd) (mi : mg "int" = none) (ml : mg "list" = none) : FnOk P w K mg base CX0 (k + 1) f fd ["_law_script"] (spPen K) := by
  refine F.ok scPen (fun vs H Q E h => ?_) (fun cdv A outer s H vs Q E hr h => ?_)
  · obtain ⟨a, ns, rfl, _⟩ := h
    rfl
  · obtain ⟨a, ns, rfl, hS, hl, k⟩ := h
    refine ⟨_, pss_cons (ps_set (i := 1) scPen.nd rfl (Or.inl rfl) pe_int)
      (pss_cons (ps_for PassesOwn.never rfl (pi_list (pv 0)) (pg_name (i := 2) scPen.nd rfl (Or.inl rfl))
        (pss_one (ps_set (i := 1) scPen.nd rfl (Or.inl rfl) (pe_op op_mod (pe_callTy call_int1 (by rfl) mi (by decide +kernel) (pa_cons (pe_op op_add (pe_op op_mul (pv 1) pe_int) (pv 2)) pa_nil)) pe_int))))
      (pss_one (ps_ret (pe_disp (pps_cons pe_str (pe_callTy call_list_of (by rfl) ml (by decide +kernel) (pa_cons (pv 0) pa_nil)) (pps_cons pe_str pe_int (pps_cons pe_str pe_int (pps_cons pe_str pe_int (pps_cons pe_str (pv 1) pps_nil))))) (by rfl) (by rfl) (fun z => by cases z) (by decide))))), ?_⟩
    refine ⟨_, rfl, a, rfl, ⟨_, hS⟩, for_list (K := K) (a := a) (xs := ns.map V.int) (fun i σ H2 => ∃ (z : Int) (v : Option V), σ = [some (.ref a), some (.int z), v] ∧ H2 = H ∧ 0 ≤ z ∧ z < 1000000007)
      ⟨0, none, rfl, rfl, by decide, by decide⟩ (fun i σ H2 _ ⟨_, _, _, e, _⟩ => e ▸ hS) ?_ ?_⟩
    · rintro i y σ H2 hi ⟨z, v, rfl, rfl, z0, z1⟩
      obtain ⟨n, rfl⟩ : ∃ n, y = V.int n := by
        rw [List.getElem?_map] at hi
        cases e : ns[i]? with
        | none =>
          rw [e] at hi
          cases hi
        | some n =>
          rw [e] at hi
          exact ⟨n, (Option.some.inj hi).symm⟩
      refine ⟨_, rfl, _, _, rfl, rfl, Or.inr ⟨by decide, by decide⟩, _, rfl, _, _, rfl, rfl, Or.inl ⟨_, rfl, _, _, rfl, rfl, (by show (0 : Int) < 1000000007; decide), ?_⟩⟩
      exact ⟨_, _, rfl, rfl, Int.emod_nonneg _ (by decide), Int.emod_lt_of_pos _ (by decide)⟩
    · rintro σ H2 ⟨z, v, rfl, rfl, z0, z1⟩
      intro p hp
      refine ⟨_, rfl, a, _, rfl, Or.inl ((same_new hp).seq hS), fun l hl' => ?_⟩
      have lp : p ≠ l := ne_of_none upd_same hl'
      refine ⟨_, rfl, ?_, [(Sum.inr "cells", .ref l), (Sum.inr "at", .int 0), (Sum.inr "digits", .int 0), (Sum.inr "count", .int 0), (Sum.inr "fold", .int z)], rfl, by show 5 ≤ 15; decide, ?_⟩
      · rw [upd_ne lp, upd_same]
      · have nl : H2 l = none := by
          rw [upd_ne lp.symm] at hl'
          exact hl'
        refine k p l _ (fun b o e => ?_) hp nl ⟨⟨0, 0, z, ns, ?_, ?_, by decide, by decide, z0, by omega, hl⟩, by decide⟩
        · rw [upd_ne (ne_of_none e hp), upd_ne (ne_of_none e nl), upd_ne (ne_of_none e hp)]
          exact e
        · rw [upd_same, merge5]
        · rw [upd_ne lp.symm, upd_same]
theorem scDraw : FnScope ["_law_pen_here", "_law_many", "_law_cell", "_law_digit", "_law_blend"] ["_law_pen_here", "_law_many"] (defScope sDraw) := ⟨rfl, rfl, rfl, by decide +kernel, rfl, by decide +kernel, by decide +kernel⟩
theorem ok_draw {k : Nat} {f : Addr} {fd : FuncData} (F : Fun K "_law_draw" "_law_draw" sDraw f fd) (mi : mg "int" = none) (ml : mg "len" = none) : FnOk P w K mg base CX0 (k + 1) f fd ["_law_pen_here", "_law_many"] spDraw := by
  refine F.ok scDraw (fun vs H Q E h => ?_) (fun cdv A outer s H vs Q E hr h => ?_)
  · obtain ⟨p, l, c, many, rfl, _⟩ := h
    rfl
  · obtain ⟨p, l, c, many, rfl, ⟨⟨a, d, fo, ns, hp, hl, a0, d0, f0, f1, hn⟩, c0⟩, c1, m0, m1, k⟩ := h
    have hu := hu_of hr
    refine ⟨_, pss_cons (ps_dput hu (pv 0) pe_str (pe_op op_add (pe_dget hu (pv 0) pe_str (fun _ _ => rfl)) pe_int) rfl)
      (C8.pss_cut (ps_if (PW.pt (pw_and (pt_cmpR op_eq (pe_dget hu (pv 0) pe_str (fun _ _ => rfl)) pe_int (nomark _)) (pw_and1 (pt_cmpR op_lt (pe_dget hu (pv 0) pe_str (fun _ _ => rfl)) (pe_callB call_len_seq (by rfl) ml PySem.boot_len (pa_cons (pe_dget hu (pv 0) pe_str (fun _ _ => rfl)) pa_nil)) (nomark _)))))
          (pss_cons (ps_set (i := 2) scDraw.nd rfl (Or.inl rfl) (pe_ix ix_list (pe_dget hu (pv 0) pe_str (fun _ _ => rfl)) (pe_dget hu (pv 0) pe_str (fun _ _ => rfl)) (fun _ _ => rfl)))
          (pss_cons (ps_dput hu (pv 0) pe_str (pe_op op_add (pe_dget hu (pv 0) pe_str (fun _ _ => rfl)) pe_int) rfl)
          (pss_one (ps_if (pt_cmpR op_ge (pv 2) (pe_op op_pow pe_int pe_int) (nomark _))
            (pss_one (ps_dput hu (pv 0) pe_str (pe_op op_sub (pv 2) (pe_op op_pow pe_int pe_int)) rfl))
            (pss_one (ps_dput hu (pv 0) pe_str (pe_op op_mod (pe_callTy call_int1 (by rfl) mi (by decide +kernel) (pa_cons (pe_op op_add (pe_op op_mul (pe_dget hu (pv 0) pe_str (fun _ _ => rfl)) pe_int) (pv 2)) pa_nil)) pe_int) rfl)))))) pss_nil)
      (pss_cons (ps_if (pt_cmpR op_gt (pe_dget hu (pv 0) pe_str (fun _ _ => rfl)) pe_int (nomark _))
          (pss_cons (ps_set (i := 3) scDraw.nd rfl (Or.inl rfl) (pe_op op_modN (pe_callTy call_int1 (by rfl) mi (by decide +kernel) (pa_cons (pe_dget hu (pv 0) pe_str (fun _ _ => rfl)) pa_nil)) (pv 1)))
          (pss_cons (ps_dput hu (pv 0) pe_str (pe_op op_fdivN (pe_dget hu (pv 0) pe_str (fun _ _ => rfl)) (pv 1)) rfl)
          (pss_one (ps_ret (pv 3))))) pss_nil)
      (pss_cons (ps_set (i := 4) scDraw.nd rfl (Or.inl rfl) (pe_op op_add (pe_op op_add (pe_dget hu (pv 0) pe_str (fun _ _ => rfl)) (pe_op op_mul (pe_dget hu (pv 0) pe_str (fun _ _ => rfl)) pe_int)) pe_int))
      (pss_one (ps_ret (pe_op op_modN (pe_op op_fdiv (pe_callTy call_int1 (by rfl) mi (by decide +kernel) (pa_cons (pe_op op_mod (pe_op op_pow (pv 4) pe_int) pe_int) pa_nil)) pe_int) (pv 1))))))), ?_⟩
    refine ⟨_, rfl, p, .int c, rfl, g_count hp, _, _, rfl, rfl, _, rfl, p, _, rfl, p_count hp, ?_⟩
    have lp : l ≠ p := ne_of hl hp (by intro z; cases z)
    refine ⟨fun σ' H' => ∃ (v2 : Option V) (a' d' f' : Int), σ' = [some (.ref p), some (.int many), v2, none, none] ∧ H' p = some (.dK (penK l a' d' (c + 1) f')) ∧ Keep p H H' ∧ 0 ≤ a' ∧ 0 ≤ d' ∧ 0 ≤ f' ∧ f' < 2147483648, ?_, ?_⟩
    · refine ⟨_, rfl, p, .int d, rfl, g_digits upd_same, rfl, _, rfl, ?_⟩
      refine ite2 (fun hd => ?_) (fun hd => ?_)
      · have hl1 : (upd H p (.dK (penK l a d (c + 1) fo))) l = some (.lst (ns.map V.int)) := by
          rw [upd_ne lp]
          exact hl
        refine ⟨_, rfl, p, .int a, rfl, g_at upd_same, _, rfl, p, .ref l, rfl, g_cells upd_same, l, _, rfl, Or.inl (SqL.of hl1), _, _, rfl, rfl, _, rfl, ?_⟩
        refine ite2 (fun ha => ?_) (fun ha => ?_)
        · have ha' : a < (ns.length : Int) := by
            have e := of_decide_eq_true ha
            rw [List.length_map] at e
            exact e
          obtain ⟨z, hz⟩ : ∃ z, ns[a.toNat]? = some z := ⟨ns[a.toNat]'(by omega), List.getElem?_eq_getElem _⟩
          refine ⟨_, rfl, p, .ref l, rfl, g_cells upd_same, _, rfl, p, .int a, rfl, g_at upd_same, l, _, a, .int z, rfl, rfl, SqL.of hl1, ?_, ?_⟩
          · have e := at_ints (ns := ns) hz
            rw [show ((a.toNat : Nat) : Int) = a by omega] at e
            exact e
          refine ⟨_, rfl, p, .int a, rfl, g_at upd_same, _, _, rfl, rfl, _, rfl, p, _, rfl, p_at upd_same, ?_⟩
          refine ⟨_, rfl, 10, 18, rfl, rfl, ⟨by decide, by decide, by decide⟩, _, _, rfl, rfl, _, rfl, ?_⟩
          have e18 : (10 : Int) ^ (18 : Int).toNat = 1000000000000000000 := by decide
          refine ite2 (fun hz => ?_) (fun hz => ?_)
          · have hz' := of_decide_eq_true hz
            rw [e18] at hz'
            refine ⟨_, rfl, 10, 18, rfl, rfl, ⟨by decide, by decide, by decide⟩, _, _, rfl, rfl, _, rfl, p, _, rfl, p_digits upd_same, _, _, _, _, rfl, upd_same, (Keep.upd.trans Keep.upd).trans Keep.upd, by omega, ?_, f0, f1⟩
            rw [e18]
            omega
          · refine ⟨_, rfl, p, .int fo, rfl, g_fold upd_same, _, _, rfl, rfl, Or.inr ⟨by decide, by decide⟩, _, rfl, _, _, rfl, rfl, Or.inl ⟨_, rfl, _, _, rfl, rfl, (by show (0 : Int) < 2147483587; decide), _, rfl, p, _, rfl, p_fold upd_same, ?_⟩⟩
            have e1 := Int.emod_nonneg (fo * 69069 + z) (show (2147483587 : Int) ≠ 0 by decide)
            have e2 := Int.emod_lt_of_pos (fo * 69069 + z) (show (0 : Int) < 2147483587 by decide)
            exact ⟨_, _, _, _, rfl, upd_same, (Keep.upd.trans Keep.upd).trans Keep.upd, by omega, d0, e1, by omega⟩
        · exact ⟨_, _, _, _, rfl, upd_same, Keep.upd, a0, d0, f0, f1⟩
      · exact ⟨_, _, _, _, rfl, upd_same, Keep.upd, a0, d0, f0, f1⟩
    · rintro σ' H2 ⟨v2, a', d', f', rfl, hp2, k2, a0', d0', f0', f1'⟩
      have hl2 : H2 l = some (.lst (ns.map V.int)) := k2 l _ lp hl
      refine ⟨_, rfl, p, .int d', rfl, g_digits hp2, _, _, rfl, rfl, _, rfl, ?_⟩
      refine ite2 (fun hd => ?_) (fun hd => ?_)
      · have hd' := of_decide_eq_true hd
        refine ⟨_, rfl, p, .int d', rfl, g_digits hp2, Or.inl ⟨_, rfl, _, rfl, _, _, rfl, rfl, by omega, ?_⟩⟩
        refine ⟨_, rfl, p, .int d', rfl, g_digits hp2, _, rfl, _, _, rfl, rfl, ⟨by omega, by omega⟩, _, rfl, p, _, rfl, p_digits hp2, _, rfl, ?_⟩
        have em : d'.fmod many = d' % many := Int.fmod_eq_emod_of_nonneg _ (by omega)
        have ed : d'.fdiv many = d' / many := Int.fdiv_eq_ediv_of_nonneg _ (by omega)
        refine k _ _ (by rw [em]; exact Int.emod_nonneg _ (by omega)) (by rw [em]; exact Int.emod_lt_of_pos _ m0) ⟨⟨a', _, f', ns, upd_same, by rw [upd_ne lp]; exact hl2, a0', by rw [ed]; exact Int.ediv_nonneg d0' (by omega), f0', f1', hn⟩, by omega⟩ (k2.trans Keep.upd)
      · refine ⟨_, rfl, p, .int f', rfl, g_fold hp2, _, rfl, p, .int (c + 1), rfl, g_count hp2, _, _, rfl, rfl, Or.inr ⟨by decide, by decide⟩, _, _, rfl, rfl, _, _, rfl, rfl, ?_⟩
        refine ⟨_, rfl, _, 17, rfl, rfl, ⟨by decide, by decide, by omega⟩, _, _, rfl, rfl, (by show (0 : Int) < 2305843009213693951; decide), Or.inl ⟨_, rfl, _, _, rfl, rfl, ⟨by decide, by decide⟩, _, rfl, _, _, rfl, rfl, by omega, ?_⟩⟩
        have em : ∀ z : Int, z.fmod many = z % many := fun z => Int.fmod_eq_emod_of_nonneg _ (by omega)
        exact k _ _ (by rw [em]; exact Int.emod_nonneg _ (by omega)) (by rw [em]; exact Int.emod_lt_of_pos _ m0) ⟨⟨a', d', f', ns, hp2, hl2, a0', d0', f0', f1', hn⟩, by omega⟩ k2
/-- a def that may be called: its promise, its name, how it binds -/
structure Cl (P : Program) (w : World) (K : PySem.W.Frag) (mg : Str → Option Value) (base : Heap) (x : Str) (ps : List Str) (k : Nat) (sp : Sp) (f : Addr) (fd : FuncData) : Prop where
  G : FnOk P w K mg base CX0 k f fd ps sp
  g : mg x = some (.ref f)
  kp : PySem.W.keepIn K (.ref f) = true
  b : Binds K fd ps []
abbrev psDraw : List Str := ["_law_pen_here", "_law_many"]
abbrev psPick : List Str := ["_law_pen_here", "_law_some"]
theorem scPick : FnScope ["_law_pen_here", "_law_some"] ["_law_pen_here", "_law_some"] (defScope sPick) := ⟨rfl, rfl, rfl, by decide +kernel, rfl, by decide +kernel, by decide +kernel⟩
theorem ok_pick {f fD : Addr} {fd fdD : FuncData} (F : Fun K "_law_pick" "_law_pick" sPick f fd) (ml : mg "len" = none) (D : Cl P w K mg base "_law_draw" psDraw 1 spDraw fD fdD) : FnOk P w K mg base CX0 2 f fd psPick spPick := by
  refine F.ok scPick (fun vs H Q E h => ?_) (fun cdv A outer s H vs Q E hr h => ?_)
  · obtain ⟨p, l, q, c, xs, rfl, _⟩ := h
    rfl
  · obtain ⟨p, l, q, c, xs, rfl, hp, c1, hq, x0, x1, k⟩ := h
    refine ⟨_, pss_one (ps_ret (pe_ix ix_list (pv 1) (pe_call D.G hr (by rfl) D.g D.kp D.b .nil pass0 (pa_cons (pv 0) (pa_cons (pe_callB call_len_seq (by rfl) ml PySem.boot_len (pa_cons (pv 1) pa_nil)) pa_nil))) (fun _ _ => rfl))), ?_⟩
    refine ⟨_, rfl, _, rfl, _, rfl, q, xs, rfl, Or.inl (SqL.of hq), p, l, c, (xs.length : Int), rfl, hp, c1, by omega, by omega, fun r H' r0 r1 P' k' => ?_⟩
    have qp : q ≠ p := by
      obtain ⟨⟨a, d, fo, ns, hp', _⟩, _⟩ := hp
      exact ne_of hq hp' (by intro z; cases z)
    have hr2 : r.toNat < xs.length := by omega
    have hx : xs[r.toNat]? = some (xs[r.toNat]'hr2) := List.getElem?_eq_getElem hr2
    refine ⟨q, xs, r, xs[r.toNat]'hr2, rfl, rfl, SqL.of (k' q _ qp hq), ?_, k _ _ H' hx P' k'⟩
    have e := atI_nat hx
    rw [show ((r.toNat : Nat) : Int) = r by omega] at e
    exact e
end
end Fk

namespace Fk
open PySem L2
abbrev sBig : Stmt := top 16
/-! ### a number of at most so many figures -/
theorem digits_lt : ∀ (cs : List Nat) (a : Nat), NumText.AllDigits cs → cs.foldl (fun acc c => acc * 10 + (c - 48)) a < (a + 1) * 10 ^ cs.length
  | [], a, _ => by simp
  | c :: cs, a, h => by
    have hc := h.head
    have ih := digits_lt cs (a * 10 + (c - 48)) h.tail
    rw [List.foldl_cons]
    refine Nat.lt_of_lt_of_le ih ?_
    rw [List.length_cons, Nat.pow_succ, Nat.mul_comm (10 ^ cs.length) 10, ← Nat.mul_assoc]
    exact Nat.mul_le_mul_right _ (by omega)
theorem digitsVal_lt {cs : List Nat} (h : NumText.AllDigits cs) : NumText.digitsVal cs < 10 ^ cs.length := by
  have z := digits_lt cs 0 h
  rw [Nat.zero_add, Nat.one_mul] at z
  exact z
/-- the last figures of a number, read as a number -/
theorem tail_int (n f : Nat) (hf : 0 < f) (hl : (TL.numL n).length ≤ 640) : ∃ r : Nat, PySem.intText? (cutS (Str.ofString (toString ((n : Nat) : Int))) (some (-(f : Int))) none) = some (r : Int) ∧ r < 10 ^ f := by
  have et : (Str.ofString (toString ((n : Nat) : Int))).cps.toList = TL.numL n := TL.tl_num n
  have el : (Str.ofString (toString ((n : Nat) : Int))).length = (TL.numL n).length := by rw [← et] <;> rfl
  have ne := TL.numL_ne n
  have pos : 0 < (TL.numL n).length := List.length_pos_iff.mpr ne
  have ei : HT.sIx (TL.numL n).length 0 (some (-(f : Int))) = (TL.numL n).length - f := by
    show (if (-(f : Int)) < 0 then ((-(f : Int)) + ((TL.numL n).length : Int)).toNat else _) = _
    rw [if_pos (by omega)]
    omega
  have ec : (cutS (Str.ofString (toString ((n : Nat) : Int))) (some (-(f : Int))) none).cps.toList = (TL.numL n).drop ((TL.numL n).length - f) := by
    unfold cutS
    rw [et, el, HT.sIx_none, ei, List.toList_toArray, List.take_of_length_le]
    rw [List.length_drop]
    exact Nat.le_refl _
  have ad : NumText.AllDigits ((TL.numL n).drop ((TL.numL n).length - f)) := fun c hc => TL.numL_digits n c (List.mem_of_mem_drop hc)
  have ll : ((TL.numL n).drop ((TL.numL n).length - f)).length ≤ f := by
    rw [List.length_drop]
    omega
  refine ⟨NumText.digitsVal ((TL.numL n).drop ((TL.numL n).length - f)), ?_, Nat.lt_of_lt_of_le (digitsVal_lt ad) (Nat.pow_le_pow_right (by decide) ll)⟩
  rw [← ec]
  refine intText_digits (by rw [ec]; exact ad) (by rw [ec]; exact fun z => by have := congrArg List.length z; rw [List.length_drop] at this; simp at this; omega) ?_
  exact Nat.le_trans (cutS_length _ _ _) (by rw [el]; omega)
def spBig : Sp := fun vs H Q _ => ∃ (p l : Addr) (c fg : Int), vs = [.ref p, .int fg] ∧ PenAt H p l c ∧ c < 900000000 ∧ 1 ≤ fg ∧ fg ≤ 60 ∧
  ∀ (r c' : Int) (H' : Hp), 0 ≤ r → r < 10 ^ fg.toNat → c ≤ c' → c' ≤ c + 30 → PenAt H' p l c' → Keep p H H' → Q (.int r) H'
section
variable {P : Program} {w : World} {K : PySem.W.Frag} {mg : Str → Option Value} {base : Heap}
abbrev psBig : List Str := ["_law_pen_here", "_law_figures"]
theorem scBig : FnScope ["_law_pen_here", "_law_figures", "_law_total", "_law_k"] psBig (defScope sBig) := ⟨rfl, rfl, rfl, by decide +kernel, rfl, by decide +kernel, by decide +kernel⟩
theorem ok_big {f fD fP : Addr} {fd fdD fdP : FuncData} (F : Fun K "_law_big" "_law_big" sBig f fd) (mr : mg "range" = none) (mi : mg "int" = none) (ms : mg "str" = none)
    (D : Cl P w K mg base "_law_draw" psDraw 1 spDraw fD fdD) (C : Cl P w K mg base "_law_pick" psPick 2 spPick fP fdP) : FnOk P w K mg base CX0 3 f fd psBig spBig := by
  refine F.ok scBig (fun vs H Q E h => ?_) (fun cdv A outer s H vs Q E hr h => ?_)
  · obtain ⟨p, l, c, fg, rfl, _⟩ := h
    rfl
  · obtain ⟨p, l, c, fg, rfl, hp, c1, f1, f2, k⟩ := h
    refine ⟨_, pss_cons (ps_set (i := 2) scBig.nd rfl (Or.inl rfl) pe_int)
      (pss_cons (ps_for PassesOwn.never rfl (pi_range1 (by rfl) mr (pa_cons (pe_call C.G hr (by rfl) C.g C.kp C.b .nil pass0 (pa_cons (pv 0) (pa_cons (pe_lst (pa_cons pe_int (pa_cons pe_int (pa_cons pe_int (pa_cons pe_int (pa_cons pe_int (pa_cons (pe_op op_fdiv (pe_op op_add (pv 1) pe_int) pe_int) pa_nil))))))) pa_nil))) pa_nil)) (pg_name (i := 3) scBig.nd rfl (Or.inl rfl))
        (pss_one (ps_set (i := 2) scBig.nd rfl (Or.inl rfl) (pe_op op_add (pe_op op_mul (pv 2) pe_int) (pe_call D.G (hr.mono (by decide)) (by rfl) D.g D.kp D.b .nil pass0 (pa_cons (pv 0) (pa_cons pe_int pa_nil)))))))
      (pss_one (ps_ret (pe_callTy call_int_str (by rfl) mi (by decide +kernel) (pa_cons (pe_slice sl_str (pe_callTy call_str_int (by rfl) ms (by decide +kernel) (pa_cons (pv 2) pa_nil)) (po_some (pe_un un_neg (pv 1))) po_none) pa_nil))))), ?_⟩
    refine ⟨_, rfl, _, rfl, _, _, rfl, rfl, _, _, rfl, rfl, ⟨by decide, by decide⟩, ?_⟩
    refine ⟨by show 6 ≤ sizeLine; decide, fun q hq => ?_⟩
    refine ⟨p, l, q, c, _, rfl, hp.upd hq, by omega, upd_same, by show 0 < 6; decide, by show 6 ≤ 1000; decide, fun i x H1 hx P1 k1 => ?_⟩
    obtain ⟨n, rfl, n0, n1⟩ : ∃ n : Int, x = .int n ∧ 1 ≤ n ∧ n ≤ 20 := by
      have hm := List.mem_of_getElem? hx
      simp only [List.mem_cons, List.not_mem_nil, or_false] at hm
      rcases hm with e | e | e | e | e | e
      · exact ⟨1, e, by decide, by decide⟩
      · exact ⟨1, e, by decide, by decide⟩
      · exact ⟨1, e, by decide, by decide⟩
      · exact ⟨2, e, by decide, by decide⟩
      · exact ⟨3, e, by decide, by decide⟩
      · exact ⟨(fg + 2) / 3, e, by omega, by omega⟩
    refine ⟨n, rfl, by omega, by omega, ?_⟩
    refine for_range (lo := 0) (n := n.toNat) (fun i σ H2 => ∃ (t c' : Int) (v : Option V), σ = [some (.ref p), some (.int fg), some (.int t), v] ∧ 0 ≤ t ∧ t < 1000 ^ i ∧ c ≤ c' ∧ c' ≤ c + 1 + i ∧ PenAt H2 p l c' ∧ Keep p H H2)
      ⟨0, c + 1, none, rfl, by decide, by decide, by omega, by omega, P1, (Keep.new hq).trans k1⟩ ?_ ?_
    · rintro i σ H2 hi ⟨t, c', v, rfl, t0, t1, c2, c3, P2, k2⟩
      refine ⟨_, rfl, _, _, rfl, rfl, Or.inr ⟨by decide, by decide⟩, _, rfl, p, l, c', 1000, rfl, P2, by omega, by decide, by decide, fun r H3 r0 r1 P3 k3 => ?_⟩
      refine ⟨_, _, rfl, rfl, _, c' + 1, _, rfl, by omega, ?_, by omega, by omega, P3, k2.trans k3⟩
      rw [Int.pow_succ]
      omega
    · rintro σ H2 ⟨t, c', v, rfl, t0, t1, c2, c3, P2, k2⟩
      obtain ⟨m, rfl⟩ : ∃ m : Nat, t = (m : Int) := ⟨t.toNat, by omega⟩
      obtain ⟨g, rfl⟩ : ∃ g : Nat, fg = (g : Int) := ⟨fg.toNat, by omega⟩
      have m60 : m < 10 ^ 60 := by
        have e1 : (1000 : Int) ^ n.toNat = ((1000 ^ n.toNat : Nat) : Int) := by simp
        rw [e1] at t1
        have e2 : 1000 ^ n.toNat ≤ 1000 ^ 20 := Nat.pow_le_pow_right (by decide) (by omega)
        have e3 : (1000 : Nat) ^ 20 = 10 ^ 60 := by decide
        omega
      have hlog : (m : Int).natAbs.log2 < 1920 := by
        rw [Int.natAbs_natCast]
        by_cases hm : m = 0
        · rw [hm]
          decide
        · exact Nat.lt_of_lt_of_le ((Nat.log2_lt hm).mpr (Nat.lt_trans m60 (show (10 : Nat) ^ 60 < 2 ^ 200 by decide))) (by decide)
      have l60 : (TL.numL m).length ≤ 60 := TL.numL_len (by decide) m60
      obtain ⟨r, hr1, hr2⟩ := tail_int m g (by omega) (by omega)
      have el : (Str.ofString (toString (m : Int))).length = (TL.numL m).length := by
        rw [← TL.tl_num m]
        rfl
      refine ⟨_, rfl, _, rfl, hlog, _, rfl, _, rfl, _, rfl, _, rfl, Nat.le_of_lt (small1000 (by omega)), _, (r : Int), rfl, hr1, Nat.le_trans (cutS_length _ _ _) (by omega), ?_⟩
      refine k _ c' H2 (by omega) ?_ c2 (by omega) P2 k2
      rw [Int.toNat_natCast]
      have e : ((10 : Int) ^ g) = ((10 ^ g : Nat) : Int) := by simp
      rw [e]
      exact Int.ofNat_lt.mpr hr2
end
end Fk

set_option maxHeartbeats 4000000
namespace Fk
open PySem PySem.Spec L2 PyProof.Rows
theorem paired_of {α β : Type} {R : α → β → Prop} : ∀ (xs : List α) (ys : List β), xs.length = ys.length → (∀ (i : Nat) (x : α) (y : β), xs[i]? = some x → ys[i]? = some y → R x y) → Paired R xs ys
  | [], [], _, _ => .nil
  | x :: xs, y :: ys, hl, h => .cons (h 0 x y rfl rfl) (paired_of xs ys (Nat.succ.inj hl) fun i a b ha hb => h (i + 1) a b ha hb)
  | [], _ :: _, hl, _ => nomatch hl
  | _ :: _, [], hl, _ => nomatch hl
section
variable {X : Cx}
/-! ### a text times a number; a tuple of a text's signs -/
theorem op_mulS : OpR X (binaryOp .Mult) (fun x y H Q => ∃ (z : Str) (k : Int), x = .str z ∧ y = .int k ∧ PySem.MulOk z k ∧ Q (.str (PySem.Txt.mul z k)) H) := by
  intro pins s σ H x y v u Q I rx ry h
  obtain ⟨z, k, rfl, rfl, ok, q⟩ := h
  obtain ⟨t, rfl⟩ := rx
  obtain ⟨t', rfl⟩ := ry
  exact PySem.SB.mul ok fun t2 k2 => ⟨.str _, H, I.tok _, ⟨_, rfl⟩, q⟩
def signsOf (z : Str) : List V := z.cps.toList.map fun c => V.str ⟨#[c]⟩
theorem call_tupS : CallR X (.type "tuple") (fun xs H Q => ∃ z : Str, xs = [.str z] ∧ X.A.handled = none ∧ z.length ≤ sizeLine ∧ ∀ p, H p = none → Q (.ref p) (upd H p (.tup (signsOf z)))) := by
  intro pins s σ H xs us Q I r h
  obtain ⟨z, rfl, hh, hz, q⟩ := h
  obtain ⟨u1, rfl, r1⟩ := vals1 r
  obtain ⟨t, rfl⟩ := r1
  refine call_tuple_str hh z t (fun h' tk acc hk hit => ?_) hz
  obtain ⟨hsz, hat⟩ := hit
  have zl : z.cps.toList.length = z.cps.size := Array.length_toList
  have rel : Vals (signsOf z) acc.toList := paired_of _ _ (by rw [signsOf, List.length_map, zl, Array.length_toList, hsz]) fun i x y hx hy => by
    rw [signsOf, List.getElem?_map] at hx
    rw [Array.getElem?_toList] at hy
    obtain ⟨c, u, hc, rfl⟩ := hat i y hy
    rw [← Array.getElem?_toList] at hc
    rw [hc] at hx
    cases hx
    exact ⟨u, rfl⟩
  have I1 : Inv X pins σ H { s with heap := h' } := I.kept (t' := s.toks) hk
  have I2 : Inv X pins σ (upd H h'.objs.size (.tup (signsOf z))) { s with heap := h'.push { cls := .type "tuple", data := .seq acc }, toks := tk } :=
    I1.laid (t' := tk) (fun b o e => Heap.get?_push_of_some _ e) (Nat.le_refl _) (show ObjOk X.prog X.w _ _ _ (.tup (signsOf z)) from ⟨by rw [signsOf, List.length_map, zl]; exact hz, acc.toList, rel, by rw [Array.toArray_toList]; exact IsTup.new _ _⟩)
  exact ⟨.ref h'.objs.size, _, I2, rfl, q _ (I1.hok.fresh (Nat.le_refl _))⟩
/-! ### int of a long text -/
theorem op_fdivB : OpR X (binaryOp .FloorDiv) (rI (fun i j => 0 < j ∧ i.natAbs < 2 ^ 13400) fun i j => .int (i / j)) := opI fun i j _ _ _ _ _ hc q => by
  obtain ⟨h1, h2⟩ := hc
  refine floordiv_int (by omega) (by rw [Int.fdiv_eq_ediv_of_nonneg i (by omega)]; exact q) (.inl ?_)
  have k1 : (if i == 0 then 0 else i.natAbs.log2 / 30 + 1) ≤ 447 := by
    by_cases h0 : (i == 0) = true
    · rw [if_pos h0]
      exact Nat.zero_le _
    · rw [if_neg h0]
      have : i.natAbs.log2 < 13400 := (Nat.log2_lt (by simpa using h0)).mpr h2
      omega
  show (decide ((if j == 0 then 0 else j.natAbs.log2 / 30 + 1) > 300) && decide ((if i == 0 then 0 else i.natAbs.log2 / 30 + 1) > (if j == 0 then 0 else j.natAbs.log2 / 30 + 1) + 150)) = false
  generalize (if i == 0 then 0 else i.natAbs.log2 / 30 + 1) = m at k1
  generalize (if j == 0 then 0 else j.natAbs.log2 / 30 + 1) = n
  by_cases hn : n > 300
  · rw [decide_eq_false (show ¬ m > n + 150 by omega), Bool.and_false]
  · rw [decide_eq_false hn, Bool.false_and]
end
/-! ### int of a long text -/
section
open PySem.NumText
theorem wp_long {M : Model} {A : Around} {E : Value → Shared → Prop} {s : Shared} {K : PySem.W.Frag} {Q : Value → Shared → Prop} {v : Value} {text : List Nat} {n : Int} (X : K.In s.heap) (e : PySem.W.nsIn K cStatics "sys.int_max_str_digits" = some none)
    (hs : ¬ (text.takeWhile (· != 0)).length ≤ 640) (hr : (int_private% "readNumeral") 4300 10 (text.takeWhile (· != 0)) = (int_private% "Numeral.value") n)
    (ha : ((text.takeWhile (· != 0)).length == text.length) = true) (h : Q (.int n s.toks) { s with toks := s.toks + 1 }) :
    wpAny M A ((int_private% "intFromText") v text 10) Q E s := by
  have L := PySem.W.looks_nsIn (M := M) X e
  obtain ⟨hp, g, d, tk, os⟩ := s
  repeat (any_goals (first
    | assumption
    | (with_reducible refine wpAny_ite_false (decide_eq_false hs) ?_)
    | (with_reducible refine wpAny_ite_true (decide_eq_true ha) ?_)
    | (with_reducible refine L.at ?_)
    | wp_step))
  all_goals (try rw [hr])
  all_goals (try dsimp only)
  repeat (any_goals (first
    | assumption
    | (with_reducible refine wpAny_ite_true (decide_eq_true ha) ?_)
    | wp_step))
structure Kept1 (p : Prop) : Prop where
  out : p
theorem meets_long {K : PySem.W.Frag} {x : PySem.Str} {u : Tok} {n : Int} (e : PySem.W.nsIn K cStatics "sys.int_max_str_digits" = some none) (hd : ∀ c ∈ x.cps.toList, c = 45 ∨ (48 ≤ c ∧ c ≤ 57)) (h6 : 640 < x.length) (hl : x.length ≤ sizeLine) (hn : PySem.intText? x = some n) :
    Meets (Builtin.«int.__new__» ⟨[.type "int", .str x u], []⟩) (fun _ R s => K.In s.heap ∧ ∀ tk t, R (.ok (.ret (.int n t))) { s with toks := tk }) := .of_wp fun prog w A R s h => by
  obtain ⟨X, h⟩ := h
  have f1 := F.conv_sub_int
  have f2 := F.madeHere_int
  have f3 := PySem.W.KIN.str_int
  have f4 := PySem.W.KIN.str_idx
  have f5 := PySem.W.KIN.str_trunc
  have f6 : typeOf (.str x u) = pure (.type "str") := rfl
  obtain ⟨e1, e2⟩ := numText_signs hd
  have xl : x.cps.toList.length = x.length := Array.length_toList
  have hs : ¬ (numSeenOf x).length ≤ 640 := by
    rw [e2, xl]
    omega
  have hr : (int_private% "readNumeral") 4300 10 (numSeenOf x) = (int_private% "Numeral.value") n ∧ ((numSeenOf x).length == (numTextOf x).length) = true := by
    rcases read4300 x hl with ⟨m, h1, h2, h3⟩ | ⟨h1, _⟩
    · rw [hn] at h1
      injection h1 with h1
      subst h1
      exact ⟨h3, h2⟩
    · rw [hn] at h1
      cases h1
  have hk := Kept1.mk (And.intro hs hr)
  clear hs hr hl hn hd e1 e2 xl h6
  obtain ⟨hp, g, d, tk, os⟩ := s
  repeat (any_goals (first
    | assumption
    | ((with_reducible show wpAny _ _ ((int_private% "intFromText") _ _ _) _ _ _); refine wp_long X e hk.out.1 hk.out.2.1 hk.out.2.2 ?_)
    | wp_step))
  all_goals first | exact ⟨_, rfl, h _ _⟩ | exact h _ _ | trace_state
end
section
variable {X : Cx}
/-- int(text), a number of at most 4,300 figures -/
theorem call_int_big (e : PySem.W.nsIn X.K cStatics "sys.int_max_str_digits" = some none) : CallR X (.type "int") (fun xs H Q => ∃ a n, xs = [.str a] ∧ (∀ c ∈ a.cps.toList, c = 45 ∨ (48 ≤ c ∧ c ≤ 57)) ∧ PySem.intText? a = some n ∧ a.length ≤ sizeLine ∧ Q (.int n) H) := by
  intro pins s σ H xs us Q I rs h
  obtain ⟨a, n, rfl, hd, hn, hl, h⟩ := h
  obtain ⟨u1, rfl, r1⟩ := vals1 rs
  obtain ⟨t, rfl⟩ := r1
  by_cases h6 : a.length ≤ 640
  · exact PySem.W.KIN.call_text hn h6 ⟨.int n, H, I.tok _, ⟨_, rfl⟩, h⟩
  · exact call_int_1 (meets_long e hd (by omega) hl hn) ⟨I.kIn, fun tk t => ⟨rfl, ⟨.int n, H, I.tok _, ⟨_, rfl⟩, h⟩⟩⟩
end
end Fk

set_option maxHeartbeats 4000000
namespace Fk
open PySem PySem.Spec L2 PyProof.Rows
/-! ### try with several clauses, each with a name -/
/-- a clause: its class, the slot of its name, its suite's reading -/
abbrev Clause := Value × Nat × (Addr → Value → Option Addr → TS)
def wEach (K : PySem.W.Frag) (Wout : WX) (D : Ends) : List Clause → WX
  | [] => Wout
  | (c, i, ts) :: r => wAs K c i ts (wEach K Wout D r) D
inductive Clauses (X : Cx) : List ExceptHandler → List Clause → Prop
  | nil : Clauses X [] []
  | cons {x n : Str} {c : Value} {i : Nat} {ts : Addr → Value → Option Addr → TS} {b : Stmt} {suite : List Stmt} {np pos : Pos} {hs : List ExceptHandler} {l : List Clause} (hc : Names X x c) (hi : X.N[i]? = some n) (hl : X.env.kindOf n = some .local)
      (hb : ∀ (a : Addr) (oe : Obj) (cls : Value) (d : Option Addr) (pn : List (Addr × Obj)), Zc cls d oe → (∃ vs, oe.data = .fields vs) → PSs (X.suite a ((a, oe) :: pn)) (b :: suite) (ts a cls d))
      (r : Clauses X hs l) : Clauses X (.ExceptHandler (some (.Name x np)) (some n) (b :: suite) pos :: hs) ((c, i, ts) :: l)
section
variable {X : Cx} {body : List Stmt} {hd : ExceptHandler} {hds : List ExceptHandler} {l : List Clause} {pos : Pos} {tb : WX → TS} {Wout : WX}
theorem ps_try_each (hs : X.stack = X.env :: X.outer) (hf : X.env.frame = some X.env.locals) (hN : X.N.Nodup) (tk : Takes X Wout)
    (hb : ∀ (W : WX) (pn : List (Addr × Obj)) (xe : Value → Shared → Prop), Takes (X.tr pn xe) W → PassesOwn (model X.prog X.w) X.A X.env xe → PSs (X.tr pn xe) body (tb W))
    (hh : Clauses X (hd :: hds) l) : PS X (.Try body (hd :: hds) [] [] pos) (fun D σ H => tb (wEach X.K Wout D l) D σ H) := by
  refine ⟨fun pins s σ H D I h => ?_⟩
  have ok := I.ok
  have fr : X.A.frames = some (X.env :: X.outer) := hs ▸ ok.frames
  refine wpAny_Try_except ?_
  refine wpAny_mono ((hb (wEach X.K Wout D l) (X.pn ++ pins) (fun e s₁ => wpAny (model X.prog X.w) X.A (noteFrame e X.env) (fun _ s₂ => wpAny (model X.prog X.w) X.A (setFlight e none) (fun _ s₃ =>
    wpAny (model X.prog X.w) X.A (handleBy e X.env (hd :: hds)) (SP X pins D) X.xe s₃) X.xe s₂) X.xe s₁) (fun u s' xx => ?_) PassesOwn.looking).run [] s σ H D (I.toTry _) h) (fun f s1 q => ?_) (fun e s1 z => z)
  · obtain ⟨a, B, sI, pj, σ', H', cls, d, rfl, J', nb, up, sky, na, os, ag, w⟩ := xx
    have J : Inv X pins σ' H' sI := J'.ofTry ok
    rw [hs] at sky
    show wpAny (model X.prog X.w) X.A (noteFrame (.ref a) X.env) _ _ _
    refine Sky.land Zc.steady fr hf sky fun h3 fl3 up3 => ?_
    have J3 : Inv X pins σ' H' { s' with heap := h3 } := J.landed nb fl3.1 (up.trans up3) os ag
    obtain ⟨oe3, vs3, he3, hz3, hd3⟩ := fl3.there
    have notIn : a ∉ frs (X.env :: X.outer) := fun hm => by
      obtain ⟨_, o', e', nf⟩ := fl3.2.2.1.mem hm
      rw [he3] at e'
      cases e'
      exact nf _ hd3
    have nL : a ≠ X.env.locals := fun z => notIn (List.mem_filterMap.mpr ⟨X.env, List.mem_cons_self, hf.trans (congrArg some z.symm)⟩)
    have nF : a ∉ X.fs := fun hm => by
      obtain ⟨e, he, z⟩ := List.mem_filterMap.mp hm
      exact notIn (List.mem_filterMap.mpr ⟨e, List.mem_cons_of_mem _ he, z⟩)
    have S3 := J3.suite he3 hd3 na nL nF
    have LT : PySem.W.Looks (model X.prog X.w) h3 (typeOf (.ref a)) cls := fun A Q E s k q => wpAny_typeOf_ref (k _ _ he3) (hz3.1.symm ▸ q)
    have go : ∀ {hs' : List ExceptHandler} {l' : List Clause}, Clauses X hs' l' → wEach X.K Wout D l' cls d σ' H' → wpAny (model X.prog X.w) X.A (handleBy (.ref a) X.env hs') (SP X pins D) X.xe { s' with heap := h3 } := by
      intro hs' l' hk
      induction hk with
      | nil =>
        intro w
        refine wpAny_handleBy_nil ?_
        obtain ⟨_, _, _, oe, vs, T, _, _, he, _, hdt, h1, _⟩ := id fl3
        unfold PySem.passOn
        refine wpAny_bind (wpAny_field he hdt h1 ?_)
        rw [if_neg (fun z => nomatch (beq_iff_eq.mp z : Value.ref T = Value.none))]
        have out : wpAny (model X.prog X.w) X.A (setFlight (.ref a) X.env.frame) (fun _ s4 => wpAny (model X.prog X.w) X.A (throw (.ref a) : Sem Flow) (SP X pins D) X.xe s4) X.xe { s' with heap := h3 } := by
          rw [hf]
          exact HandSPX.setFlight_upZ fl3 fun h4 hh4 up4 => wpAny_throw (tk _ _ ⟨a, B, sI, pins, σ', H', cls, d, rfl, J, nb, (up.trans up3).trans up4, .inr (.inr (hs.symm ▸ hh4)), na, os, ag, w⟩)
        first
          | exact wpAny_bind (wpAny_pure (wpAny_bind out))
          | exact wpAny_bind out
      | @cons x n c i ts b suite np pos' hs2 l2 hc hi hln hsu r ih =>
        intro w
        obtain ⟨yes, hy, h1, h2⟩ := w
        refine wpAny_handleBy_cons (codeAny_handlers_test ?_) (fun z => nomatch z)
        have LM := PySem.W.exm_one (M := model X.prog X.w) J3.kIn LT hy
        have test : ∀ {Q : Value → Shared → Prop} {E : Value → Shared → Prop}, Q c { s' with heap := h3 } → wpAny (model X.prog X.w) (X.A.mark (some (.ref a))) (eval (.Name x np) X.env) Q E { s' with heap := h3 } := fun {Q E} q => by
          obtain ⟨g1, g2, hm | ⟨hm, hv, hnn⟩⟩ := hc
          · exact ld_glob (X := X.suite a ((a, oe3) :: (X.pn ++ pins))) S3 g1 hm q g2
          · exact ld_blt (X := X.suite a ((a, oe3) :: (X.pn ++ pins))) S3 g1 hm hv q hnn g2
        refine test (LM.here ?_)
        cases yes with
        | false => exact ih (h2 rfl)
        | true =>
          refine codeAny_handlers_suite_as ?_
          refine HandSPX.lands_againZ fl3 fun h4 fl4 up4 => ?_
          have J4 : Inv X pins σ' H' { s' with heap := h4 } := J.landed nb fl4.1 ((up.trans up3).trans up4) os ag
          obtain ⟨oe4, vs4, he4, hz4, hd4⟩ := fl4.there
          refine store_ok (X := X.suite a ((a, oe4) :: (X.pn ++ pins))) (v := .ref a) (J4.suite he4 hd4 na nL nF) hN hi (.inl hln) rfl (fun s5 S5 => ?_) (.inr hln)
          refine wpAny_mono ((hsu a oe4 cls d (X.pn ++ pins) hz4 ⟨_, hd4⟩).run [] s5 _ H' _ S5 (h1 rfl a na)) (fun f s6 q => ?_) (fun _ _ z => False.elim z)
          have gone : ∀ {σ6 : L2.St} {H6 : Hp} {Q : Shared → Prop}, Inv (X.suite a ((a, oe4) :: (X.pn ++ pins))) [] σ6 H6 s6 → (∀ s7, Inv X pins (σ6.set i none) H6 s7 → Q s7) →
              wpAny (model X.prog X.w) X.A (do bindName X.env n .none; unbindBehindTheSuite X.env n pos') (fun _ s7 => Q s7) X.xe s6 := fun {σ6 H6 Q} S6 hq => gone_ok (S6.unsuite ok) hN hi hln hq
          cases f with
          | next =>
            obtain ⟨σ6, H6, S6, q6⟩ := q
            exact gone S6 fun s7 J7 => ⟨_, _, J7, q6⟩
          | brk =>
            obtain ⟨σ6, H6, S6, q6⟩ := q
            exact gone S6 fun s7 J7 => ⟨_, _, J7, q6⟩
          | cont =>
            obtain ⟨σ6, H6, S6, q6⟩ := q
            exact gone S6 fun s7 J7 => ⟨_, _, J7, q6⟩
          | ret u =>
            obtain ⟨v6, σ6, H6, S6, r6, q6⟩ := q
            exact gone S6 fun s7 J7 => ⟨_, _, _, J7, r6, q6⟩
    exact go hh w
  · cases f with
    | ret u =>
      obtain ⟨v, σ', H', J', r, z⟩ := q
      exact ⟨v, σ', H', J'.ofTry ok, r, z⟩
    | next =>
      obtain ⟨σ', H', J', z⟩ := q
      exact wpAny_execs_nil ⟨σ', H', J'.ofTry ok, z⟩
    | brk =>
      obtain ⟨σ', H', J', z⟩ := q
      exact ⟨σ', H', J'.ofTry ok, z⟩
    | cont =>
      obtain ⟨σ', H', J', z⟩ := q
      exact ⟨σ', H', J'.ofTry ok, z⟩
end
end Fk

namespace Fk
open PySem L2
/-! ### texts as lists of signs -/
def isD (c : Nat) : Bool := decide (48 ≤ c) && decide (c ≤ 57)
theorem isD_iff {c : Nat} : isD c = true ↔ 48 ≤ c ∧ c ≤ 57 := by
  unfold isD
  rw [Bool.and_eq_true, decide_eq_true_eq, decide_eq_true_eq]
/-- how many figures stand from k on -/
def nd (cs : List Nat) (k : Nat) : Nat := ((cs.drop k).takeWhile isD).length
def dend (cs : List Nat) (k : Nat) : Nat := k + nd cs k
theorem nd_step {cs : List Nat} {k c : Nat} (h : cs[k]? = some c) (hd : isD c = true) : nd cs k = nd cs (k + 1) + 1 := by
  have hk : k < cs.length := (List.getElem?_eq_some_iff.mp h).1
  have e : cs.drop k = c :: cs.drop (k + 1) := by
    rw [List.drop_eq_getElem_cons hk]
    have z := (List.getElem?_eq_some_iff.mp h).2
    rw [z]
  unfold nd
  rw [e, List.takeWhile_cons, if_pos hd, List.length_cons]
theorem dend_step {cs : List Nat} {k c : Nat} (h : cs[k]? = some c) (hd : isD c = true) : dend cs k = dend cs (k + 1) := by
  unfold dend
  rw [nd_step h hd]
  omega
theorem dend_stop {cs : List Nat} {k c : Nat} (h : cs[k]? = some c) (hd : isD c = false) : dend cs k = k := by
  have hk : k < cs.length := (List.getElem?_eq_some_iff.mp h).1
  have e : cs.drop k = c :: cs.drop (k + 1) := by
    rw [List.drop_eq_getElem_cons hk]
    have z := (List.getElem?_eq_some_iff.mp h).2
    rw [z]
  unfold dend nd
  rw [e, List.takeWhile_cons, hd]
  rfl
theorem dend_past {cs : List Nat} {k : Nat} (h : cs.length ≤ k) : dend cs k = k := by
  unfold dend nd
  rw [List.drop_of_length_le h]
  rfl
theorem dend_ge (cs : List Nat) (k : Nat) : k ≤ dend cs k := Nat.le_add_right _ _
theorem dend_le {cs : List Nat} {k : Nat} (h : k ≤ cs.length) : dend cs k ≤ cs.length := by
  have z : ((cs.drop k).takeWhile isD).length ≤ (cs.drop k).length := (List.takeWhile_sublist _).length_le
  rw [List.length_drop] at z
  unfold dend nd
  omega
/-- the signs from a to b -/
def cut (cs : List Nat) (a b : Nat) : List Nat := (cs.drop a).take (b - a)
theorem cut_dend (cs : List Nat) (k : Nat) : cut cs k (dend cs k) = (cs.drop k).takeWhile isD := by
  unfold cut dend
  rw [Nat.add_sub_cancel_left]
  unfold nd
  have h : (cs.drop k).takeWhile isD <+: cs.drop k := List.takeWhile_prefix _
  exact (List.prefix_iff_eq_take.mp h).symm
theorem tw_all : ∀ (l : List Nat) (c : Nat), c ∈ l.takeWhile isD → isD c = true
  | [], _, h => nomatch h
  | d :: l, c, h => by
    rw [List.takeWhile_cons] at h
    split at h
    · rename_i hd
      rcases List.mem_cons.mp h with e | e
      · rw [e]
        exact hd
      · exact tw_all l c e
    · cases h
theorem cut_digits (cs : List Nat) (k : Nat) : NumText.AllDigits (cut cs k (dend cs k)) := by
  rw [cut_dend]
  intro c hc
  exact isD_iff.mp (tw_all _ _ hc)
theorem cut_len {cs : List Nat} {a b : Nat} (h : b ≤ cs.length) : (cut cs a b).length = b - a := by
  unfold cut
  rw [List.length_take, List.length_drop]
  omega
/-- what a text is read as -/
inductive Out
  | text (n : Nat)
  | large (n : Nat)
  | ratio (a b : Int)
def sgn (s : Nat) : Int := if s = 1 then -1 else 1
def st (cs : List Nat) : Nat := if cs.head? = some 45 then 1 else 0
def val (cs : List Nat) (a b : Nat) : Nat := NumText.digitsVal (cut cs a b)
def out (cs : List Nat) : Out :=
  if dend cs (st cs) = st cs then .text (st cs + 1)
  else if cs[dend cs (st cs)]? = some 47 then
    if dend cs (dend cs (st cs) + 1) = dend cs (st cs) + 1 then .text (dend cs (dend cs (st cs) + 1) + 1)
    else if dend cs (dend cs (st cs) + 1) < cs.length then .text (dend cs (dend cs (st cs) + 1) + 1)
    else if 4000 < dend cs (st cs) - st cs then .large (dend cs (st cs) - st cs)
    else if 4000 < dend cs (dend cs (st cs) + 1) - (dend cs (st cs) + 1) then .large (dend cs (dend cs (st cs) + 1) - (dend cs (st cs) + 1))
    else if val cs (dend cs (st cs) + 1) (dend cs (dend cs (st cs) + 1)) = 0 then .text (dend cs (st cs) + 2)
    else .ratio (sgn (st cs) * ((val cs (st cs) (dend cs (st cs)) / Nat.gcd (val cs (st cs) (dend cs (st cs))) (val cs (dend cs (st cs) + 1) (dend cs (dend cs (st cs) + 1))) : Nat) : Int))
      ((val cs (dend cs (st cs) + 1) (dend cs (dend cs (st cs) + 1)) / Nat.gcd (val cs (st cs) (dend cs (st cs))) (val cs (dend cs (st cs) + 1) (dend cs (dend cs (st cs) + 1))) : Nat) : Int)
  else if dend cs (st cs) < cs.length then .text (dend cs (st cs) + 1)
  else if 4000 < dend cs (st cs) - st cs then .large (dend cs (st cs) - st cs)
  else .ratio (sgn (st cs) * (val cs (st cs) (dend cs (st cs)) : Int)) 1
theorem st_le (cs : List Nat) : st cs ≤ cs.length := by
  unfold st
  split
  · rename_i h
    cases cs with
    | nil => cases h
    | cons c cs => exact Nat.succ_le_succ (Nat.zero_le _)
  · exact Nat.zero_le _
theorem st_01 (cs : List Nat) : st cs = 0 ∨ st cs = 1 := by
  unfold st
  split
  · exact .inr rfl
  · exact .inl rfl
theorem head_st {cs : List Nat} (h : st cs = 1) : cs.head? = some 45 := by
  unfold st at h
  split at h
  · assumption
  · cases h
/-! ### slices -/
theorem six_le {n k : Nat} (d : Nat) (h : k ≤ n) : HT.sIx n d (some (k : Int)) = k := by
  rw [HT.sIx_nat, Nat.min_eq_left h]
theorem tl_len (z : Str) : z.cps.toList.length = z.length := Array.length_toList
theorem cutS_two (z : Str) {a b : Nat} (ha : a ≤ z.length) (hb : b ≤ z.length) : (cutS z (some (a : Int)) (some (b : Int))).cps.toList = cut z.cps.toList a b := by
  unfold cutS cut
  rw [six_le 0 ha, six_le z.length hb, List.toList_toArray]
theorem cutS_two' (z : Str) (a b : Nat) : (cutS z (some (a : Int)) (some (b : Int))).cps.toList = cut z.cps.toList (min a z.length) (min b z.length) := by
  unfold cutS cut
  rw [HT.sIx_nat, HT.sIx_nat, List.toList_toArray]
theorem cutS_to (z : Str) {b : Nat} (hb : b ≤ z.length) : (cutS z none (some (b : Int))).cps.toList = z.cps.toList.take b := by
  unfold cutS
  rw [six_le z.length hb, HT.sIx_none, List.toList_toArray, List.drop_zero, Nat.sub_zero]
theorem ext {y z : Str} (h : y.cps.toList = z.cps.toList) : y = z := TL.ext_tl h
/-- one sign, or none behind the end -/
theorem cutS_one (z : Str) (k : Nat) (hk : k ≤ z.length) : cutS z (some (k : Int)) (some ((k + 1 : Nat) : Int)) = match z.cps.toList[k]? with
    | some c => (⟨#[c]⟩ : Str)
    | none => ⟨#[]⟩ := by
  have zl := tl_len z
  cases h : z.cps.toList[k]? with
  | some c =>
    have hlt : k < z.cps.toList.length := (List.getElem?_eq_some_iff.mp h).1
    refine ext ?_
    rw [cutS_two z hk (by omega)]
    unfold cut
    rw [List.drop_eq_getElem_cons hlt, Nat.add_sub_cancel_left, List.take_succ_cons, List.take_zero, (List.getElem?_eq_some_iff.mp h).2]
  | none =>
    have hge : z.cps.toList.length ≤ k := List.getElem?_eq_none_iff.mp h
    refine ext ?_
    rw [cutS_two', Nat.min_eq_right (by omega : z.length ≤ k), Nat.min_eq_right (by omega : z.length ≤ k + 1)]
    unfold cut
    rw [Nat.sub_self, List.take_zero]
end Fk

namespace Fk
open PySem L2
/-! ### the two errors -/
structure IniC (K : PySem.W.Frag) (C : Addr) (fs : List Str) : Prop where
  ox : OexC K C
  no : ∀ f ∈ fs, PySem.W.findIn K (.ref C) f = some none
/-- __init__ leaves the fields, the last one first -/
def spIni (C : Addr) (fs : List Str) : Sp := fun vs H Q _ => ∃ (a : Addr) (ws : List V), vs = .ref a :: ws ∧ ws.length = fs.length ∧ H a = some (exo a C none) ∧
  ∀ (d : Addr) (H' : Hp), H d = none → d ≠ a → (∀ b o, b ≠ a → H b = some o → H' b = some o) → H' a = some (exo a C (some d)) → H' d = some (exd d (fs.zip ws).reverse) → Q .non H'
section
variable {P : Program} {w : World} {K : PySem.W.Frag} {mg : Str → Option Value} {base : Heap}
theorem ini_one {H : Hp} {a C d : Addr} {x : List (Str × V)} (hd : H d = none) (n : d ≠ a) : (∀ b o, b ≠ a → H b = some o → (upd (upd H d (exd d x)) a (exo a C (some d))) b = some o) ∧ (upd (upd H d (exd d x)) a (exo a C (some d))) a = some (exo a C (some d)) ∧ (upd (upd H d (exd d x)) a (exo a C (some d))) d = some (exd d x) :=
  ⟨fun b o hb e => by rw [upd_ne hb, upd_ne (ne_of_none e hd)]; exact e, upd_same, by rw [upd_ne n, upd_same]⟩
theorem ini_more {H H1 : Hp} {a C d : Addr} {x y : List (Str × V)} (hd : H d = none) (n : d ≠ a) (h : (∀ b o, b ≠ a → H b = some o → H1 b = some o) ∧ H1 a = some (exo a C (some d)) ∧ H1 d = some (exd d x)) :
    (∀ b o, b ≠ a → H b = some o → (upd H1 d (exd d y)) b = some o) ∧ (upd H1 d (exd d y)) a = some (exo a C (some d)) ∧ (upd H1 d (exd d y)) d = some (exd d y) :=
  ⟨fun b o hb e => by rw [upd_ne (ne_of_none e hd)]; exact h.1 b o hb e, by rw [upd_ne n.symm]; exact h.2.1, upd_same⟩
abbrev sIBadText : Stmt := inClass (top 3) 0
theorem scBadText : FnScope ["self", "line", "column"] ["self", "line", "column"] (defScope sIBadText) := ⟨rfl, rfl, rfl, by decide +kernel, rfl, by decide +kernel, by decide +kernel⟩
theorem ini_BadText {C f : Addr} {fd : FuncData} (F : Fun K "__init__" "BadText.__init__" sIBadText f fd) (T : IniC K C ["line", "column"]) : FnOk P w K mg base CX0 1 f fd ["self", "line", "column"] (spIni C ["line", "column"]) := by
  refine F.ok scBadText (fun vs H Q E h => ?_) (fun cdv A outer s H vs Q E hr h => ?_)
  · obtain ⟨a, ws, rfl, e, _⟩ := h
    exact congrArg (· + 1) e
  · obtain ⟨a, ws, rfl, e, ha, k⟩ := h
    match ws, e, k with
    | [v1, v2], _, k =>
      refine ⟨_, (pss_cons (ps_ost (pv 0) (pv 1)) (pss_one (ps_ost (pv 0) (pv 2)))), ?_⟩
      refine ⟨_, rfl, _, rfl, a, C, rfl, T.ox, T.no _ (by simp), Or.inl ⟨ha, fun d hd hn => ?_⟩⟩
      have h1 := ini_one (C := C) (x := [("line", v1)]) hd hn
      refine ⟨_, rfl, _, rfl, a, C, rfl, T.ox, T.no _ (by simp), Or.inr ⟨d, _, h1.2.1, h1.2.2, by show 1 ≤ 900; decide, ?_⟩⟩
      have h2 := ini_more (y := [("column", v2), ("line", v1)]) hd hn h1
      exact k d _ hd hn h2.1 h2.2.1 h2.2.2
abbrev sITooLarge : Stmt := inClass (top 4) 0
theorem scTooLarge : FnScope ["self", "what", "number", "limit"] ["self", "what", "number", "limit"] (defScope sITooLarge) := ⟨rfl, rfl, rfl, by decide +kernel, rfl, by decide +kernel, by decide +kernel⟩
theorem ini_TooLarge {C f : Addr} {fd : FuncData} (F : Fun K "__init__" "TooLarge.__init__" sITooLarge f fd) (T : IniC K C ["what", "number", "limit"]) : FnOk P w K mg base CX0 1 f fd ["self", "what", "number", "limit"] (spIni C ["what", "number", "limit"]) := by
  refine F.ok scTooLarge (fun vs H Q E h => ?_) (fun cdv A outer s H vs Q E hr h => ?_)
  · obtain ⟨a, ws, rfl, e, _⟩ := h
    exact congrArg (· + 1) e
  · obtain ⟨a, ws, rfl, e, ha, k⟩ := h
    match ws, e, k with
    | [v1, v2, v3], _, k =>
      refine ⟨_, (pss_cons (ps_ost (pv 0) (pv 1)) (pss_cons (ps_ost (pv 0) (pv 2)) (pss_one (ps_ost (pv 0) (pv 3))))), ?_⟩
      refine ⟨_, rfl, _, rfl, a, C, rfl, T.ox, T.no _ (by simp), Or.inl ⟨ha, fun d hd hn => ?_⟩⟩
      have h1 := ini_one (C := C) (x := [("what", v1)]) hd hn
      refine ⟨_, rfl, _, rfl, a, C, rfl, T.ox, T.no _ (by simp), Or.inr ⟨d, _, h1.2.1, h1.2.2, by show 1 ≤ 900; decide, ?_⟩⟩
      have h2 := ini_more (y := [("number", v2), ("what", v1)]) hd hn h1
      refine ⟨_, rfl, _, rfl, a, C, rfl, T.ox, T.no _ (by simp), Or.inr ⟨d, _, h2.2.1, h2.2.2, by show 2 ≤ 900; decide, ?_⟩⟩
      have h3 := ini_more (y := [("limit", v3), ("number", v2), ("what", v1)]) hd hn h2
      exact k d _ hd hn h3.1 h3.2.1 h3.2.2
/-- what is known of an error class that is raised and caught -/
structure Err (P : Program) (w : World) (K : PySem.W.Frag) (mg : Str → Option Value) (base : Heap) (x : Str) (fs : List Str) (C fI : Addr) (fd : FuncData) : Prop where
  ox : OexC K C
  iC : PySem.W.findIn K (.ref C) "__init__" = some (some (.ref fI))
  tI : PySem.W.typeIn K (.ref fI) = some (.type "function")
  G : FnOk P w K mg base CX0 1 fI fd ("self" :: fs) (spIni C fs)
  b : Binds K fd ("self" :: fs) []
  g : mg x = some (.ref C)
/-- raise C(e, ..): what is left -/
theorem raised {H H' : Hp} {a C d : Addr} {fs : List (Str × V)} (ha : H a = none) (hd0 : (upd H a (exo a C none)) d = none) (hk : ∀ b o, b ≠ a → (upd H a (exo a C none)) b = some o → H' b = some o) : H d = none ∧ Same H (upd (L2.del H' a) d (.xd fs)) ∧ (upd (L2.del H' a) d (.xd fs)) d = some (.xd fs) := by
  have hd : H d = none := by
    cases e : H d with
    | none => rfl
    | some o =>
      rw [upd_ne (ne_of_none e ha), e] at hd0
      cases hd0
  refine ⟨hd, fun b o e => ?_, upd_same⟩
  rw [upd_ne (ne_of_none e hd), L2.del_ne (ne_of_none e ha)]
  refine hk b o (ne_of_none e ha) ?_
  rw [upd_ne (ne_of_none e ha)]
  exact e
/-! ### lowest, digits_end -/
abbrev sLowest : Stmt := top 8
abbrev sDend : Stmt := top 10
theorem scLowest : FnScope ["top", "bottom", "shared"] ["top", "bottom"] (defScope sLowest) := ⟨rfl, rfl, rfl, by decide +kernel, rfl, by decide +kernel, by decide +kernel⟩
def spLowest : Sp := fun vs H Q _ => ∃ (a b : Int), vs = [.int a, .int b] ∧ 0 < b ∧ a.natAbs < 2 ^ 13400 ∧ b.natAbs < 2 ^ 13400 ∧
  ∀ p, H p = none → Q (.ref p) (upd H p (.tup [.int (a / (Nat.gcd a.natAbs b.natAbs : Nat)), .int (b / (Nat.gcd a.natAbs b.natAbs : Nat))]))
theorem ok_lowest {f : Addr} {fd : FuncData} (F : Fun K "lowest" "lowest" sLowest f fd) (mgc : mg "gcd" = some (.builtin "math.gcd")) : FnOk P w K mg base CX0 1 f fd ["top", "bottom"] spLowest := by
  refine F.ok scLowest (fun vs H Q E h => ?_) (fun cdv A outer s H vs Q E hr h => ?_)
  · obtain ⟨a, b, rfl, _⟩ := h
    rfl
  · obtain ⟨a, b, rfl, b0, a1, b1, k⟩ := h
    refine ⟨_, pss_cons (ps_set (i := 2) scLowest.nd rfl (Or.inl rfl) (pe_callBfun cr_gcd (by rfl) mgc (pa_cons (pv 0) (pa_cons (pv 1) pa_nil))))
      (pss_cons (ps_if (pt_cmpR op_lt (pv 1) pe_int (nomark _)) (pss_one (ps_set (i := 2) scLowest.nd rfl (Or.inl rfl) (pe_un un_neg (pv 2)))) pss_nil)
      (pss_one (ps_ret (pe_tup (pa_cons (pe_op op_fdivB (pv 0) (pv 2)) (pa_cons (pe_op op_fdivB (pv 1) (pv 2)) pa_nil)))))), ?_⟩
    have g0 : (0 : Int) < (Nat.gcd a.natAbs b.natAbs : Nat) := by
      have : 0 < Nat.gcd a.natAbs b.natAbs := Nat.gcd_pos_of_pos_right _ (by omega)
      omega
    refine ⟨_, rfl, _, rfl, a, b, rfl, ?_⟩
    refine ⟨_, rfl, _, _, rfl, rfl, _, rfl, ite2 (fun h => absurd (of_decide_eq_true h) (by omega)) (fun _ => ?_)⟩
    exact ⟨_, rfl, _, rfl, _, _, rfl, rfl, ⟨g0, a1⟩, _, rfl, _, rfl, _, _, rfl, rfl, ⟨g0, b1⟩, by show 2 ≤ sizeLine; decide, fun p hp => k p hp⟩
theorem scDend : FnScope ["text", "start", "end"] ["text", "start"] (defScope sDend) := ⟨rfl, rfl, rfl, by decide +kernel, rfl, by decide +kernel, by decide +kernel⟩
def digs : Str := "0123456789"
theorem digs_list : digs.cps.toList = [48, 49, 50, 51, 52, 53, 54, 55, 56, 57] := by decide +kernel
theorem in_digs (c : Nat) : decide (c ∈ digs.cps.toList) = isD c := by
  rw [digs_list]
  by_cases h : isD c = true
  · rw [h]
    have z := isD_iff.mp h
    refine decide_eq_true ?_
    simp only [List.mem_cons, List.not_mem_nil, or_false]
    omega
  · have h' : isD c = false := by simpa using h
    rw [h']
    refine decide_eq_false fun z => h (isD_iff.mpr ?_)
    simp only [List.mem_cons, List.not_mem_nil, or_false] at z
    omega
def spDend : Sp := fun vs H Q _ => ∃ (t : Str) (k : Nat), vs = [.str t, .int k] ∧ t.length ≤ 20000 ∧ k ≤ t.length ∧ Q (.int (dend t.cps.toList k)) H
theorem ok_dend {f : Addr} {fd : FuncData} {tk : Tok} (F : Fun K "digits_end" "digits_end" sDend f fd) (ml : mg "len" = none) (mD : mg "DIGITS" = some (.str digs tk)) : FnOk P w K mg base CX0 1 f fd ["text", "start"] spDend := by
  refine F.ok scDend (fun vs H Q E h => ?_) (fun cdv A outer s H vs Q E hr h => ?_)
  · obtain ⟨t, k, rfl, _⟩ := h
    rfl
  · obtain ⟨t, k0, rfl, tl, hk, k⟩ := h
    refine ⟨_, pss_cons (ps_set (i := 2) scDend.nd rfl (Or.inl rfl) (pv 1))
      (pss_cons (ps_while PassesOwn.never (PW.pt (pw_and (pt_cmpR op_lt (pv 2) (pe_callB call_len_str (by rfl) ml PySem.boot_len (pa_cons (pv 0) pa_nil)) (nomark _)) (pw_and1 (pt_cmpR op_in_sign (pe_item_str (pv 0) (pv 2) (fun _ _ => rfl)) (pe_glob (v := .str digs) (by rfl) mD ⟨_, rfl⟩) (by rfl)))))
        (pss_one (ps_set (i := 2) scDend.nd rfl (Or.inl rfl) (pe_op op_add (pv 2) pe_int))))
      (pss_one (ps_ret (pv 2)))), ?_⟩
    have zl := tl_len t
    have szl : t.length ≤ sizeLine := Nat.le_trans tl (by decide)
    refine ⟨_, rfl, ?_⟩
    refine while_by (fun σ H' => H' = H ∧ ∃ e : Nat, σ = [some (.str t), some (.int k0), some (.int e)] ∧ e ≤ t.length ∧ dend t.cps.toList e = dend t.cps.toList k0) (fun σ _ => match σ with
      | [_, _, some (.int e)] => t.length - e.toNat
      | _ => 0) ⟨rfl, k0, rfl, hk, rfl⟩ ?_ ?_
    · rintro σ H' ⟨rfl, e, rfl, he, hd⟩
      refine ⟨_, rfl, _, rfl, _, rfl, szl, _, _, rfl, rfl, _, rfl, ite2 (fun h => ?_) (fun h => ?_)⟩
      · have h' : e < t.length := by
          have := of_decide_eq_true h
          omega
        have hlt : e < t.cps.toList.length := by omega
        have hget : t.cps.toList[e]? = some (t.cps.toList[e]'hlt) := List.getElem?_eq_getElem hlt
        have hg2 : t.cps[(e : Int).toNat]? = some (t.cps.toList[e]'hlt) := by
          rw [Int.toNat_natCast, ← Array.getElem?_toList]
          exact hget
        refine ⟨_, rfl, _, rfl, t, e, _, rfl, rfl, by omega, by omega, by omega, hg2, _, _, rfl, rfl, _, rfl, ?_⟩
        rw [in_digs]
        refine ite2 (fun hd2 => ?_) (fun hd2 => ?_)
        · refine ⟨_, rfl, _, _, rfl, rfl, ⟨rfl, e + 1, rfl, h', ?_⟩, ?_⟩
          · rw [← dend_step hget hd2]
            exact hd
          · show t.length - ((e : Int) + 1).toNat < t.length - (e : Int).toNat
            omega
        · refine ⟨_, rfl, ?_⟩
          rw [← dend_stop hget (by simpa using hd2), hd]
          exact k
      · have h' : ¬ e < t.length := fun z => h (decide_eq_true (by omega))
        refine iteF ?_
        refine ⟨_, rfl, ?_⟩
        have e1 : e = dend t.cps.toList k0 := by
          rw [← hd, dend_past (by omega)]
        rw [e1]
        exact k
    · intro σ H' Q1 Q2 hq h
      obtain ⟨v1, e1, v2, e2, z, ez, lz, i, j, e3, e4, kk, ek, h⟩ := h
      refine ⟨v1, e1, v2, e2, z, ez, lz, i, j, e3, e4, kk, ek, ?_⟩
      cases kk with
      | false => exact hq _ _ h
      | true =>
        obtain ⟨v3, e5, v4, e6, z2, i2, c2, a1, a2, a3, a4, a5, a6, c3, z3, b1, b2, k2, ek2, q⟩ := h
        exact ⟨v3, e5, v4, e6, z2, i2, c2, a1, a2, a3, a4, a5, a6, c3, z3, b1, b2, k2, ek2, hq _ _ q⟩
end
end Fk

namespace Fk
open PySem L2
/-! ### ratio_of -/
abbrev sRatio : Stmt := top 11
abbrev badFs : List Str := ["line", "column"]
abbrev largeFs : List Str := ["what", "number", "limit"]
def badD (line col : Int) : List (Str × V) := [("column", .int col), ("line", .int line)]
def largeD (n : Int) : List (Str × V) := [("limit", .int 4000), ("number", .int n), ("what", .str "digits")]
/-- what ratio_of does with a text that is read so -/
def Reads (CB CL : Addr) (H : Hp) (Q : VK) (E : XK) : Out → Prop
  | .text n => ∀ d H', H d = none → Same H H' → H' d = some (.xd (badD 1 n)) → E (.ref CB) (some d) H'
  | .large n => ∀ d H', H d = none → Same H H' → H' d = some (.xd (largeD n)) → E (.ref CL) (some d) H'
  | .ratio a b => ∀ p H', Same H H' → H' p = some (.tup [.int a, .int b]) → Q (.ref p) H'
def spRatio (K : PySem.W.Frag) (CB CL : Addr) : Sp := fun vs H Q E => (∃ t : Str, vs = [.str t] ∧ t.length ≤ 20000 ∧ Reads CB CL H Q E (out t.cps.toList)) ∨
  ∃ (v : V) (ty : Value), vs = [v] ∧ TyX K H v ty ∧ PySem.W.kitOne K ty (.type "str") = some false ∧ ∀ d H', H d = none → Same H H' → H' d = some (.xd (badD 0 0)) → E (.ref CB) (some d) H'
theorem Reads.mono {CB CL : Addr} {H H1 : Hp} {Q : VK} {E : XK} {o : Out} (s : Same H H1) (k : Reads CB CL H Q E o) : Reads CB CL H1 Q E o := by
  cases o with
  | text n => exact fun d H' hd hs e => k d H' (s.free hd) (s.trans hs) e
  | large n => exact fun d H' hd hs e => k d H' (s.free hd) (s.trans hs) e
  | ratio a b => exact fun p H' hs e => k p H' (s.trans hs) e
theorem out_tail {cs : List Nat} {m e : Nat} (hm : dend cs (st cs) = m) (ne1 : ¬ m = st cs) (he : (cs[m]? = some 47 ∧ e = dend cs (m + 1) ∧ ¬ e = m + 1) ∨ (¬ cs[m]? = some 47 ∧ e = m)) (ee : e = cs.length) :
    out cs = if 4000 < m - st cs then .large (m - st cs) else if cs[m]? = some 47 then
        if 4000 < e - (m + 1) then .large (e - (m + 1)) else if val cs (m + 1) e = 0 then .text (m + 2)
        else .ratio (sgn (st cs) * ((val cs (st cs) m / Nat.gcd (val cs (st cs) m) (val cs (m + 1) e) : Nat) : Int)) ((val cs (m + 1) e / Nat.gcd (val cs (st cs) m) (val cs (m + 1) e) : Nat) : Int)
      else .ratio (sgn (st cs) * (val cs (st cs) m : Int)) 1 := by
  unfold out
  rw [hm, if_neg ne1]
  rcases he with ⟨h47, he, hne⟩ | ⟨h47, he⟩
  · rw [if_pos h47, ← he, if_neg hne, if_neg (by omega : ¬ e < cs.length), if_pos h47]
  · rw [if_neg h47, if_neg (by omega : ¬ m < cs.length), if_neg h47]
theorem dv_lt (cs : List Nat) (h : NumText.AllDigits cs) : NumText.digitsVal cs < 10 ^ cs.length := by
  have z : ∀ (cs : List Nat), NumText.AllDigits cs → ∀ a : Nat, cs.foldl (fun acc c => acc * 10 + (c - 48)) a < (a + 1) * 10 ^ cs.length := by
    intro cs
    induction cs with
    | nil =>
      intro _ a
      show a < (a + 1) * 1
      omega
    | cons c cs ih =>
      intro h a
      have hc := h.head
      refine Nat.lt_of_lt_of_le (ih h.tail (a * 10 + (c - 48))) ?_
      show (a * 10 + (c - 48) + 1) * 10 ^ cs.length ≤ (a + 1) * 10 ^ (cs.length + 1)
      rw [Nat.pow_succ, Nat.mul_comm (10 ^ cs.length) 10, ← Nat.mul_assoc]
      exact Nat.mul_le_mul_right _ (by omega)
  have q := z cs h 0
  rw [Nat.zero_add, Nat.one_mul] at q
  exact q
theorem big13 {cs : List Nat} (h : NumText.AllDigits cs) (hl : cs.length ≤ 4000) : NumText.digitsVal cs < 2 ^ 13400 := by
  refine Nat.lt_of_lt_of_le (dv_lt cs h) (Nat.le_trans (Nat.pow_le_pow_right (by decide) hl) ?_)
  decide +kernel
/-- int of the part before the slash -/
theorem head_int {cs : List Nat} {z : Str} {m : Nat} (hm : dend cs (st cs) = m) (ne1 : ¬ m = st cs) (hl : ¬ 4000 < m - st cs) (hz : z.cps.toList = cs.take m) : (∀ c ∈ z.cps.toList, c = 45 ∨ (48 ≤ c ∧ c ≤ 57)) ∧ intText? z = some (sgn (st cs) * (val cs (st cs) m : Int)) ∧ z.length ≤ sizeLine := by
  have mle := hm ▸ dend_le (st_le cs)
  have hd := hm ▸ cut_digits cs (st cs)
  have mge := hm ▸ dend_ge cs (st cs)
  have zl : z.length = m := by
    rw [← tl_len, hz, List.length_take]
    omega
  have s01 := st_01 cs
  have sz : sizeLine ≥ 4001 := by decide
  rcases s01 with s0 | s1
  · rw [s0] at hd mge ne1 hl ⊢
    have e : cs.take m = cut cs 0 m := by
      unfold cut
      rw [List.drop_zero, Nat.sub_zero]
    rw [e] at hz
    refine ⟨fun c hc => .inr (hd c (hz ▸ hc)), ?_, by omega⟩
    rw [PySem.intText_digits (hz ▸ hd) (fun z0 => ?_) (by omega)]
    · unfold sgn val
      rw [if_neg (by decide), hz, Int.one_mul]
    · have := congrArg List.length z0
      rw [tl_len, zl] at this
      exact ne1 this
  · have hh := head_st s1
    rw [s1] at hd mge ne1 hl ⊢
    obtain ⟨r, er⟩ : ∃ r, cs = 45 :: r := by
      cases cs with
      | nil => cases hh
      | cons c r => exact ⟨r, by rw [Option.some.inj hh]⟩
    have e : cs.take m = 45 :: cut cs 1 m := by
      rw [er]
      unfold cut
      obtain ⟨j, rfl⟩ : ∃ j, m = j + 1 := ⟨m - 1, by omega⟩
      rw [List.take_succ_cons, List.drop_succ_cons, List.drop_zero, Nat.add_sub_cancel]
    rw [e] at hz
    refine ⟨fun c hc => ?_, ?_, by omega⟩
    · rw [hz] at hc
      rcases List.mem_cons.mp hc with z | z
      · exact .inl z
      · exact .inr (hd c z)
    · rw [PySem.intText_neg hz hd (fun z0 => ?_) (by omega)]
      · unfold sgn val
        rw [if_pos rfl, Int.neg_mul, Int.one_mul]
      · have := congrArg List.length z0
        rw [cut_len mle] at this
        have : m - 1 = 0 := this
        omega
theorem sgn_div (s v g : Nat) (h : g ∣ v) : sgn s * (v : Int) / (g : Int) = sgn s * ((v / g : Nat) : Int) := by
  unfold sgn
  split
  · rw [Int.neg_mul, Int.one_mul, Int.neg_mul, Int.one_mul, Int.neg_ediv_of_dvd (Int.ofNat_dvd.mpr h)]
    rfl
  · rw [Int.one_mul, Int.one_mul]
    rfl
theorem sgn_abs (s v : Nat) : (sgn s * (v : Int)).natAbs = v := by
  unfold sgn
  split
  · rw [Int.neg_mul, Int.one_mul, Int.natAbs_neg, Int.natAbs_natCast]
  · rw [Int.one_mul, Int.natAbs_natCast]
theorem slash_test (t : Str) (k : Nat) (hk : k ≤ t.length) : decide (V.str (cutS t (some (k : Int)) (some ((k : Int) + 1))) = V.str "/") = decide (t.cps.toList[k]? = some 47) := by
  have e : cutS t (some (k : Int)) (some ((k : Int) + 1)) = _ := cutS_one t k hk
  rw [e]
  cases h : t.cps.toList[k]? with
  | none => rfl
  | some c =>
    show decide (V.str ⟨#[c]⟩ = V.str "/") = decide (some c = some 47)
    by_cases hc : c = 47
    · subst hc
      rfl
    · rw [decide_eq_false (fun z : some c = some 47 => hc (Option.some.inj z))]
      refine decide_eq_false fun z => hc ?_
      have z1 : (⟨#[c]⟩ : Str) = "/" := V.str.inj z
      have z2 := congrArg (fun s : Str => s.cps.toList) z1
      have z3 : [c] = [47] := z2
      exact (List.cons.inj z3).1
theorem starts (t : Str) : Txt.startswith t "-" = decide (t.cps.toList.head? = some 45) := by
  have hy : TL.tl ("-" : Str) = [45] := by decide +kernel
  have z := TL.at_iff (x := t) (y := "-") (by rw [hy]; exact fun z => nomatch z) 0
  rw [hy, List.drop_zero] at z
  have e : Txt.startswith t "-" = true ↔ TL.pre [45] (TL.tl t) = true := by
    rw [← z]
    unfold Txt.startswith
    rw [Bool.and_eq_true, decide_eq_true_eq]
    exact Iff.rfl
  have e2 : TL.pre [45] (TL.tl t) = true ↔ t.cps.toList.head? = some 45 := by
    show ((t.cps.toList.take 1 == [45]) = true) ↔ _
    rw [beq_iff_eq]
    cases t.cps.toList with
    | nil => exact ⟨(fun z => nomatch z), (fun z => nomatch z)⟩
    | cons c r =>
      show [c] = [45] ↔ some c = some 45
      constructor
      · intro z
        rw [(List.cons.inj z).1]
      · intro z
        rw [Option.some.inj z]
  have e3 := e.trans e2
  by_cases h : t.cps.toList.head? = some 45
  · rw [decide_eq_true h, e3.mpr h]
  · rw [decide_eq_false h]
    cases q : Txt.startswith t "-" with
    | false => rfl
    | true => exact absurd (e3.mp q) h
theorem st_eq (cs : List Nat) : (if decide (cs.head? = some 45) = true then (1 : Int) else 0) = ((st cs : Nat) : Int) := by
  unfold st
  by_cases h : cs.head? = some 45
  · rw [if_pos (decide_eq_true h), if_pos h]
    rfl
  · rw [if_neg (fun z => h (of_decide_eq_true z)), if_neg h]
    rfl
theorem keq {j i : Int} (h : decide (V.int j = V.int i) = true) : j = i := V.int.inj (of_decide_eq_true h)
theorem kne {j i : Int} (h : ¬ decide (V.int j = V.int i) = true) : j ≠ i := fun e => h (by rw [e]; exact decide_eq_true rfl)
theorem raise_ok {C : Addr} {names : List Str} {ws : List V} {H : Hp} {Q : XK} (hl : ws.length = names.length) (hz : ws.length ≤ 1000) (k : ∀ d H', H d = none → Same H H' → H' d = some (.xd (names.zip ws).reverse) → Q (.ref C) (some d) H') :
    ws.length ≤ 1000 ∧ ∀ a, H a = none → spIni C names (.ref a :: (ws ++ [])) (upd H a (exo a C none))
      (fun v H2 => v = .non ∧ ∃ (d : Addr) (fs : List (Str × V)), H2 a = some (exo a C (some d)) ∧ H2 d = some (exd d fs) ∧ H d = none ∧ Q (.ref C) (some d) (upd (L2.del H2 a) d (.xd fs))) (fun _ _ _ => False) := by
  refine ⟨hz, fun a ha => ⟨a, ws, by rw [List.append_nil], hl, upd_same, fun d H' hd hn hk h1 h2 => ⟨rfl, d, _, h1, h2, ?_, ?_⟩⟩⟩
  · exact (raised (fs := (names.zip ws).reverse) ha hd hk).1
  · have z := raised (fs := (names.zip ws).reverse) ha hd hk
    exact k d _ z.1 z.2.1 z.2.2
section
variable {P : Program} {w : World} {K : PySem.W.Frag} {mg : Str → Option Value} {base : Heap}
theorem scRatio : FnScope ["text", "start", "slash", "end", "below", "row"] ["text"] (defScope sRatio) := ⟨rfl, rfl, rfl, by decide +kernel, rfl, by decide +kernel, by decide +kernel⟩
theorem ok_ratio {f CB CL gB gL fE fL : Addr} {fd dB dL dE dO : FuncData} {tk : Tok} (F : Fun K "ratio_of" "ratio_of" sRatio f fd) (EB : Err P w K mg base "BadText" badFs CB gB dB) (EL : Err P w K mg base "TooLarge" largeFs CL gL dL)
    (D : Cl P w K mg base "digits_end" ["text", "start"] 1 spDend fE dE) (L : Cl P w K mg base "lowest" ["top", "bottom"] 1 spLowest fL dO)
    (mi : mg "isinstance" = none) (ms : mg "str" = none) (ml : mg "len" = none) (mn : mg "int" = none) (mM : mg "MOST_DIGITS" = some (.int 4000 tk)) (dg : PySem.W.nsIn K cStatics "sys.int_max_str_digits" = some none) :
    FnOk P w K mg base (L2.CX P w) 3 f fd ["text"] (spRatio K CB CL) := by
  refine F.okX scRatio (fun vs H Q E h => ?_) (fun cdv A outer s H vs Q E hr h => ?_)
  · rcases h with ⟨t, rfl, _⟩ | ⟨v, ty, rfl, _⟩ <;> rfl
  · have hr1 : Room 1 _ := hr.mono (by decide)
    refine ⟨_, pss_cons (ps_if (pt_not (pt_val (pe_callB call_isi (by rfl) mi (by decide +kernel) (pa_cons (pv 0) (pa_cons (pe_bltn (v := .ty "str") (by rfl) ms (by decide +kernel) rfl) pa_nil)))))
        (pss_one (ps_raise rfl (takes_of rfl rfl rfl rfl) (pmk_oex EB.ox EB.iC EB.tI EB.G hr EB.b .nil pass0 (by rfl) EB.g (pa_cons pe_int (pa_cons pe_int pa_nil))))) pss_nil)
      (C8.pss_cut (ps_set (i := 1) scRatio.nd rfl (Or.inl rfl) (pe_ifExp (pt_val (pe_bm PySem.F.plainAttrs_str PySem.F.slot_str_startswith PySem.F.type_str_startswith mt_startswith (pv 0) (pa_cons pe_str pa_nil))) pe_int pe_int))
      (pss_cons (ps_set (i := 2) scRatio.nd rfl (Or.inl rfl) (pe_call D.G hr1 (by rfl) D.g D.kp D.b .nil pass0 (pa_cons (pv 0) (pa_cons (pv 1) pa_nil))))
      (pss_cons (ps_if (pt_cmpR op_eq (pv 2) (pv 1) (nomark _)) (pss_one (ps_raise rfl (takes_of rfl rfl rfl rfl) (pmk_oex EB.ox EB.iC EB.tI EB.G hr EB.b .nil pass0 (by rfl) EB.g (pa_cons pe_int (pa_cons (pe_op op_add (pv 2) pe_int) pa_nil))))) pss_nil)
      (pss_cons (ps_set (i := 3) scRatio.nd rfl (Or.inl rfl) (pv 2))
      (C8.pss_cut (ps_if (pt_cmpR op_eq (pe_slice sl_str (pv 0) (po_some (pv 2)) (po_some (pe_op op_add (pv 2) pe_int))) pe_str (nomark _))
          (pss_cons (ps_set (i := 3) scRatio.nd rfl (Or.inl rfl) (pe_call D.G hr1 (by rfl) D.g D.kp D.b .nil pass0 (pa_cons (pv 0) (pa_cons (pe_op op_add (pv 2) pe_int) pa_nil))))
          (pss_one (ps_if (pt_cmpR op_eq (pv 3) (pe_op op_add (pv 2) pe_int) (nomark _)) (pss_one (ps_raise rfl (takes_of rfl rfl rfl rfl) (pmk_oex EB.ox EB.iC EB.tI EB.G hr EB.b .nil pass0 (by rfl) EB.g (pa_cons pe_int (pa_cons (pe_op op_add (pv 3) pe_int) pa_nil))))) pss_nil))) pss_nil)
      (pss_cons (ps_if (pt_cmpR op_lt (pv 3) (pe_callB call_len_str (by rfl) ml PySem.boot_len (pa_cons (pv 0) pa_nil)) (nomark _)) (pss_one (ps_raise rfl (takes_of rfl rfl rfl rfl) (pmk_oex EB.ox EB.iC EB.tI EB.G hr EB.b .nil pass0 (by rfl) EB.g (pa_cons pe_int (pa_cons (pe_op op_add (pv 3) pe_int) pa_nil))))) pss_nil)
      (pss_cons (ps_set (i := 4) scRatio.nd rfl (Or.inl rfl) (pe_slice sl_str (pv 0) (po_some (pe_op op_add (pv 2) pe_int)) (po_some (pv 3))))
      (pss_cons (ps_for (passes_of rfl) rfl (pi_tup (pe_tup (pa_cons (pe_slice sl_str (pv 0) (po_some (pv 1)) (po_some (pv 2))) (pa_cons (pv 4) pa_nil)))) (pg_name (i := 5) scRatio.nd rfl (Or.inl rfl))
          (pss_one (ps_if (pt_cmpR op_gt (pe_callB call_len_str (by rfl) ml PySem.boot_len (pa_cons (pv 5) pa_nil)) (pe_glob (v := .int 4000) (by rfl) mM ⟨_, rfl⟩) (nomark _))
            (pss_one (ps_raise rfl (takes_of rfl rfl rfl rfl) (pmk_oex EL.ox EL.iC EL.tI EL.G hr EL.b .nil pass0 (by rfl) EL.g (pa_cons pe_str (pa_cons (pe_callB call_len_str (by rfl) ml PySem.boot_len (pa_cons (pv 5) pa_nil)) (pa_cons (pe_glob (v := .int 4000) (by rfl) mM ⟨_, rfl⟩) pa_nil)))))) pss_nil)))
      (pss_cons (ps_if (pt_cmpR op_eq (pv 4) pe_str (nomark _)) (pss_one (ps_ret (pe_tup (pa_cons (pe_callTy (call_int_big dg) (by rfl) mn (by decide +kernel) (pa_cons (pe_slice sl_str (pv 0) po_none (po_some (pv 2))) pa_nil)) (pa_cons pe_int pa_nil))))) pss_nil)
      (pss_cons (ps_if (pt_cmpR op_eq (pe_callTy (call_int_big dg) (by rfl) mn (by decide +kernel) (pa_cons (pv 4) pa_nil)) pe_int (nomark _)) (pss_one (ps_raise rfl (takes_of rfl rfl rfl rfl) (pmk_oex EB.ox EB.iC EB.tI EB.G hr EB.b .nil pass0 (by rfl) EB.g (pa_cons pe_int (pa_cons (pe_op op_add (pv 2) pe_int) pa_nil))))) pss_nil)
      (pss_one (ps_ret (pe_call L.G hr1 (by rfl) L.g L.kp L.b .nil pass0 (pa_cons (pe_callTy (call_int_big dg) (by rfl) mn (by decide +kernel) (pa_cons (pe_slice sl_str (pv 0) po_none (po_some (pv 2))) pa_nil)) (pa_cons (pe_callTy (call_int_big dg) (by rfl) mn (by decide +kernel) (pa_cons (pv 4) pa_nil)) pa_nil))))))))))))))), ?_⟩
    rcases h with ⟨t, rfl, tl, k⟩ | ⟨v, ty, rfl, hty, hkit, k⟩
    · have zl := tl_len t
      have szl : t.length ≤ sizeLine := Nat.le_trans tl (by decide)
      refine ⟨_, rfl, .str t, _, .type "str", _, true, rfl, .ty _, .base (.str t), if_pos (beq_self_eq_true _), _, rfl, iteF ?_⟩
      have t0 : Reads CB CL H Q E (out t.cps.toList) := k
      generalize hcs : t.cps.toList = cs at k
      have zl' : cs.length = t.length := by rw [← hcs, zl]
      have sle := st_le cs
      refine ⟨fun σ' H' => H' = H ∧ σ' = [some (.str t), some (.int (st cs : Nat)), none, none, none, none], ?_, ?_⟩
      · refine ⟨_, rfl, rfl, _, _, rfl, rfl, _, rfl, ?_⟩
        rw [starts, hcs]
        unfold st
        refine ite2 (fun h => ?_) (fun h => ?_)
        · rw [if_pos (of_decide_eq_true h)]
          exact ⟨rfl, rfl⟩
        · rw [if_neg (fun z => h (decide_eq_true z))]
          exact ⟨rfl, rfl⟩
      rintro σ1 H1 ⟨rfl, rfl⟩
      refine ⟨_, rfl, _, rfl, t, st cs, rfl, tl, by omega, ?_⟩
      rw [hcs]
      have mle : dend cs (st cs) ≤ cs.length := dend_le sle
      have mge := dend_ge cs (st cs)
      refine ⟨_, rfl, _, rfl, rfl, _, rfl, ite2 (fun h => ?_) (fun h => ?_)⟩
      · have e : dend cs (st cs) = st cs := by
          have := keq h
          omega
        unfold out at k
        rw [if_pos e] at k
        exact ⟨_, rfl, _, _, rfl, rfl, raise_ok rfl (by show 2 ≤ 1000; decide) (by rw [e]; exact k)⟩
      have ne1 : ¬ dend cs (st cs) = st cs := fun z => kne h (by omega)
      unfold out at k
      rw [if_neg ne1] at k
      generalize hm : dend cs (st cs) = m at k mle mge ne1 ⊢
      refine ⟨_, rfl, ?_⟩
      refine ⟨fun σ' H' => H' = H1 ∧ ∃ e : Nat, σ' = [some (.str t), some (.int (st cs : Nat)), some (.int m), some (.int e), none, none] ∧ ((cs[m]? = some 47 ∧ e = dend cs (m + 1) ∧ ¬ e = m + 1) ∨ (¬ cs[m]? = some 47 ∧ e = m)), ?_, ?_⟩
      · refine ⟨_, rfl, _, rfl, _, rfl, _, rfl, _, _, rfl, rfl, _, rfl, t, rfl, szl, rfl, _, rfl, ?_⟩
        rw [slash_test t m (by omega), hcs]
        refine ite2 (fun h => ?_) (fun h => ?_)
        · have h47 := of_decide_eq_true h
          rw [if_pos h47] at k
          have mlt : m < cs.length := (List.getElem?_eq_some_iff.mp h47).1
          refine ⟨_, rfl, _, rfl, _, _, rfl, rfl, t, m + 1, rfl, tl, by omega, ?_⟩
          rw [hcs]
          refine ⟨_, rfl, _, rfl, _, _, rfl, rfl, rfl, _, rfl, ite2 (fun h => ?_) (fun h => ?_)⟩
          · have e : dend cs (m + 1) = m + 1 := by
              have := keq h
              omega
            rw [if_pos e] at k
            exact ⟨_, rfl, _, _, rfl, rfl, raise_ok rfl (by show 2 ≤ 1000; decide) k⟩
          · exact ⟨rfl, dend cs (m + 1), rfl, .inl ⟨h47, rfl, fun z => kne h (by omega)⟩⟩
        · exact ⟨rfl, m, rfl, .inr ⟨fun z => h (decide_eq_true z), rfl⟩⟩
      rintro σ2 H2 ⟨rfl, e, rfl, he⟩
      have ele : e ≤ cs.length := by
        rcases he with ⟨h47, rfl, _⟩ | ⟨_, rfl⟩
        · have mlt : m < cs.length := (List.getElem?_eq_some_iff.mp h47).1
          exact dend_le (by omega)
        · exact mle
      have ege : m ≤ e := by
        rcases he with ⟨h47, rfl, _⟩ | ⟨_, rfl⟩
        · have := dend_ge cs (m + 1)
          omega
        · omega
      refine ⟨_, rfl, _, rfl, t, rfl, szl, _, _, rfl, rfl, _, rfl, ite2 (fun h => ?_) (fun h => ?_)⟩
      · have elt : e < cs.length := by
          have := of_decide_eq_true h
          omega
        refine ⟨_, rfl, _, _, rfl, rfl, raise_ok rfl (by show 2 ≤ 1000; decide) ?_⟩
        rcases he with ⟨h47, rfl, hne⟩ | ⟨h47, rfl⟩
        · rw [if_pos h47, if_neg hne, if_pos elt] at k
          exact k
        · rw [if_neg h47, if_pos elt] at k
          exact k
      have eeq : e = cs.length := by
        have h' : ¬ (e : Int) < (t.length : Int) := fun z => h (decide_eq_true z)
        omega
      refine ⟨_, rfl, _, rfl, _, _, rfl, rfl, _, rfl, _, rfl, _, rfl, t, rfl, szl, ?_⟩
      generalize hbl : cutS t (some ((m : Int) + 1)) (some (e : Int)) = bl
      have hb2 : bl.cps.toList = if cs[m]? = some 47 then cut cs (m + 1) e else [] := by
        rw [← hbl]
        have z := cutS_two' t (m + 1) e
        rw [hcs] at z
        refine Eq.trans z ?_
        rcases he with ⟨h47, _, _⟩ | ⟨h47, rfl⟩
        · have mlt : m < cs.length := (List.getElem?_eq_some_iff.mp h47).1
          rw [if_pos h47, Nat.min_eq_left (by omega : m + 1 ≤ t.length), Nat.min_eq_left (by omega : e ≤ t.length)]
        · rw [if_neg h47]
          unfold cut
          rw [show min e t.length - min (e + 1) t.length = 0 by omega, List.take_zero]
      have hw0 : (cutS t (some (st cs : Nat)) (some (m : Int))).cps.toList = cut cs (st cs) m := by
        rw [cutS_two t (by omega) (by omega), hcs]
      refine ⟨_, rfl, _, rfl, _, rfl, _, rfl, _, rfl, t, rfl, szl, ?_⟩
      generalize hwl : cutS t (some ((st cs : Nat) : Int)) (some (m : Int)) = wh
      rw [hwl] at hw0
      have wl : wh.length = m - st cs := by
        rw [← tl_len, hw0, cut_len mle]
      have bll : bl.length = bl.cps.toList.length := (tl_len bl).symm
      refine ⟨_, rfl, by show 2 ≤ sizeLine; decide, fun p hp => ⟨p, rfl, ⟨_, Or.inl (Or.inl upd_same)⟩, ?_⟩⟩
      have sp := same_new (o := .tup [V.str wh, V.str bl]) hp
      have kk : Reads CB CL (upd H2 p (.tup [V.str wh, V.str bl])) Q E (out t.cps.toList) := t0.mono sp
      rw [hcs] at kk
      have hout := out_tail hm ne1 he eeq
      rw [hout] at kk
      refine for_tup (xs := [V.str wh, V.str bl]) (fun i σ H' => H' = upd H2 p (.tup [V.str wh, V.str bl]) ∧ (∃ r : Option V, σ = [some (.str t), some (.int (st cs : Nat)), some (.int m), some (.int e), some (.str bl), r]) ∧ (1 ≤ i → ¬ 4000 < m - st cs) ∧ (2 ≤ i → ¬ 4000 < bl.cps.toList.length)) ⟨rfl, ⟨_, rfl⟩, by omega, by omega⟩ (fun i σ H' _ ⟨e, _⟩ => e ▸ Or.inl (Or.inl upd_same)) ?_ ?_
      · rintro i x σ H' hx ⟨rfl, ⟨r, rfl⟩, h1, h2⟩
        match i, hx with
        | 0, hx =>
          cases hx
          refine ⟨_, rfl, wh, rfl, by omega, _, _, rfl, rfl, _, rfl, ite2 (fun h => ?_) (fun h => ?_)⟩
          · have h' : 4000 < m - st cs := by
              have z : ((4000 : Int) < (wh.length : Nat)) := of_decide_eq_true h
              omega
            rw [if_pos h'] at kk
            refine ⟨_, rfl, wh, rfl, by omega, raise_ok rfl (by show 3 ≤ 1000; decide) ?_⟩
            rw [wl]
            exact kk
          · have h' : ¬ 4000 < m - st cs := fun z => h (decide_eq_true (by show ((4000 : Int) < (wh.length : Nat)); omega))
            exact ⟨rfl, ⟨_, rfl⟩, fun _ => h', by omega⟩
        | 1, hx =>
          cases hx
          have b1 : bl.length ≤ sizeLine := by
            rw [bll, hb2]
            split
            · rw [cut_len (by omega)]
              omega
            · exact Nat.zero_le _
          refine ⟨_, rfl, bl, rfl, b1, _, _, rfl, rfl, _, rfl, ite2 (fun h => ?_) (fun h => ?_)⟩
          · have h' : 4000 < bl.cps.toList.length := by
              have z : ((4000 : Int) < (bl.length : Nat)) := of_decide_eq_true h
              omega
            rw [if_neg (h1 (by omega))] at kk
            refine ⟨_, rfl, bl, rfl, b1, raise_ok rfl (by show 3 ≤ 1000; decide) ?_⟩
            rcases he with ⟨h47, he, hne⟩ | ⟨h47, he⟩
            · rw [if_pos h47] at kk hb2
              have e1 : bl.length = e - (m + 1) := by rw [bll, hb2, cut_len (by omega)]
              rw [if_pos (by omega)] at kk
              rw [e1]
              exact kk
            · rw [if_neg h47] at hb2
              rw [hb2] at h'
              cases h'
          · have h' : ¬ 4000 < bl.cps.toList.length := fun z => h (decide_eq_true (by show ((4000 : Int) < (bl.length : Nat)); omega))
            exact ⟨rfl, ⟨_, rfl⟩, fun _ => h1 (by omega), fun _ => h'⟩
        | i + 2, hx => cases hx
      · rintro σ H' ⟨rfl, ⟨r, rfl⟩, h1, h2⟩
        have w4 := h1 (Nat.le_succ 1)
        have b4 := h2 (Nat.le_refl 2)
        rw [if_neg w4] at kk
        have hz : (cutS t none (some (m : Int))).cps.toList = cs.take m := by
          rw [cutS_to t (by omega), hcs]
        obtain ⟨i1, i2, i3⟩ := head_int hm ne1 w4 hz
        refine ⟨_, rfl, rfl, _, rfl, ite2 (fun h => ?_) (fun h => ?_)⟩
        · have be : bl.cps.toList = [] := by
            have z : V.str bl = V.str "" := of_decide_eq_true h
            rw [V.str.inj z]
            rfl
          rcases he with ⟨h47, he, hne⟩ | ⟨h47, he⟩
          · rw [if_pos h47, be] at hb2
            have e1 := congrArg List.length hb2
            rw [cut_len (by omega)] at e1
            have e2 : 0 = e - (m + 1) := e1
            have := dend_ge cs (m + 1)
            omega
          · rw [if_neg h47] at kk
            refine ⟨_, rfl, _, rfl, _, rfl, t, rfl, szl, _, _, rfl, i1, i2, i3, by show 2 ≤ sizeLine; decide, fun q hq => kk q _ (same_new hq) upd_same⟩
        · rcases he with ⟨h47, he, hne⟩ | ⟨h47, he⟩
          · rw [if_pos h47] at kk hb2
            have e1 : bl.cps.toList.length = e - (m + 1) := by rw [hb2, cut_len (by omega)]
            have hge := dend_ge cs (m + 1)
            rw [if_neg (by omega)] at kk
            have hd : NumText.AllDigits (cut cs (m + 1) e) := by
              rw [he]
              exact cut_digits cs (m + 1)
            have ib : intText? bl = some ((val cs (m + 1) e : Nat) : Int) := by
              rw [PySem.intText_digits (hb2 ▸ hd) (fun z => ?_) (by omega), hb2]
              · rfl
              · rw [z] at e1
                have e2 : 0 = e - (m + 1) := e1
                omega
            have bd : ∀ c ∈ bl.cps.toList, c = 45 ∨ (48 ≤ c ∧ c ≤ 57) := fun c hc => .inr (hd c (hb2 ▸ hc))
            have b1 : bl.length ≤ sizeLine := Nat.le_trans (by omega : bl.length ≤ 4000) (by decide)
            refine ⟨_, rfl, _, _, rfl, bd, ib, b1, rfl, _, rfl, ite2 (fun h0 => ?_) (fun h0 => ?_)⟩
            · have v0 : val cs (m + 1) e = 0 := by
                have := keq h0
                omega
              rw [if_pos v0] at kk
              exact ⟨_, rfl, _, _, rfl, rfl, raise_ok rfl (by show 2 ≤ 1000; decide) kk⟩
            · have v0 : ¬ val cs (m + 1) e = 0 := by
                have := kne h0
                omega
              rw [if_neg v0] at kk
              have hb13 : val cs (m + 1) e < 2 ^ 13400 := big13 hd (by rw [cut_len (by omega)]; omega)
              have hw13 : val cs (st cs) m < 2 ^ 13400 := big13 (hm ▸ cut_digits cs (st cs)) (by rw [cut_len mle]; omega)
              refine ⟨_, rfl, _, rfl, _, rfl, t, rfl, szl, _, _, rfl, i1, i2, i3, _, rfl, _, _, rfl, bd, ib, b1, _, _, rfl, by omega, by rw [sgn_abs]; exact hw13, by rw [Int.natAbs_natCast]; exact hb13, fun q hq => kk q _ (same_new hq) ?_⟩
              rw [upd_same, sgn_abs, Int.natAbs_natCast, sgn_div _ _ _ (Nat.gcd_dvd_left _ _)]
              rfl
          · rw [if_neg h47] at hb2
            refine absurd (decide_eq_true ?_) h
            rw [show bl = ("" : Str) from ext hb2]
    · refine ⟨_, rfl, v, _, ty, _, false, rfl, .ty _, hty, hkit, _, rfl, ?_⟩
      refine iteT ?_
      exact raise_ok rfl (by show 2 ≤ 1000; decide) k
end
end Fk

namespace Fk
open PySem L2
/-! ### the law's own sums: gcd, q, is_whole, is_ratio -/
abbrev sGcd : Stmt := top 17
abbrev sQ : Stmt := top 18
abbrev sWhole : Stmt := top 19
abbrev sIsRatio : Stmt := top 20
theorem gcd_step {x y i B : Nat} (hy : 0 < y) (h0 : i = 0 → x * y ≤ B) (h1 : 1 ≤ i → y < x ∧ x * y * 2 ^ i ≤ 2 * B) : x % y < y ∧ y * (x % y) * 2 ^ (i + 1) ≤ 2 * B := by
  refine ⟨Nat.mod_lt _ hy, ?_⟩
  by_cases hi : i = 0
  · subst hi
    have h := h0 rfl
    have z : y * (x % y) ≤ y * x := Nat.mul_le_mul_left _ (Nat.mod_le _ _)
    rw [Nat.mul_comm x y] at h
    show y * (x % y) * 2 ≤ 2 * B
    omega
  · obtain ⟨hl, h⟩ := h1 (by omega)
    have z2 : 2 * (x % y) ≤ x := by
      have e := Nat.mod_add_div x y
      have : 1 ≤ x / y := (Nat.one_le_div_iff hy).mpr (by omega)
      have z3 : y * 1 ≤ y * (x / y) := Nat.mul_le_mul_left _ this
      have z4 := Nat.mod_lt x hy
      omega
    have e : y * (x % y) * 2 ^ (i + 1) = y * (2 * (x % y)) * 2 ^ i := by
      rw [Nat.pow_succ, Nat.mul_comm (2 ^ i) 2, ← Nat.mul_assoc, Nat.mul_assoc y, Nat.mul_comm (x % y) 2]
    rw [e]
    refine Nat.le_trans (Nat.mul_le_mul_right _ (Nat.mul_le_mul_left y z2)) ?_
    rw [Nat.mul_comm y x]
    exact h
theorem gcd_done {x y m n : Nat} (hl : y < x) (h : x * y * 2 ^ m ≤ 2 * 2 ^ n) (hmn : n + 1 < m) : y = 0 := by
  by_cases hy : y = 0
  · exact hy
  · exfalso
    have z : 1 ≤ x * y := Nat.mul_pos (by omega) (by omega)
    have z2 : 1 * 2 ^ m ≤ x * y * 2 ^ m := Nat.mul_le_mul_right _ z
    have z3 : (2 : Nat) * 2 ^ n < 2 ^ m := by
      rw [Nat.mul_comm, ← Nat.pow_succ]
      exact Nat.pow_lt_pow_right (by decide) hmn
    rw [Nat.one_mul] at z2
    exact absurd (Nat.le_trans z2 h) (Nat.not_le_of_lt z3)
def spGcd : Sp := fun vs H Q _ => ∃ a b : Int, vs = [.int a, .int b] ∧ a.natAbs < 2 ^ 13400 ∧ b.natAbs < 2 ^ 13400 ∧ Q (.int (Nat.gcd a.natAbs b.natAbs : Nat)) H
abbrev psGcd : List Str := ["_law_one", "_law_two"]
theorem abs_if (i : Int) : (if i < 0 then -i else i) = ((i.natAbs : Nat) : Int) := by
  split <;> omega
section
variable {P : Program} {w : World} {K : PySem.W.Frag} {mg : Str → Option Value} {base : Heap}
theorem scGcd : FnScope ["_law_one", "_law_two", "_law_lap"] psGcd (defScope sGcd) := ⟨rfl, rfl, rfl, by decide +kernel, rfl, by decide +kernel, by decide +kernel⟩
theorem ok_gcd {f : Addr} {fd : FuncData} (F : Fun K "_law_gcd" "_law_gcd" sGcd f fd) (ma : mg "abs" = none) (mr : mg "range" = none) (mi : mg "int" = none) : FnOk P w K mg base CX0 1 f fd psGcd spGcd := by
  refine F.ok scGcd (fun vs H Q E h => ?_) (fun cdv A outer s H vs Q E hr h => ?_)
  · obtain ⟨a, b, rfl, _⟩ := h
    rfl
  · obtain ⟨a, b, rfl, ha, hb, k⟩ := h
    refine ⟨_, pss_cons (ps_par (i := 0) (j := 1) (by rfl) scGcd.nd rfl rfl (by decide) rfl rfl (pa_cons (pe_callB call_abs (by rfl) ma (by decide +kernel) (pa_cons (pv 0) pa_nil)) (pa_cons (pe_callB call_abs (by rfl) ma (by decide +kernel) (pa_cons (pv 1) pa_nil)) pa_nil)) (by rfl))
      (pss_cons (ps_for PassesOwn.never rfl (pi_range1 (by rfl) mr (pa_cons pe_int pa_nil)) (pg_name (i := 2) scGcd.nd rfl (Or.inl rfl))
        (pss_cons (ps_if (pt_cmpR op_eq (pv 1) pe_int (nomark _)) (pss_one ps_break) pss_nil)
        (pss_one (ps_par (i := 0) (j := 1) (by rfl) scGcd.nd rfl rfl (by decide) rfl rfl (pa_cons (pv 1) (pa_cons (pe_op op_mod (pe_callTy call_int1 (by rfl) mi (by decide +kernel) (pa_cons (pv 0) pa_nil)) (pv 1)) pa_nil)) (by rfl)))))
      (pss_one (ps_ret (pv 0)))), ?_⟩
    refine ⟨_, rfl, _, rfl, _, rfl, _, rfl, _, _, rfl, ?_⟩
    rw [abs_if, abs_if]
    generalize hx : a.natAbs = x at *
    generalize hy : b.natAbs = y at *
    refine ⟨60000, rfl, by decide, by decide, ?_⟩
    refine for_range (fun i σ H' => ∃ (u v : Nat) (r : Option V), σ = [some (.int u), some (.int v), r] ∧ H' = H ∧ Nat.gcd u v = Nat.gcd x y ∧ (i = 0 → u * v ≤ 2 ^ 26800) ∧ (1 ≤ i → v < u ∧ u * v * 2 ^ i ≤ 2 * 2 ^ 26800)) ⟨x, y, none, rfl, rfl, rfl, fun _ => ?_, fun z => absurd z (by decide)⟩ ?_ ?_
    · have e : (2 : Nat) ^ 26800 = 2 ^ 13400 * 2 ^ 13400 := by rw [← Nat.pow_add]
      rw [e]
      exact Nat.mul_le_mul (Nat.le_of_lt ha) (Nat.le_of_lt hb)
    · rintro i σ H' hi ⟨u, v, r, rfl, rfl, hg, h0, h1⟩
      refine ⟨_, rfl, rfl, _, rfl, ite2 (fun h => ?_) (fun h => ?_)⟩
      · have v0 : v = 0 := by
          have := keq h
          omega
        subst v0
        rw [Nat.gcd_zero_right] at hg
        refine ⟨_, rfl, ?_⟩
        rw [hg]
        exact k
      · have v0 : 0 < v := by
          have := kne h
          omega
        have z := gcd_step v0 h0 h1
        refine ⟨_, rfl, _, rfl, Or.inl ⟨_, rfl, _, rfl, _, _, rfl, rfl, by omega, _, _, rfl, ?_⟩⟩
        refine ⟨v, u % v, _, rfl, rfl, ?_, fun z => absurd z (by omega), fun _ => z⟩
        rw [← hg, Nat.gcd_comm u v, Nat.gcd_rec v u, Nat.gcd_comm]
    · rintro σ H' ⟨u, v, r, rfl, rfl, hg, h0, h1⟩
      obtain ⟨hl, hm⟩ := h1 (by show 1 ≤ (60000 : Int).toNat; decide)
      have v0 := gcd_done hl hm (by show 26800 + 1 < (60000 : Int).toNat; decide)
      subst v0
      rw [Nat.gcd_zero_right] at hg
      refine ⟨_, rfl, ?_⟩
      rw [hg]
      exact k
end
end Fk

namespace Fk
open PySem L2
abbrev sLDend : Stmt := top 21
/-- q of two numbers, the second positive -/
def spQ : Sp := fun vs H Q _ => ∃ a b : Nat, vs = [.int a, .int b] ∧ 0 < b ∧ a < 2 ^ 13400 ∧ b < 2 ^ 13400 ∧
  ∀ p, H p = none → Q (.ref p) (upd H p (.tup [.int ((a / Nat.gcd a b : Nat) : Int), .int ((b / Nat.gcd a b : Nat) : Int)]))
def spWhole : Sp := fun vs H Q _ => ∃ i : Int, vs = [.int i] ∧ Q (.bl true) H
def spIsRatio : Sp := fun vs H Q _ => ∃ (p : Addr) (a b : Int), vs = [.ref p] ∧ H p = some (.tup [.int a, .int b]) ∧ 0 < b ∧ a.natAbs < 2 ^ 13400 ∧ b.natAbs < 2 ^ 13400 ∧ Nat.gcd a.natAbs b.natAbs = 1 ∧ Q (.bl true) H
abbrev psQ : List Str := ["_law_top", "_law_bottom"]
abbrev psV : List Str := ["_law_value"]
abbrev psDe : List Str := ["_law_text", "_law_at"]
def spLDend : Sp := fun vs H Q _ => ∃ (t : Str) (k : Nat), vs = [.str t, .int k] ∧ t.length ≤ 20000 ∧ k ≤ t.length ∧ ∀ H', Same H H' → Q (.int (dend t.cps.toList k)) H'
section
variable {P : Program} {w : World} {K : PySem.W.Frag} {mg : Str → Option Value} {base : Heap}
theorem scQ : FnScope ["_law_top", "_law_bottom", "_law_by"] psQ (defScope sQ) := ⟨rfl, rfl, rfl, by decide +kernel, rfl, by decide +kernel, by decide +kernel⟩
theorem ok_q {f fG : Addr} {fd dG : FuncData} (F : Fun K "_law_q" "_law_q" sQ f fd) (G : Cl P w K mg base "_law_gcd" psGcd 1 spGcd fG dG) : FnOk P w K mg base CX0 2 f fd psQ spQ := by
  refine F.ok scQ (fun vs H Q E h => ?_) (fun cdv A outer s H vs Q E hr h => ?_)
  · obtain ⟨a, b, rfl, _⟩ := h
    rfl
  · obtain ⟨a, b, rfl, b0, a1, b1, k⟩ := h
    refine ⟨_, pss_cons (ps_set (i := 2) scQ.nd rfl (Or.inl rfl) (pe_call G.G hr (by rfl) G.g G.kp G.b .nil pass0 (pa_cons (pv 0) (pa_cons (pv 1) pa_nil))))
      (pss_cons (ps_if (pt_cmpR op_lt (pv 1) pe_int (nomark _)) (pss_one (ps_set (i := 2) scQ.nd rfl (Or.inl rfl) (pe_un un_neg (pv 2)))) pss_nil)
      (pss_one (ps_ret (pe_tup (pa_cons (pe_op op_fdivB (pv 0) (pv 2)) (pa_cons (pe_op op_fdivB (pv 1) (pv 2)) pa_nil)))))), ?_⟩
    have g0 : (0 : Int) < (Nat.gcd a b : Nat) := by
      have : 0 < Nat.gcd a b := Nat.gcd_pos_of_pos_right _ (by omega)
      omega
    refine ⟨_, rfl, _, rfl, a, b, rfl, by rw [Int.natAbs_natCast]; exact a1, by rw [Int.natAbs_natCast]; exact b1, ?_⟩
    refine ⟨_, rfl, _, _, rfl, rfl, _, rfl, ite2 (fun h => absurd (of_decide_eq_true h) (by omega)) (fun _ => ?_)⟩
    exact ⟨_, rfl, _, rfl, _, _, rfl, rfl, ⟨g0, a1⟩, _, rfl, _, rfl, _, _, rfl, rfl, ⟨g0, b1⟩, by show 2 ≤ sizeLine; decide, fun p hp => k p hp⟩
theorem scWhole : FnScope psV psV (defScope sWhole) := ⟨rfl, rfl, rfl, by decide +kernel, rfl, by decide +kernel, by decide +kernel⟩
theorem ok_whole {f : Addr} {fd : FuncData} (F : Fun K "_law_is_whole" "_law_is_whole" sWhole f fd) (mi : mg "isinstance" = none) (mn : mg "int" = none) (mb : mg "bool" = none) : FnOk P w K mg base CX0 1 f fd psV spWhole := by
  refine F.ok scWhole (fun vs H Q E h => ?_) (fun cdv A outer s H vs Q E hr h => ?_)
  · obtain ⟨i, rfl, _⟩ := h
    rfl
  · obtain ⟨i, rfl, k⟩ := h
    refine ⟨_, pss_one (ps_ret (pe_and (pe_callB call_isi (by rfl) mi (by decide +kernel) (pa_cons (pv 0) (pa_cons (pe_bltn (v := .ty "int") (by rfl) mn (by decide +kernel) rfl) pa_nil)))
      (pe_one (pe_not (pe_callB call_isi (by rfl) mi (by decide +kernel) (pa_cons (pv 0) (pa_cons (pe_bltn (v := .ty "bool") (by rfl) mb (by decide +kernel) rfl) pa_nil))))))), ?_⟩
    exact ⟨_, rfl, _, _, _, _, true, rfl, .ty _, .base (.int i), kit_ty (by decide), true, rfl, _, rfl, _, _, _, _, false, rfl, .ty _, .base (.int i), kit_ty (by decide), false, rfl, k⟩
theorem scIsR : FnScope psV psV (defScope sIsRatio) := ⟨rfl, rfl, rfl, by decide +kernel, rfl, by decide +kernel, by decide +kernel⟩
theorem ok_isr {f fG fW : Addr} {fd dG dW : FuncData} (F : Fun K "_law_is_ratio" "_law_is_ratio" sIsRatio f fd) (mi : mg "isinstance" = none) (mt : mg "tuple" = none) (ml : mg "len" = none)
    (G : Cl P w K mg base "_law_gcd" psGcd 1 spGcd fG dG) (W : Cl P w K mg base "_law_is_whole" psV 1 spWhole fW dW) : FnOk P w K mg base CX0 2 f fd psV spIsRatio := by
  refine F.ok scIsR (fun vs H Q E h => ?_) (fun cdv A outer s H vs Q E hr h => ?_)
  · obtain ⟨p, a, b, rfl, _⟩ := h
    rfl
  · obtain ⟨p, a, b, rfl, hp, b0, a1, b1, g1, k⟩ := h
    refine ⟨_, pss_cons (ps_if (PW.pt (pw_or (pt_not (pt_val (pe_callB call_isi (by rfl) mi (by decide +kernel) (pa_cons (pv 0) (pa_cons (pe_bltn (v := .ty "tuple") (by rfl) mt (by decide +kernel) rfl) pa_nil)))))
          (pw_or1 (pt_cmpR op_ne (pe_callB call_len_seq (by rfl) ml PySem.boot_len (pa_cons (pv 0) pa_nil)) pe_int (nomark _))))) (pss_one (ps_ret pe_bl)) pss_nil)
      (pss_cons (ps_if (PW.pt (pw_or (pt_not (pt_val (pe_call W.G hr (by rfl) W.g W.kp W.b .nil pass0 (pa_cons (pe_ix ix_tup (pv 0) pe_int (fun _ _ => rfl)) pa_nil))))
          (pw_or (pt_not (pt_val (pe_call W.G hr (by rfl) W.g W.kp W.b .nil pass0 (pa_cons (pe_ix ix_tup (pv 0) pe_int (fun _ _ => rfl)) pa_nil))))
          (pw_or1 (pt_cmpR op_le (pe_ix ix_tup (pv 0) pe_int (fun _ _ => rfl)) pe_int (nomark _)))))) (pss_one (ps_ret pe_bl)) pss_nil)
      (pss_one (ps_ret (pe_cmpR op_eq (pe_call G.G hr (by rfl) G.g G.kp G.b .nil pass0 (pa_cons (pe_ix ix_tup (pv 0) pe_int (fun _ _ => rfl)) (pa_cons (pe_ix ix_tup (pv 0) pe_int (fun _ _ => rfl)) pa_nil))) pe_int (nomark _))))), ?_⟩
    have sq : SqT K H p [V.int a, V.int b] := Or.inl (Or.inl hp)
    refine ⟨_, rfl, _, _, _, _, true, rfl, .ty _, .base (.tup hp), kit_ty (by decide), true, rfl, iteF ?_⟩
    refine ⟨_, rfl, p, _, rfl, .inr sq, rfl, _, rfl, iteF ?_⟩
    refine ⟨_, rfl, p, _, 0, _, rfl, rfl, sq, rfl, _, rfl, true, rfl, iteF ?_⟩
    refine ⟨_, rfl, p, _, 1, _, rfl, rfl, sq, rfl, _, rfl, true, rfl, iteF ?_⟩
    refine ⟨_, rfl, p, _, 1, _, rfl, rfl, sq, rfl, _, _, rfl, rfl, _, rfl, ite2 (fun z => absurd (of_decide_eq_true z) (by omega)) (fun _ => ?_)⟩
    refine ⟨_, rfl, p, _, 0, _, rfl, rfl, sq, rfl, _, rfl, p, _, 1, _, rfl, rfl, sq, rfl, _, _, rfl, a1, b1, rfl, ?_⟩
    rw [g1]
    exact k
theorem in_one (c : Nat) : inV (.str ⟨#[c]⟩) (signsOf digs) = isD c := by
  rw [← in_digs]
  unfold inV signsOf
  rw [List.any_map, Bool.eq_iff_iff, List.any_eq_true, decide_eq_true_iff]
  constructor
  · rintro ⟨d, hd, e⟩
    have e1 : (⟨#[d]⟩ : Str) == ⟨#[c]⟩ := e
    have e2 : (⟨#[d]⟩ : Str) = ⟨#[c]⟩ := beq_iff_eq.mp e1
    have e3 : [d] = [c] := congrArg (fun z : Str => z.cps.toList) e2
    rw [← (List.cons.inj e3).1]
    exact hd
  · intro h
    refine ⟨c, h, ?_⟩
    show ((⟨#[c]⟩ : Str) == ⟨#[c]⟩) = true
    exact beq_self_eq_true _
theorem in_none : inV (.str ⟨#[]⟩) (signsOf digs) = false := by
  unfold inV signsOf
  rw [List.any_map, Bool.eq_false_iff]
  intro h
  obtain ⟨d, hd, e⟩ := List.any_eq_true.mp h
  have e1 : (⟨#[d]⟩ : Str) == ⟨#[]⟩ := e
  have e2 : (⟨#[d]⟩ : Str) = ⟨#[]⟩ := beq_iff_eq.mp e1
  have e3 : [d] = [] := congrArg (fun z : Str => z.cps.toList) e2
  cases e3
theorem flat_signs (z : Str) : (signsOf z).all flatV = true := by
  unfold signsOf
  rw [List.all_map]
  exact List.all_eq_true.mpr fun _ _ => rfl
theorem scLDend : FnScope ["_law_text", "_law_at", "_law_lap"] psDe (defScope sLDend) := ⟨rfl, rfl, rfl, by decide +kernel, rfl, by decide +kernel, by decide +kernel⟩
theorem ok_ldend {f : Addr} {fd : FuncData} (F : Fun K "_law_digits_end" "_law_digits_end" sLDend f fd) (mr : mg "range" = none) (ml : mg "len" = none) (mt : mg "tuple" = none) : FnOk P w K mg base CX0 1 f fd psDe spLDend := by
  refine F.ok scLDend (fun vs H Q E h => ?_) (fun cdv A outer s H vs Q E hr h => ?_)
  · obtain ⟨t, k, rfl, _⟩ := h
    rfl
  · obtain ⟨t, k0, rfl, tl, hk, k⟩ := h
    refine ⟨_, pss_cons (ps_for PassesOwn.never rfl (pi_range1 (by rfl) mr (pa_cons (pe_op op_add (pe_callB call_len_str (by rfl) ml PySem.boot_len (pa_cons (pv 0) pa_nil)) pe_int) pa_nil)) (pg_name (i := 2) scLDend.nd rfl (Or.inl rfl))
        (pss_cons (ps_if (pt_cmpR op_notIn_seq (pe_slice sl_str (pv 0) (po_some (pv 1)) (po_some (pe_op op_add (pv 1) pe_int))) (pe_callTy call_tupS (by rfl) mt (by decide +kernel) (pa_cons pe_str pa_nil)) (by with_unfolding_all rfl)) (pss_one ps_break) pss_nil)
        (pss_one (ps_set (i := 1) scLDend.nd rfl (Or.inl rfl) (pe_op op_add (pv 1) pe_int)))))
      (pss_one (ps_ret (pv 1))), ?_⟩
    have zl := tl_len t
    have szl : t.length ≤ sizeLine := Nat.le_trans tl (by decide)
    generalize hcs : t.cps.toList = cs at *
    refine ⟨_, rfl, t, rfl, szl, _, _, rfl, rfl, (t.length : Int) + 1, rfl, by omega, by omega, ?_⟩
    have en : ((t.length : Int) + 1).toNat = t.length + 1 := by omega
    rw [en]
    refine for_range (fun i σ H' => Same H H' ∧ i ≤ t.length + 1 ∧ k0 + i ≤ t.length ∧ dend cs (k0 + i) = dend cs k0 ∧ ∃ r : Option V, σ = [some (.str t), some (.int ((k0 + i : Nat) : Int)), r]) ⟨Same.refl H, by omega, by omega, rfl, none, rfl⟩ ?_ ?_
    · rintro i σ H' hi ⟨hs, h1, h2, h3, r, rfl⟩
      refine ⟨_, rfl, _, rfl, _, rfl, _, rfl, _, _, rfl, rfl, _, rfl, t, rfl, szl, digs, rfl, hr.hd, by decide, fun p hp => ?_⟩
      refine ⟨p, _, rfl, Or.inr (Or.inl (Or.inl upd_same)), rfl, flat_signs _, _, rfl, ?_⟩
      have e := cutS_one t (k0 + i) h2
      have e2 : cutS t (some ((k0 + i : Nat) : Int)) (some (((k0 + i : Nat) : Int) + 1)) = _ := e
      rw [e2, hcs]
      cases hc : cs[k0 + i]? with
      | none =>
        show ite ((!inV (.str ⟨#[]⟩) (signsOf digs)) = true) _ _
        rw [in_none]
        refine iteT ⟨_, rfl, ?_⟩
        have hge : cs.length ≤ k0 + i := List.getElem?_eq_none_iff.mp hc
        rw [← dend_past hge, h3]
        exact k _ (hs.trans (same_new hp))
      | some c =>
        show ite ((!inV (.str ⟨#[c]⟩) (signsOf digs)) = true) _ _
        have hlt : k0 + i < cs.length := (List.getElem?_eq_some_iff.mp hc).1
        rw [in_one]
        cases hd : isD c with
        | false =>
          refine iteT ⟨_, rfl, ?_⟩
          rw [← dend_stop hc hd, h3]
          exact k _ (hs.trans (same_new hp))
        | true =>
          refine iteF ⟨_, rfl, _, _, rfl, rfl, hs.trans (same_new hp), by omega, by omega, ?_, some _, rfl⟩
          rw [← h3, dend_step hc hd]
          rfl
    · rintro σ H' ⟨hs, h1, h2, h3, r, rfl⟩
      omega
end
end Fk

namespace Fk
open PySem L2
/-! ### what is due -/
abbrev sDue : Stmt := top 22
abbrev psT : List Str := ["_law_text"]
/-- the value at p tells o -/
def Told (H : Hp) (p : Addr) : Out → Prop
  | .text n => H p = some (.tup [.str "text", .int n])
  | .large n => H p = some (.tup [.str "large", .int n])
  | .ratio a b => ∃ q, H p = some (.tup [.str "ratio", .ref q]) ∧ H q = some (.tup [.int a, .int b])
def spDue : Sp := fun vs H Q _ => ∃ t : Str, vs = [.str t] ∧ t.length ≤ 20000 ∧ ∀ p H', Same H H' → Told H' p (out t.cps.toList) → Q (.ref p) H'
theorem first_sign (t : Str) : decide (V.str (cutS t none (some 1)) = V.str "-") = decide (t.cps.toList.head? = some 45) := by
  have e : (cutS t none (some ((1 : Nat) : Int))).cps.toList = t.cps.toList.take 1 := by
    unfold cutS
    rw [HT.sIx_nat, HT.sIx_none, List.toList_toArray, List.drop_zero, Nat.sub_zero, ← tl_len t]
    cases t.cps.toList with
    | nil => rfl
    | cons c r => rw [Nat.min_eq_left (by show 1 ≤ r.length + 1; omega)]
  by_cases h : t.cps.toList.head? = some 45
  · rw [decide_eq_true h]
    refine decide_eq_true ?_
    have z : cutS t none (some ((1 : Nat) : Int)) = ("-" : Str) := ext (by
      rw [e]
      cases q : t.cps.toList with
      | nil =>
        rw [q] at h
        cases h
      | cons c r =>
        rw [q] at h
        rw [Option.some.inj h]
        rfl)
    exact congrArg V.str z
  · rw [decide_eq_false h]
    refine decide_eq_false fun z => h ?_
    have z1 : cutS t none (some ((1 : Nat) : Int)) = ("-" : Str) := V.str.inj z
    have z2 := congrArg (fun s : Str => s.cps.toList) z1
    have z3 : (cutS t none (some ((1 : Nat) : Int))).cps.toList = [45] := z2
    rw [e] at z3
    cases q : t.cps.toList with
    | nil =>
      rw [q] at z3
      cases z3
    | cons c r =>
      rw [q] at z3
      have z4 : [c] = [45] := z3
      rw [(List.cons.inj z4).1]
      rfl
theorem digits_int {z : Str} {cs : List Nat} {a b : Nat} (hz : z.cps.toList = cut cs a b) (hb : b = dend cs a) (hab : ¬ b = a) (hle : b ≤ cs.length) (hl : ¬ 4000 < b - a) : (∀ c ∈ z.cps.toList, c = 45 ∨ (48 ≤ c ∧ c ≤ 57)) ∧ intText? z = some ((val cs a b : Nat) : Int) ∧ z.length ≤ sizeLine ∧ val cs a b < 2 ^ 13400 := by
  have hd : NumText.AllDigits (cut cs a b) := by
    rw [hb]
    exact cut_digits cs a
  have hge := dend_ge cs a
  have e1 : z.cps.toList.length = b - a := by rw [hz, cut_len hle]
  have e2 := tl_len z
  have sz : sizeLine ≥ 4001 := by decide
  refine ⟨fun c hc => .inr (hd c (hz ▸ hc)), ?_, by omega, big13 hd (by rw [cut_len hle]; omega)⟩
  rw [PySem.intText_digits (hz ▸ hd) (fun q => ?_) (by omega), hz]
  · rfl
  · rw [q] at e1
    have e3 : 0 = b - a := e1
    omega
section
variable {P : Program} {w : World} {K : PySem.W.Frag} {mg : Str → Option Value} {base : Heap}
theorem scDue : FnScope ["_law_text", "_law_first", "_law_middle", "_law_end", "_law_rows", "_law_row", "_law_pair"] psT (defScope sDue) := ⟨rfl, rfl, rfl, by decide +kernel, rfl, by decide +kernel, by decide +kernel⟩
theorem ok_due {f fE fQ : Addr} {fd dE dQ : FuncData} (F : Fun K "_law_due" "_law_due" sDue f fd) (D : Cl P w K mg base "_law_digits_end" psDe 1 spLDend fE dE) (C : Cl P w K mg base "_law_q" psQ 2 spQ fQ dQ)
    (mn : mg "int" = none) (ml : mg "len" = none) (dg : PySem.W.nsIn K cStatics "sys.int_max_str_digits" = some none) : FnOk P w K mg base CX0 3 f fd psT spDue := by
  refine F.ok scDue (fun vs H Q E h => ?_) (fun cdv A outer s H vs Q E hr h => ?_)
  · obtain ⟨t, rfl, _⟩ := h
    rfl
  · obtain ⟨t, rfl, tl, k⟩ := h
    have hr1 : Room 1 _ := hr.mono (by decide)
    refine ⟨_, C8.pss_cut (ps_set (i := 1) scDue.nd rfl (Or.inl rfl) (pe_callTy call_int1 (by rfl) mn (by decide +kernel) (pa_cons (pe_cmpR op_eq (pe_slice sl_str (pv 0) po_none (po_some pe_int)) pe_str (nomark _)) pa_nil)))
      (pss_cons (ps_set (i := 2) scDue.nd rfl (Or.inl rfl) (pe_call D.G hr1 (by rfl) D.g D.kp D.b .nil pass0 (pa_cons (pv 0) (pa_cons (pv 1) pa_nil))))
      (pss_cons (ps_if (pt_cmpR op_eq (pv 2) (pv 1) (nomark _)) (pss_one (ps_ret (pe_tup (pa_cons pe_str (pa_cons (pe_op op_add (pv 1) pe_int) pa_nil))))) pss_nil)
      (pss_cons (ps_par (i := 3) (j := 4) (by rfl) scDue.nd rfl rfl (by decide) rfl rfl (pa_cons (pv 2) (pa_cons (pe_lst (pa_cons (pe_slice sl_str (pv 0) (po_some (pv 1)) (po_some (pv 2))) pa_nil)) pa_nil)) (by rfl))
      (C8.pss_cut (ps_if (pt_cmpR op_eq (pe_slice sl_str (pv 0) (po_some (pv 2)) (po_some (pe_op op_add (pv 2) pe_int))) pe_str (nomark _))
          (pss_cons (ps_set (i := 3) scDue.nd rfl (Or.inl rfl) (pe_call D.G hr1 (by rfl) D.g D.kp D.b .nil pass0 (pa_cons (pv 0) (pa_cons (pe_op op_add (pv 2) pe_int) pa_nil))))
          (pss_cons (ps_if (pt_cmpR op_eq (pv 3) (pe_op op_add (pv 2) pe_int) (nomark _)) (pss_one (ps_ret (pe_tup (pa_cons pe_str (pa_cons (pe_op op_add (pv 3) pe_int) pa_nil))))) pss_nil)
          (pss_one (ps_expr (pe_bm PySem.F.plainAttrs_list PySem.F.slot_list_append PySem.F.type_list_append mt_append (pv 4) (pa_cons (pe_slice sl_str (pv 0) (po_some (pe_op op_add (pv 2) pe_int)) (po_some (pv 3))) pa_nil)))))) pss_nil)
      (pss_cons (ps_if (pt_cmpR op_lt (pv 3) (pe_callB call_len_str (by rfl) ml PySem.boot_len (pa_cons (pv 0) pa_nil)) (nomark _)) (pss_one (ps_ret (pe_tup (pa_cons pe_str (pa_cons (pe_op op_add (pv 3) pe_int) pa_nil))))) pss_nil)
      (pss_cons (ps_for PassesOwn.never rfl (pi_list (pv 4)) (pg_name (i := 5) scDue.nd rfl (Or.inl rfl))
          (pss_one (ps_if (pt_cmpR op_gt (pe_callB call_len_str (by rfl) ml PySem.boot_len (pa_cons (pv 5) pa_nil)) pe_int (nomark _))
            (pss_one (ps_ret (pe_tup (pa_cons pe_str (pa_cons (pe_callB call_len_str (by rfl) ml PySem.boot_len (pa_cons (pv 5) pa_nil)) pa_nil))))) pss_nil)))
      (pss_cons (ps_if (PW.pt (pw_and (pt_cmpR op_eq (pe_callB call_len_seq (by rfl) ml PySem.boot_len (pa_cons (pv 4) pa_nil)) pe_int (nomark _)) (pw_and1 (pt_cmpR op_eq (pe_callTy (call_int_big dg) (by rfl) mn (by decide +kernel) (pa_cons (pe_ix ix_list (pv 4) pe_int (fun _ _ => rfl)) pa_nil)) pe_int (nomark _)))))
          (pss_one (ps_ret (pe_tup (pa_cons pe_str (pa_cons (pe_op op_add (pv 2) pe_int) pa_nil))))) pss_nil)
      (pss_cons (ps_set (i := 6) scDue.nd rfl (Or.inl rfl) (pe_call C.G (hr.mono (by decide)) (by rfl) C.g C.kp C.b .nil pass0 (pa_cons (pe_callTy (call_int_big dg) (by rfl) mn (by decide +kernel) (pa_cons (pe_ix ix_list (pv 4) pe_int (fun _ _ => rfl)) pa_nil))
          (pa_cons (pe_ifExp (pt_cmpR op_eq (pe_callB call_len_seq (by rfl) ml PySem.boot_len (pa_cons (pv 4) pa_nil)) pe_int (nomark _)) (pe_callTy (call_int_big dg) (by rfl) mn (by decide +kernel) (pa_cons (pe_ix ix_list (pv 4) pe_int (fun _ _ => rfl)) pa_nil)) pe_int) pa_nil))))
      (pss_one (ps_ret (pe_tup (pa_cons pe_str (pa_cons (pe_ifExp (pt_cmpR op_eq (pv 1) pe_int (nomark _)) (pe_tup (pa_cons (pe_un un_neg (pe_ix ix_tup (pv 6) pe_int (fun _ _ => rfl))) (pa_cons (pe_ix ix_tup (pv 6) pe_int (fun _ _ => rfl)) pa_nil))) (pv 6)) pa_nil))))))))))))), ?_⟩
    have zl := tl_len t
    have szl : t.length ≤ sizeLine := Nat.le_trans tl (by decide)
    generalize hcs : t.cps.toList = cs at *
    have sle := st_le cs
    refine ⟨fun σ' H' => H' = H ∧ σ' = [some (.str t), some (.int (st cs : Nat)), none, none, none, none, none], ?_, ?_⟩
    · refine ⟨_, rfl, _, rfl, t, rfl, szl, rfl, .inr ⟨_, rfl, rfl, ?_⟩⟩
      rw [first_sign, hcs, ← st_eq]
      rfl
    rintro σ1 H1 ⟨rfl, rfl⟩
    refine ⟨_, rfl, _, rfl, t, st cs, rfl, tl, by omega, fun H2 hs => ?_⟩
    rw [hcs]
    have mle : dend cs (st cs) ≤ cs.length := dend_le sle
    have mge := dend_ge cs (st cs)
    refine ⟨_, rfl, _, rfl, rfl, _, rfl, ite2 (fun h => ?_) (fun h => ?_)⟩
    · have e : dend cs (st cs) = st cs := by
        have := keq h
        omega
      refine ⟨_, rfl, _, _, rfl, rfl, by show 2 ≤ sizeLine; decide, fun p hp => k p _ (hs.trans (same_new hp)) ?_⟩
      unfold out
      rw [if_pos e]
      exact upd_same
    have ne1 : ¬ dend cs (st cs) = st cs := fun z => kne h (by omega)
    generalize hm : dend cs (st cs) = m at *
    refine ⟨_, rfl, _, rfl, _, rfl, _, rfl, _, rfl, _, rfl, t, rfl, szl, by show 1 ≤ sizeLine; decide, fun l hl => ⟨_, _, rfl, ?_⟩⟩
    have hw0 : (cutS t (some (st cs : Nat)) (some (m : Int))).cps.toList = cut cs (st cs) m := by
      rw [cutS_two t (by omega) (by omega), hcs]
    generalize hwl : cutS t (some ((st cs : Nat) : Int)) (some (m : Int)) = wh at *
    have s3 := hs.trans (same_new (o := .lst [V.str wh]) hl)
    refine ⟨fun σ' H' => Same H1 H' ∧ ∃ (e : Nat), σ' = [some (.str t), some (.int (st cs : Nat)), some (.int m), some (.int e), some (.ref l), none, none] ∧
      ((cs[m]? = some 47 ∧ e = dend cs (m + 1) ∧ ¬ e = m + 1 ∧ ∃ bl : Str, bl.cps.toList = cut cs (m + 1) e ∧ H' l = some (.lst [.str wh, .str bl])) ∨ (¬ cs[m]? = some 47 ∧ e = m ∧ H' l = some (.lst [.str wh]))), ?_, ?_⟩
    · refine ⟨_, rfl, _, rfl, _, rfl, _, rfl, _, _, rfl, rfl, _, rfl, t, rfl, szl, rfl, _, rfl, ?_⟩
      rw [slash_test t m (by omega), hcs]
      refine ite2 (fun h => ?_) (fun h => ?_)
      · have h47 := of_decide_eq_true h
        have mlt : m < cs.length := (List.getElem?_eq_some_iff.mp h47).1
        refine ⟨_, rfl, _, rfl, _, _, rfl, rfl, t, m + 1, rfl, tl, by omega, fun H4 h4 => ?_⟩
        rw [hcs]
        have hl4 := h4 _ _ (upd_same (H := H2) (a := l) (o := .lst [V.str wh]))
        have hle := dend_le (cs := cs) (k := m + 1) (by omega)
        have hge := dend_ge cs (m + 1)
        refine ⟨_, rfl, _, rfl, _, _, rfl, rfl, rfl, _, rfl, ite2 (fun h => ?_) (fun h => ?_)⟩
        · have e : dend cs (m + 1) = m + 1 := by
            have := keq h
            omega
          refine ⟨_, rfl, _, _, rfl, rfl, by show 2 ≤ sizeLine; decide, fun p hp => k p _ ((s3.trans h4).trans (same_new hp)) ?_⟩
          unfold out
          rw [hm, if_neg ne1, if_pos h47, if_pos e]
          exact upd_same
        · have ne2 : ¬ dend cs (m + 1) = m + 1 := fun z => kne h (by omega)
          refine ⟨_, rfl, .inl ⟨rfl, _, Or.inl (Or.inl hl4)⟩, _, rfl, _, rfl, _, _, rfl, rfl, _, rfl, _, rfl, _, rfl, t, rfl, szl, ?_⟩
          refine ⟨l, _, _, rfl, rfl, hl4, by show 1 < sizeLine; decide, ?_⟩
          refine ⟨?_, dend cs (m + 1), rfl, .inl ⟨h47, rfl, ne2, _, ?_, upd_same⟩⟩
          · intro b o e
            rw [upd_ne (ne_of_none e (hs.free hl))]
            exact (s3.trans h4) b o e
          · have z := cutS_two t (a := m + 1) (b := dend cs (m + 1)) (by omega) (by omega)
            rw [hcs] at z
            exact z
      · exact ⟨s3, m, rfl, .inr ⟨fun z => h (decide_eq_true z), rfl, upd_same⟩⟩
    clear hwl s3 hl hs
    rintro σ2 H4 ⟨s4, e, rfl, he⟩
    have ele : e ≤ cs.length := by
      rcases he with ⟨h47, rfl, _⟩ | ⟨_, rfl, _⟩
      · have mlt : m < cs.length := (List.getElem?_eq_some_iff.mp h47).1
        exact dend_le (by omega)
      · exact mle
    have wl : wh.length = m - st cs := by
      rw [← tl_len, hw0, cut_len mle]
    refine ⟨_, rfl, _, rfl, t, rfl, szl, _, _, rfl, rfl, _, rfl, ite2 (fun h => ?_) (fun h => ?_)⟩
    · have elt : e < cs.length := by
        have := of_decide_eq_true h
        omega
      refine ⟨_, rfl, _, _, rfl, rfl, by show 2 ≤ sizeLine; decide, fun p hp => k p _ (s4.trans (same_new hp)) ?_⟩
      unfold out
      rw [hm, if_neg ne1]
      rcases he with ⟨h47, rfl, hne, _⟩ | ⟨h47, rfl, _⟩
      · rw [if_pos h47, if_neg hne, if_pos elt]
        exact upd_same
      · rw [if_neg h47, if_pos elt]
        exact upd_same
    have eeq : e = cs.length := by
      have h' : ¬ (e : Int) < (t.length : Int) := fun z => h (decide_eq_true z)
      omega
    have hout := out_tail hm ne1 (he.imp (fun z => ⟨z.1, z.2.1, z.2.2.1⟩) (fun z => ⟨z.1, z.2.1⟩)) eeq
    have big0 : 4000 < m - st cs → ∀ p H', Same H4 H' → H' p = some (.tup [.str "large", .int (wh.length : Nat)]) → Q (.ref p) H' := fun h4 p H' hs e2 => k p H' (s4.trans hs) (by
      rw [hout, if_pos h4]
      rw [wl] at e2
      exact e2)
    rcases he with ⟨h47, he, hne, bl, hb, hl⟩ | ⟨h47, he, hl⟩
    · rw [if_pos h47] at hout
      have mlt : m < cs.length := (List.getElem?_eq_some_iff.mp h47).1
      have bll : bl.length = e - (m + 1) := by rw [← tl_len, hb, cut_len ele]
      refine ⟨_, rfl, l, rfl, ⟨_, Or.inl (Or.inl hl)⟩, for_list (K := K) (a := l) (xs := [V.str wh, V.str bl]) (fun i σ H' => H' = H4 ∧ (∃ r : Option V, σ = [some (.str t), some (.int (st cs : Nat)), some (.int m), some (.int e), some (.ref l), r, none]) ∧ (1 ≤ i → ¬ 4000 < m - st cs) ∧ (2 ≤ i → ¬ 4000 < e - (m + 1))) ⟨rfl, ⟨_, rfl⟩, by omega, by omega⟩ (fun i σ H' _ ⟨e, _⟩ => e ▸ Or.inl (Or.inl hl)) ?_ ?_⟩
      · rintro i x σ H' hx ⟨rfl, ⟨r, rfl⟩, h1, h2⟩
        match i, hx with
        | 0, hx =>
          cases hx
          refine ⟨_, rfl, wh, rfl, by omega, _, _, rfl, rfl, _, rfl, ite2 (fun h => ?_) (fun h => ?_)⟩
          · have h' : 4000 < m - st cs := by
              have z : ((4000 : Int) < (wh.length : Nat)) := of_decide_eq_true h
              omega
            exact ⟨_, rfl, wh, rfl, by omega, by show 2 ≤ sizeLine; decide, fun p hp => big0 h' p _ (same_new hp) upd_same⟩
          · have h' : ¬ 4000 < m - st cs := fun z => h (decide_eq_true (by show ((4000 : Int) < (wh.length : Nat)); omega))
            exact ⟨rfl, ⟨_, rfl⟩, fun _ => h', by omega⟩
        | 1, hx =>
          cases hx
          refine ⟨_, rfl, bl, rfl, by omega, _, _, rfl, rfl, _, rfl, ite2 (fun h => ?_) (fun h => ?_)⟩
          · have h' : 4000 < e - (m + 1) := by
              have z : ((4000 : Int) < (bl.length : Nat)) := of_decide_eq_true h
              omega
            refine ⟨_, rfl, bl, rfl, by omega, by show 2 ≤ sizeLine; decide, fun p hp => k p _ (s4.trans (same_new hp)) ?_⟩
            rw [hout, if_neg (h1 (by omega)), if_pos h', ← bll]
            exact upd_same
          · have h' : ¬ 4000 < e - (m + 1) := fun z => h (decide_eq_true (by show ((4000 : Int) < (bl.length : Nat)); omega))
            exact ⟨rfl, ⟨_, rfl⟩, fun _ => h1 (by omega), fun _ => h'⟩
        | i + 2, hx => cases hx
      · rintro σ H' ⟨rfl, ⟨r, rfl⟩, h1, h2⟩
        have w4 := h1 (Nat.le_succ 1)
        have b4 := h2 (Nat.le_refl 2)
        rw [if_neg w4, if_neg b4] at hout
        obtain ⟨i1, i2, i3, i4⟩ := digits_int hb he hne ele b4
        obtain ⟨j1, j2, j3, j4⟩ := digits_int hw0 hm.symm ne1 mle w4
        have sl : SqL K H' l [V.str wh, V.str bl] := Or.inl (Or.inl hl)
        refine ⟨_, rfl, l, _, rfl, .inl sl, rfl, _, rfl, iteT ?_⟩
        refine ⟨_, rfl, l, _, 1, _, rfl, rfl, sl, rfl, _, _, rfl, i1, i2, i3, rfl, _, rfl, ite2 (fun h0 => ?_) (fun h0 => ?_)⟩
        · have v0 : val cs (m + 1) e = 0 := by
            have := keq h0
            omega
          rw [if_pos v0] at hout
          refine ⟨_, rfl, _, _, rfl, rfl, by show 2 ≤ sizeLine; decide, fun p hp => k p _ (s4.trans (same_new hp)) ?_⟩
          rw [hout]
          exact upd_same
        · have v0 : ¬ val cs (m + 1) e = 0 := by
            have := kne h0
            omega
          rw [if_neg v0] at hout
          refine ⟨_, rfl, l, _, 0, _, rfl, rfl, sl, rfl, _, _, rfl, j1, j2, j3, _, rfl, l, _, rfl, .inl sl, rfl, _, rfl, iteT ?_⟩
          refine ⟨_, rfl, l, _, 1, _, rfl, rfl, sl, rfl, _, _, rfl, i1, i2, i3, _, _, rfl, by omega, j4, i4, fun p hp => ?_⟩
          have s5 := s4.trans (same_new (o := .tup [.int ((val cs (st cs) m / Nat.gcd (val cs (st cs) m) (val cs (m + 1) e) : Nat) : Int), .int ((val cs (m + 1) e / Nat.gcd (val cs (st cs) m) (val cs (m + 1) e) : Nat) : Int)]) hp)
          have sqp : SqT K (upd H' p (.tup [.int ((val cs (st cs) m / Nat.gcd (val cs (st cs) m) (val cs (m + 1) e) : Nat) : Int), .int ((val cs (m + 1) e / Nat.gcd (val cs (st cs) m) (val cs (m + 1) e) : Nat) : Int)])) p [.int ((val cs (st cs) m / Nat.gcd (val cs (st cs) m) (val cs (m + 1) e) : Nat) : Int), .int ((val cs (m + 1) e / Nat.gcd (val cs (st cs) m) (val cs (m + 1) e) : Nat) : Int)] := Or.inl (Or.inl upd_same)
          refine ⟨_, rfl, rfl, _, rfl, ite2 (fun h6 => ?_) (fun h6 => ?_)⟩
          · have sg : sgn (st cs) = -1 := by
              have := keq h6
              unfold sgn
              rw [if_pos (by omega)]
            refine ⟨_, rfl, p, _, 0, _, rfl, rfl, sqp, rfl, _, rfl, _, rfl, p, _, 1, _, rfl, rfl, sqp, rfl, by show 2 ≤ sizeLine; decide, fun q hq => ⟨by show 2 ≤ sizeLine; decide, fun r hr => k r _ ((s5.trans (same_new hq)).trans (same_new hr)) ?_⟩⟩
            rw [hout]
            refine ⟨q, upd_same, ?_⟩
            rw [upd_ne (ne_of_none upd_same hr), upd_same, sg]
            show some (HO.tup [.int (-((val cs (st cs) m / Nat.gcd (val cs (st cs) m) (val cs (m + 1) e) : Nat) : Int)), .int ((val cs (m + 1) e / Nat.gcd (val cs (st cs) m) (val cs (m + 1) e) : Nat) : Int)]) = some (.tup [.int ((-1) * ((val cs (st cs) m / Nat.gcd (val cs (st cs) m) (val cs (m + 1) e) : Nat) : Int)), .int ((val cs (m + 1) e / Nat.gcd (val cs (st cs) m) (val cs (m + 1) e) : Nat) : Int)])
            rw [Int.neg_mul, Int.one_mul]
          · have s0 : sgn (st cs) = 1 := by
              have := kne h6
              unfold sgn
              rw [if_neg (by omega)]
            refine ⟨_, rfl, by show 2 ≤ sizeLine; decide, fun r hr => k r _ (s5.trans (same_new hr)) ?_⟩
            rw [hout, s0, Int.one_mul]
            refine ⟨p, upd_same, ?_⟩
            rw [upd_ne (ne_of_none upd_same hr), upd_same]
    · rw [if_neg h47] at hout
      refine ⟨_, rfl, l, rfl, ⟨_, Or.inl (Or.inl hl)⟩, for_list (K := K) (a := l) (xs := [V.str wh]) (fun i σ H' => H' = H4 ∧ (∃ r : Option V, σ = [some (.str t), some (.int (st cs : Nat)), some (.int m), some (.int e), some (.ref l), r, none]) ∧ (1 ≤ i → ¬ 4000 < m - st cs)) ⟨rfl, ⟨_, rfl⟩, by omega⟩ (fun i σ H' _ ⟨e, _⟩ => e ▸ Or.inl (Or.inl hl)) ?_ ?_⟩
      · rintro i x σ H' hx ⟨rfl, ⟨r, rfl⟩, h1⟩
        match i, hx with
        | 0, hx =>
          cases hx
          refine ⟨_, rfl, wh, rfl, by omega, _, _, rfl, rfl, _, rfl, ite2 (fun h => ?_) (fun h => ?_)⟩
          · have h' : 4000 < m - st cs := by
              have z : ((4000 : Int) < (wh.length : Nat)) := of_decide_eq_true h
              omega
            exact ⟨_, rfl, wh, rfl, by omega, by show 2 ≤ sizeLine; decide, fun p hp => big0 h' p _ (same_new hp) upd_same⟩
          · have h' : ¬ 4000 < m - st cs := fun z => h (decide_eq_true (by show ((4000 : Int) < (wh.length : Nat)); omega))
            exact ⟨rfl, ⟨_, rfl⟩, fun _ => h'⟩
        | i + 1, hx => cases hx
      · rintro σ H' ⟨rfl, ⟨r, rfl⟩, h1⟩
        have w4 := h1 (Nat.le_refl 1)
        rw [if_neg w4] at hout
        obtain ⟨j1, j2, j3, j4⟩ := digits_int hw0 hm.symm ne1 mle w4
        have sl : SqL K H' l [V.str wh] := Or.inl (Or.inl hl)
        refine ⟨_, rfl, l, _, rfl, .inl sl, rfl, _, rfl, iteF ?_⟩
        refine ⟨_, rfl, l, _, 0, _, rfl, rfl, sl, rfl, _, _, rfl, j1, j2, j3, _, rfl, l, _, rfl, .inl sl, rfl, _, rfl, iteF ?_⟩
        refine ⟨val cs (st cs) m, 1, rfl, by decide, j4, by exact Nat.one_lt_two_pow (by decide), fun p hp => ?_⟩
        rw [Nat.gcd_one_right, Nat.div_one, Nat.div_one]
        have s5 := s4.trans (same_new (o := .tup [.int ((val cs (st cs) m : Nat) : Int), .int ((1 : Nat) : Int)]) hp)
        have sqp : SqT K (upd H' p (.tup [.int ((val cs (st cs) m : Nat) : Int), .int ((1 : Nat) : Int)])) p [.int ((val cs (st cs) m : Nat) : Int), .int ((1 : Nat) : Int)] := Or.inl (Or.inl upd_same)
        refine ⟨_, rfl, rfl, _, rfl, ite2 (fun h6 => ?_) (fun h6 => ?_)⟩
        · have sg : sgn (st cs) = -1 := by
            have := keq h6
            unfold sgn
            rw [if_pos (by omega)]
          refine ⟨_, rfl, p, _, 0, _, rfl, rfl, sqp, rfl, _, rfl, _, rfl, p, _, 1, _, rfl, rfl, sqp, rfl, by show 2 ≤ sizeLine; decide, fun q hq => ⟨by show 2 ≤ sizeLine; decide, fun r hr => k r _ ((s5.trans (same_new hq)).trans (same_new hr)) ?_⟩⟩
          rw [hout]
          refine ⟨q, upd_same, ?_⟩
          rw [upd_ne (ne_of_none upd_same hr), upd_same, sg]
          show some (HO.tup [.int (-((val cs (st cs) m : Nat) : Int)), .int ((1 : Nat) : Int)]) = some (.tup [.int ((-1) * ((val cs (st cs) m : Nat) : Int)), .int ((1 : Nat) : Int)])
          rw [Int.neg_mul, Int.one_mul]
        · have s0 : sgn (st cs) = 1 := by
            have := kne h6
            unfold sgn
            rw [if_neg (by omega)]
          refine ⟨_, rfl, by show 2 ≤ sizeLine; decide, fun r hr => k r _ (s5.trans (same_new hr)) ?_⟩
          rw [hout, s0, Int.one_mul]
          refine ⟨p, upd_same, ?_⟩
          rw [upd_ne (ne_of_none upd_same hr), upd_same]
          rfl
end
end Fk

set_option maxHeartbeats 4000000
namespace Fk
open PySem PySem.Spec L2 PyProof.Rows
/-! ### isinstance(e, C), e with fields -/
def rIsED (K : PySem.W.Frag) (cls : Value) (d : Option Addr) (D a : Addr) : List V → Hp → VK → Prop := fun xs H Q => ∃ (c : V) (cv : Value) (b : Bool) (dd : Addr) (fs : List (Str × V)), xs = [.ref a, c] ∧ cls = .ref D ∧ d = some dd ∧ H dd = some (.xd fs) ∧ (∀ u, RelV c u → u = cv) ∧ PySem.W.kitOne K (.ref D) cv = some b ∧ Q (.bl b) H
theorem call_isED {X : Cx} {a D : Addr} {oe : Obj} {cls : Value} {d : Option Addr} {pn : List (Addr × Obj)} (C : ExcC X.K D) (hz : Zc cls d oe) (hf : ∃ vs, oe.data = .fields vs) : CallR (X.suite a ((a, oe) :: pn)) (.builtin "isinstance") (rIsED X.K cls d D a) := by
  intro pins s σ H xs us Q I r h
  obtain ⟨c, cv, b, dd, fs, rfl, ec, ed, ea, hcv, e, q⟩ := h
  subst ec
  subst ed
  cases r with
  | cons rx rr =>
    cases rr with
    | cons rt rr =>
      cases rr
      cases rx
      have ec := hcv _ rt
      subst ec
      obtain ⟨hget, _⟩ := I.pin (a, oe) (List.mem_append.mpr (.inl List.mem_cons_self))
      obtain ⟨vs, hv⟩ := hf
      have hx : ObjOk X.prog X.w H s.heap dd (.xd fs) := I.hok dd _ ea
      obtain ⟨mA, hns, hr⟩ := hx
      obtain ⟨od, ho, hl⟩ := lookIn_ns hns
      have J : PySem.W.InstAt s.heap a oe D (some od) := ⟨hget, hz.1, by unfold PySem.W.notCls; rw [hv] <;> rfl, by rw [hz.2]; exact ho⟩
      have hcl : (PySem.W.clsIn X.K D).isSome = true := by
        have z := C.hd
        unfold PySem.W.hasDictIn at z
        cases q : PySem.W.clsIn X.K D with
        | none =>
          rw [q] at z
          cases z
        | some cd => rfl
      exact PySem.W.kia_one (PySem.W.kitx_exc hcl C.hg C.hk C.hs C.ha C.hn C.ht C.hm) I.kIn J e (fun z => nomatch z) fun tk => ⟨.bl b, H, I.kept (t' := tk) fun _ _ z => z, rfl, q⟩
theorem op_eqDK {X : Cx} {K : PySem.W.Frag} (hK : X.K = K) (hu : X.A.units + 64 < cLine) : OpR X (compareOp .Eq) (rEqD K) := hK ▸ op_eqD hu
/-! ### read -/
abbrev sRead : Stmt := top 23
theorem look_line (n : Int) (m : Int) : (badD m n).lookup ("line" : Str) = some (V.int m) := by
  unfold badD
  rw [List.lookup_cons, show (("line" : Str) == "column") = false by decide +kernel, List.lookup_cons, show (("line" : Str) == "line") = true by decide +kernel]
theorem look_col (n : Int) (m : Int) : (badD m n).lookup ("column" : Str) = some (V.int n) := by
  unfold badD
  rw [List.lookup_cons, show (("column" : Str) == "column") = true by decide +kernel]
theorem look_limit (n : Int) : (largeD n).lookup ("limit" : Str) = some (V.int 4000) := by
  unfold largeD
  rw [List.lookup_cons, show (("limit" : Str) == "limit") = true by decide +kernel]
theorem look_number (n : Int) : (largeD n).lookup ("number" : Str) = some (V.int n) := by
  unfold largeD
  rw [List.lookup_cons, show (("number" : Str) == "limit") = false by decide +kernel, List.lookup_cons, show (("number" : Str) == "number") = true by decide +kernel]
theorem look_what (n : Int) : (largeD n).lookup ("what" : Str) = some (V.str "digits") := by
  unfold largeD
  rw [List.lookup_cons, show (("what" : Str) == "limit") = false by decide +kernel, List.lookup_cons, show (("what" : Str) == "number") = false by decide +kernel, List.lookup_cons, show (("what" : Str) == "what") = true by decide +kernel]
/-- what the classes must say -/
structure Kin (K : PySem.W.Frag) (mg : Str → Option Value) (CF CB CL : Addr) : Prop where
  gF : mg "FoeError" = some (.ref CF)
  gV : mg "ValueError" = none
  gi : mg "isinstance" = none
  bF : PySem.W.kitOne K (.ref CB) (.ref CF) = some true
  bV : PySem.W.kitOne K (.ref CB) (.type "ValueError") = some true
  bL : PySem.W.kitOne K (.ref CB) (.ref CL) = some false
  eB : ExcC K CB
  xB : XfC K CB
  xL : XfC K CL
  fl : PySem.W.findIn K (.ref CB) "line" = some none
  fc : PySem.W.findIn K (.ref CB) "column" = some none
  fw : PySem.W.findIn K (.ref CL) "what" = some none
  fn : PySem.W.findIn K (.ref CL) "number" = some none
  fi : PySem.W.findIn K (.ref CL) "limit" = some none
  mBB : PySem.W.exmOne K (.ref CB) (.ref CB) = some true
  mLB : PySem.W.exmOne K (.ref CL) (.ref CB) = some false
  mLL : PySem.W.exmOne K (.ref CL) (.ref CL) = some true
def outOk : Out → Prop
  | .ratio a b => 0 < b ∧ a.natAbs < 2 ^ 13400 ∧ b.natAbs < 2 ^ 13400 ∧ Nat.gcd a.natAbs b.natAbs = 1
  | _ => True
theorem val_13 {cs : List Nat} {k m : Nat} (hm : dend cs k = m) (hk : k ≤ cs.length) (hl : ¬ 4000 < m - k) : val cs k m < 2 ^ 13400 := by
  refine big13 (hm ▸ cut_digits cs k) ?_
  rw [cut_len (hm ▸ dend_le hk)]
  omega
theorem ratio_ok {s v b : Nat} (hv : v < 2 ^ 13400) (hb : b < 2 ^ 13400) (b0 : 0 < b) : outOk (.ratio (sgn s * ((v / Nat.gcd v b : Nat) : Int)) ((b / Nat.gcd v b : Nat) : Int)) := by
  have g0 : 0 < Nat.gcd v b := Nat.gcd_pos_of_pos_right _ b0
  refine ⟨?_, ?_, ?_, ?_⟩
  · exact Int.ofNat_lt.mpr (Nat.div_pos (Nat.le_of_dvd b0 (Nat.gcd_dvd_right _ _)) g0)
  · rw [sgn_abs]
    exact Nat.lt_of_le_of_lt (Nat.div_le_self _ _) hv
  · rw [Int.natAbs_natCast]
    exact Nat.lt_of_le_of_lt (Nat.div_le_self _ _) hb
  · rw [sgn_abs, Int.natAbs_natCast]
    rw [Nat.gcd_div (Nat.gcd_dvd_left _ _) (Nat.gcd_dvd_right _ _), Nat.div_self g0]
theorem out_ok (cs : List Nat) : outOk (out cs) := by
  have sle := st_le cs
  generalize ho : out cs = o
  unfold out at ho
  split at ho
  · subst ho
    trivial
  split at ho
  · rename_i h47
    have mlt : dend cs (st cs) < cs.length := (List.getElem?_eq_some_iff.mp h47).1
    split at ho
    · subst ho
      trivial
    split at ho
    · subst ho
      trivial
    split at ho
    · subst ho
      trivial
    split at ho
    · subst ho
      trivial
    split at ho
    · subst ho
      trivial
    · subst ho
      exact ratio_ok (val_13 rfl sle (by assumption)) (val_13 rfl (by omega) (by assumption)) (by omega)
  · split at ho
    · subst ho
      trivial
    split at ho
    · subst ho
      trivial
    · subst ho
      have z := ratio_ok (s := st cs) (val_13 (cs := cs) rfl sle (by assumption)) (b := 1) (Nat.one_lt_two_pow (by decide)) (by decide)
      rw [Nat.gcd_one_right, Nat.div_one, Nat.div_one] at z
      exact z
def spRead : Sp := fun vs H Q _ => ∃ t : Str, vs = [.str t] ∧ t.length ≤ 20000 ∧ ∀ p H', Same H H' → Told H' p (out t.cps.toList) → Q (.ref p) H'
section
variable {P : Program} {w : World} {K : PySem.W.Frag} {mg : Str → Option Value} {base : Heap}
theorem scRead : FnScope ["_law_value", "_law_found", "e"] psV (defScope sRead) := ⟨rfl, rfl, rfl, by decide +kernel, rfl, by decide +kernel, by decide +kernel⟩
theorem ok_read {f CF CB CL gB gL fR fI : Addr} {fd dB dL dR dI : FuncData} (F : Fun K "_law_read" "_law_read" sRead f fd) (T : Kin K mg CF CB CL) (EB : Err P w K mg base "BadText" badFs CB gB dB) (EL : Err P w K mg base "TooLarge" largeFs CL gL dL)
    (RG : FnOk P w K mg base (L2.CX P w) 3 fR dR ["text"] (spRatio K CB CL)) (Rg : mg "ratio_of" = some (.ref fR)) (Rk : PySem.W.keepIn K (.ref fR) = true) (Rb : Binds K dR ["text"] [])
    (IR : Cl P w K mg base "_law_is_ratio" psV 2 spIsRatio fI dI) : FnOk P w K mg base CX0 4 f fd psV spRead := by
  refine F.ok scRead (fun vs H Q E h => ?_) (fun cdv A outer s H vs Q E hr h => ?_)
  · obtain ⟨t, rfl, _⟩ := h
    rfl
  · obtain ⟨t, rfl, tl, k⟩ := h
    refine ⟨_, C8.pss_cut (ps_try_each rfl rfl scRead.nd takes0
        (fun W pn xe tk _ => pss_one (ps_set (i := 1) scRead.nd rfl (Or.inl rfl) (pe_callS RG hr (by rfl) Rg Rk Rb (passAt tk) (pa_cons (pv 0) pa_nil))))
        (Clauses.cons (i := 2) ⟨by rfl, by decide +kernel, Or.inl EB.g⟩ rfl rfl (fun a oe cls d pn hz hf =>
            pss_cons (ps_if (PW.pt (pw_or (pt_not (pt_val (pe_callB (call_isED T.eB hz hf) (by rfl) T.gi (by decide +kernel) (pa_cons (pv 2) (pa_cons (pe_glob (v := .ref CF) (by rfl) T.gF rfl) pa_nil)))))
              (pw_or (pt_not (pt_val (pe_callB (call_isED T.eB hz hf) (by rfl) T.gi (by decide +kernel) (pa_cons (pv 2) (pa_cons (pe_bltn (v := .ty "ValueError") (by rfl) T.gV (by decide +kernel) rfl) pa_nil)))))
              (pw_or (pt_val (pe_callB (call_isED T.eB hz hf) (by rfl) T.gi (by decide +kernel) (pa_cons (pv 2) (pa_cons (pe_glob (v := .ref CL) (by rfl) EL.g rfl) pa_nil))))
              (pw_or1 (pt_cmpR op_ne (pe_xf T.xB T.fl hz hf (pv 2)) pe_int (nomark _))))))) (pss_one (ps_ret (pe_tup (pa_cons pe_str (pa_cons pe_int pa_nil))))) pss_nil)
            (pss_one (ps_ret (pe_tup (pa_cons pe_str (pa_cons (pe_xf T.xB T.fc hz hf (pv 2)) pa_nil))))))
        (Clauses.cons (i := 2) ⟨by rfl, by decide +kernel, Or.inl EL.g⟩ rfl rfl (fun a oe cls d pn hz hf =>
            pss_one (ps_ret (pe_ifExp (pt_cmpR (op_eqDK (K := K) rfl hr.units) (pe_tup (pa_cons (pe_xf T.xL T.fw hz hf (pv 2)) (pa_cons (pe_xf T.xL T.fi hz hf (pv 2)) pa_nil))) (pe_tup (pa_cons pe_str (pa_cons pe_int pa_nil))) (nomark _))
              (pe_tup (pa_cons pe_str (pa_cons (pe_xf T.xL T.fn hz hf (pv 2)) pa_nil))) (pe_tup (pa_cons pe_str (pa_cons pe_int pa_nil)))))) Clauses.nil)))
      (pss_one (ps_ret (pe_ifExp (pt_val (pe_call IR.G (hr.mono (by decide)) (by rfl) IR.g IR.kp IR.b .nil pass0 (pa_cons (pv 1) pa_nil))) (pe_tup (pa_cons pe_str (pa_cons (pv 1) pa_nil))) (pe_tup (pa_cons pe_str (pa_cons pe_int pa_nil)))))), ?_⟩
    generalize hcs : t.cps.toList = cs at *
    refine ⟨fun σ' H' => ∃ (a b : Int) (p : Addr), σ' = [some (.str t), some (.ref p), none] ∧ Same H H' ∧ H' p = some (.tup [.int a, .int b]) ∧ out cs = .ratio a b, ?_, ?_⟩
    · refine ⟨_, rfl, .inl ⟨t, rfl, tl, ?_⟩⟩
      rw [hcs]
      cases ho : out cs with
      | text n =>
        intro d H' hd hs he
        refine ⟨true, T.mBB, fun _ a ha => ?_, fun q => nomatch q⟩
        refine ⟨_, rfl, _, .ref CF, true, d, _, rfl, rfl, rfl, he, (fun u r => r), T.bF, true, rfl, iteF ?_⟩
        refine ⟨_, rfl, _, .type "ValueError", true, d, _, rfl, rfl, rfl, he, (fun u r => r), T.bV, true, rfl, iteF ?_⟩
        refine ⟨_, rfl, _, .ref CL, false, d, _, rfl, rfl, rfl, he, (fun u r => r), T.bL, false, rfl, iteF ?_⟩
        refine ⟨_, rfl, rfl, rfl, d, _, _, rfl, he, look_line _ _, rfl, _, rfl, iteF ?_⟩
        refine ⟨_, rfl, rfl, rfl, d, _, _, rfl, he, look_col _ _, by show 2 ≤ sizeLine; decide, fun p hp => k p _ (hs.trans (same_new hp)) ?_⟩
        rw [ho]
        exact upd_same
      | large n =>
        intro d H' hd hs he
        refine ⟨false, T.mLB, (fun q => nomatch q), fun _ => ⟨true, T.mLL, fun _ a ha => ?_, (fun q => nomatch q)⟩⟩
        refine ⟨_, rfl, rfl, rfl, d, _, _, rfl, he, look_what _, _, rfl, rfl, rfl, d, _, _, rfl, he, look_limit _, by show 2 ≤ sizeLine; decide, fun p hp => ⟨by show 2 ≤ sizeLine; decide, fun q hq => ?_⟩⟩
        have s2 := (same_new (o := .tup [.str "digits", .int 4000]) hp).trans (same_new (o := .tup [.str "digits", .int 4000]) hq)
        have d1 : DpAll K (upd (upd H' p (.tup [.str "digits", .int 4000])) q (.tup [.str "digits", .int 4000])) [V.str "digits", V.int 4000] [.str "digits", .int 4000] := .cons (.str _) (.cons (.int _) .nil)
        refine ⟨.tuple [.str "digits", .int 4000], .tuple [.str "digits", .int 4000], .tup (Or.inl (Or.inl (by rw [upd_ne (ne_of_none upd_same hq)]; exact upd_same))) d1, .tup (Or.inl (Or.inl upd_same)) d1, by decide +kernel, by decide +kernel, true, ?_, iteT ?_⟩
        · exact congrArg V.bl (SeqAt.eqv_refl _ (by decide +kernel))
        · refine ⟨_, rfl, rfl, rfl, d, _, _, rfl, s2 _ _ he, look_number _, by show 2 ≤ sizeLine; decide, fun r hr => k r _ ((hs.trans s2).trans (same_new hr)) ?_⟩
          rw [ho]
          exact upd_same
      | ratio a b =>
        intro p H' hs he
        exact ⟨a, b, p, rfl, hs, he, rfl⟩
    · rintro σ1 H1 ⟨a, b, p, rfl, hs, hp, ho⟩
      obtain ⟨o1, o2, o3, o4⟩ : outOk (.ratio a b) := ho ▸ out_ok cs
      refine ⟨_, rfl, p, a, b, rfl, hp, o1, o2, o3, o4, true, rfl, iteT ?_⟩
      refine ⟨_, rfl, by show 2 ≤ sizeLine; decide, fun q hq => k q _ (hs.trans (same_new hq)) ?_⟩
      rw [ho]
      refine ⟨p, upd_same, ?_⟩
      rw [upd_ne (ne_of_none hp hq)]
      exact hp
end
end Fk

namespace Fk
open PySem L2
/-! ### begin, bent: texts are made -/
abbrev sBegin : Stmt := top 24
abbrev sBent : Stmt := top 25
abbrev psP : List Str := ["_law_pen_here"]
abbrev psPT : List Str := ["_law_pen_here", "_law_text"]
theorem mem_strs {xs : List Str} {i : Nat} {x : V} {n : Nat} (h : (xs.map V.str)[i]? = some x) (hn : ∀ z ∈ xs, z.length ≤ n) : ∃ z : Str, x = .str z ∧ z.length ≤ n := by
  rw [List.getElem?_map] at h
  cases e : xs[i]? with
  | none =>
    rw [e] at h
    cases h
  | some z =>
    rw [e] at h
    exact ⟨z, (Option.some.inj h).symm, hn z (List.mem_of_getElem? e)⟩
theorem mem_ints {xs : List Int} {i : Nat} {x : V} {n : Int} (h : (xs.map V.int)[i]? = some x) (hn : ∀ z ∈ xs, 0 ≤ z ∧ z ≤ n) : ∃ z : Int, x = .int z ∧ 0 ≤ z ∧ z ≤ n := by
  rw [List.getElem?_map] at h
  cases e : xs[i]? with
  | none =>
    rw [e] at h
    cases h
  | some z =>
    rw [e] at h
    exact ⟨z, (Option.some.inj h).symm, (hn z (List.mem_of_getElem? e)).1, (hn z (List.mem_of_getElem? e)).2⟩
theorem ints3 {a : Int} {i : Nat} {x : V} (h : ([V.int a, .int 4301, .int 6000] : List V)[i]? = some x) (h0 : 0 ≤ a) (h1 : a ≤ 6000) : ∃ z : Int, x = .int z ∧ 0 ≤ z ∧ z ≤ 6000 := by
  refine mem_ints (xs := [a, 4301, 6000]) h fun z hz => ?_
  simp only [List.mem_cons, List.not_mem_nil, or_false] at hz
  omega
theorem mul_ok {x : Str} {n : Int} (h1 : x.length ≤ 1) (n0 : 0 ≤ n) (n1 : n ≤ 6000) : MulOk x n ∧ (Txt.mul x n).length ≤ n.toNat := by
  have sz : sizeLine ≥ 6000 := by decide
  have h63 : (6000 : Int) < 2 ^ 63 := by decide
  refine ⟨⟨?_, fun hn _ => ?_, fun _ _ => ?_⟩, ?_⟩
  · rw [Bool.or_eq_false_iff]
    exact ⟨decide_eq_false (by omega), decide_eq_false (by omega)⟩
  · have : (1 : Int) ≤ (2 ^ 63 - 1) / n := by
      refine (Int.le_ediv_iff_mul_le (by omega)).mpr ?_
      omega
    omega
  · show decide (x.length * n.toNat > sizeLine) = false
    refine decide_eq_false ?_
    have : x.length * n.toNat ≤ 1 * 6000 := Nat.mul_le_mul h1 (by omega)
    omega
  · have z := PyProof.Rows.len_mul x n
    rw [if_neg (by simpa using n0)] at z
    have : (x.length : Int) * n ≤ 1 * n := Int.mul_le_mul_of_nonneg_right (by omega) n0
    omega
theorem str_len {i : Int} (h0 : 0 ≤ i) (h1 : i < 10 ^ 60) : i.natAbs.log2 < 1920 ∧ (Str.ofString (toString i)).length ≤ 60 := by
  obtain ⟨m, rfl⟩ : ∃ m : Nat, i = (m : Int) := ⟨i.toNat, by omega⟩
  have m60 : m < 10 ^ 60 := by omega
  constructor
  · rw [Int.natAbs_natCast]
    by_cases hm : m = 0
    · rw [hm]
      decide
    · exact Nat.lt_of_lt_of_le ((Nat.log2_lt hm).mpr (Nat.lt_trans m60 (show (10 : Nat) ^ 60 < 2 ^ 200 by decide))) (by decide)
  · have el : (Str.ofString (toString (m : Int))).length = (TL.numL m).length := by
      rw [← TL.tl_num m]
      rfl
    rw [el]
    exact TL.numL_len (by decide) m60
def spBegin : Sp := fun vs H Q _ => ∃ (p l : Addr) (c : Int), vs = [.ref p] ∧ PenAt H p l c ∧ c < 500000000 ∧ ∀ (t : Str) (c' : Int) (H' : Hp), t.length ≤ 13000 → c ≤ c' → c' ≤ c + 80 → PenAt H' p l c' → Keep p H H' → Q (.str t) H'
def spBent : Sp := fun vs H Q _ => ∃ (p l : Addr) (c : Int) (t : Str), vs = [.ref p, .str t] ∧ PenAt H p l c ∧ c < 500000000 ∧ t.length ≤ 15000 ∧ ∀ (t' : Str) (c' : Int) (H' : Hp), t'.length ≤ t.length + 1 → c ≤ c' → c' ≤ c + 80 → PenAt H' p l c' → Keep p H H' → Q (.str t') H'
section
variable {P : Program} {w : World} {K : PySem.W.Frag} {mg : Str → Option Value} {base : Heap}
theorem scBegin : FnScope ["_law_pen_here", "_law_way", "_law_zeros", "_law_top", "_law_bottom", "_law_text"] psP (defScope sBegin) := ⟨rfl, rfl, rfl, by decide +kernel, rfl, by decide +kernel, by decide +kernel⟩
theorem ok_begin {f fD fP fB : Addr} {fd fdD fdP fdB : FuncData} (F : Fun K "_law_begin" "_law_begin" sBegin f fd) (ms : mg "str" = none)
    (D : Cl P w K mg base "_law_draw" psDraw 1 spDraw fD fdD) (C : Cl P w K mg base "_law_pick" psPick 2 spPick fP fdP) (B : Cl P w K mg base "_law_big" psBig 3 spBig fB fdB) : FnOk P w K mg base CX0 4 f fd psP spBegin := by
  refine F.ok scBegin (fun vs H Q E h => ?_) (fun cdv A outer s H vs Q E hr h => ?_)
  · obtain ⟨p, l, c, rfl, _⟩ := h
    rfl
  · obtain ⟨p, l, c, rfl, hp, c1, k⟩ := h
    have hr1 : Room 1 _ := hr.mono (by decide)
    have hr2 : Room 2 _ := hr.mono (by decide)
    refine ⟨_, pss_cons (ps_set (i := 1) scBegin.nd rfl (Or.inl rfl) (pe_call D.G hr1 (by rfl) D.g D.kp D.b .nil pass0 (pa_cons (pv 0) (pa_cons pe_int pa_nil))))
      (pss_cons (ps_if (pt_cmpR op_eq (pv 1) pe_int (nomark _)) (pss_one (ps_ret (pe_call C.G hr2 (by rfl) C.g C.kp C.b .nil pass0 (pa_cons (pv 0) (pa_cons (pe_lst (pa_cons pe_str (pa_cons pe_str (pa_cons pe_str (pa_cons pe_str (pa_cons pe_str (pa_cons pe_str (pa_cons pe_str (pa_cons pe_str (pa_cons pe_str (pa_cons pe_str (pa_cons pe_str pa_nil)))))))))))) pa_nil))))) pss_nil)
      (pss_cons (ps_set (i := 2) scBegin.nd rfl (Or.inl rfl) (pe_op op_mulS pe_str (pe_call C.G hr2 (by rfl) C.g C.kp C.b .nil pass0 (pa_cons (pv 0) (pa_cons (pe_lst (pa_cons pe_int (pa_cons pe_int (pa_cons pe_int (pa_cons pe_int (pa_cons pe_int pa_nil)))))) pa_nil)))))
      (pss_cons (ps_par (i := 3) (j := 4) (by rfl) scBegin.nd rfl rfl (by decide) rfl rfl (pa_cons (pe_callTy call_str_int (by rfl) ms (by decide +kernel) (pa_cons (pe_call B.G hr (by rfl) B.g B.kp B.b .nil pass0 (pa_cons (pv 0) (pa_cons pe_int pa_nil))) pa_nil))
          (pa_cons (pe_callTy call_str_int (by rfl) ms (by decide +kernel) (pa_cons (pe_op op_add pe_int (pe_call B.G hr (by rfl) B.g B.kp B.b .nil pass0 (pa_cons (pv 0) (pa_cons pe_int pa_nil)))) pa_nil)) pa_nil)) (by rfl))
      (C8.pss_cut (ps_if (pt_cmpR op_eq (pv 1) pe_int (nomark _)) (pss_one (ps_set (i := 3) scBegin.nd rfl (Or.inl rfl) (pe_op op_mulS (pe_call C.G hr2 (by rfl) C.g C.kp C.b .nil pass0 (pa_cons (pv 0) (pa_cons (pe_lst (pa_cons pe_str (pa_cons pe_str (pa_cons pe_str pa_nil)))) pa_nil)))
          (pe_call C.G hr2 (by rfl) C.g C.kp C.b .nil pass0 (pa_cons (pv 0) (pa_cons (pe_lst (pa_cons (pe_op op_add pe_int (pe_call D.G hr1 (by rfl) D.g D.kp D.b .nil pass0 (pa_cons (pv 0) (pa_cons pe_int pa_nil)))) (pa_cons pe_int (pa_cons pe_int pa_nil)))) pa_nil)))))) pss_nil)
      (C8.pss_cut (ps_if (PW.pt (pw_or (pt_cmpR op_eq (pv 1) pe_int (nomark _)) (pw_or1 (PW.pt (pw_and (pt_cmpR op_eq (pv 1) pe_int (nomark _)) (pw_and1 (pt_cmpR op_eq (pe_call D.G hr1 (by rfl) D.g D.kp D.b .nil pass0 (pa_cons (pv 0) (pa_cons pe_int pa_nil))) pe_int (nomark _)))))))) (pss_one (ps_set (i := 4) scBegin.nd rfl (Or.inl rfl) (pe_op op_mulS (pe_call C.G hr2 (by rfl) C.g C.kp C.b .nil pass0 (pa_cons (pv 0) (pa_cons (pe_lst (pa_cons pe_str (pa_cons pe_str (pa_cons pe_str pa_nil)))) pa_nil)))
          (pe_call C.G hr2 (by rfl) C.g C.kp C.b .nil pass0 (pa_cons (pv 0) (pa_cons (pe_lst (pa_cons (pe_op op_add pe_int (pe_call D.G hr1 (by rfl) D.g D.kp D.b .nil pass0 (pa_cons (pv 0) (pa_cons pe_int pa_nil)))) (pa_cons pe_int (pa_cons pe_int pa_nil)))) pa_nil)))))) pss_nil)
      (C8.pss_cut (ps_set (i := 5) scBegin.nd rfl (Or.inl rfl) (pe_ifExp (pt_cmpR op_eq (pv 1) pe_int (nomark _)) (pe_op op_add_str (pv 2) (pv 3)) (pe_op op_add_str (pe_op op_add_str (pe_op op_add_str (pv 3) pe_str) (pe_slice sl_str (pv 2) po_none (po_some pe_int))) (pv 4))))
      (pss_one (ps_ret (pe_op op_add_str (pe_call C.G hr2 (by rfl) C.g C.kp C.b .nil pass0 (pa_cons (pv 0) (pa_cons (pe_lst (pa_cons pe_str (pa_cons pe_str (pa_cons pe_str pa_nil)))) pa_nil))) (pv 5)))))))))), ?_⟩
    refine ⟨_, rfl, p, l, c, 6, rfl, hp, by omega, by decide, by decide, fun wy H1 w0 w1 P1 k1 => ?_⟩
    refine ⟨_, rfl, rfl, _, rfl, ite2 (fun h => ?_) (fun h => ?_)⟩
    · refine ⟨_, rfl, by show 11 ≤ sizeLine; decide, fun q hq => ?_⟩
      refine ⟨p, l, q, c + 1, _, rfl, P1.upd hq, by omega, upd_same, by show 0 < 11; decide, by show 11 ≤ 1000; decide, fun i x H2 hx P2 k2 => ?_⟩
      obtain ⟨z, rfl, zl⟩ := mem_strs (xs := ["", "-", "0", "-0", "1/", "/2", "00/7", "5/0", "-3/000", "12/35", "7"]) (n := 13000) hx (by decide +kernel)
      exact k z _ H2 zl (by omega) (by omega) P2 ((k1.trans (Keep.new hq)).trans k2)
    · clear h
      refine ⟨_, rfl, by show 5 ≤ sizeLine; decide, fun q hq => ?_⟩
      refine ⟨p, l, q, c + 1, _, rfl, P1.upd hq, by omega, upd_same, by show 0 < 5; decide, by show 5 ≤ 1000; decide, fun i x H2 hx P2 k2 => ?_⟩
      obtain ⟨n, rfl, n0, n1⟩ := mem_ints (xs := [0, 0, 0, 1, 3]) (n := 3) hx (by decide)
      have kk2 : Keep p H H2 := (k1.trans (Keep.new hq)).trans k2
      obtain ⟨m1, m2⟩ := mul_ok (x := "0") (n := n) (by decide +kernel) n0 (by omega)
      refine ⟨_, n, rfl, rfl, m1, ?_⟩
      generalize Txt.mul "0" n = zs at m2 ⊢
      refine ⟨_, rfl, p, l, c + 1 + 1, 40, rfl, P2, by omega, by decide, by decide, fun r1 c3 H3 r10 r11 c30 c31 P3 k3 => ?_⟩
      obtain ⟨l1, l2⟩ := str_len r10 (Int.lt_of_lt_of_le r11 (by decide))
      refine ⟨r1, rfl, l1, ?_⟩
      generalize Str.ofString (toString r1) = ts at l2 ⊢
      refine ⟨_, rfl, p, l, c3, 30, rfl, P3, by omega, by decide, by decide, fun r2 c4 H4 r20 r21 c40 c41 P4 k4 => ?_⟩
      have r22 : r2 < 10 ^ 30 := r21
      obtain ⟨l3, l4⟩ := str_len (i := 1 + r2) (by omega) (by omega)
      refine ⟨_, _, rfl, rfl, _, rfl, l3, _, _, rfl, ?_⟩
      generalize Str.ofString (toString (1 + r2)) = bs at l4 ⊢
      have kk4 : Keep p H H4 := (kk2.trans k3).trans k4
      refine ⟨fun σ' H' => ∃ (tp : Str) (c' : Int), σ' = [some (.ref p), some (.int wy), some (.str zs), some (.str tp), some (.str bs), none] ∧ tp.length ≤ 6000 ∧ c4 ≤ c' ∧ c' ≤ c4 + 3 ∧ PenAt H' p l c' ∧ Keep p H H', ?_, ?_⟩
      · refine ⟨_, rfl, rfl, _, rfl, ite2 (fun h => ?_) (fun h => ⟨ts, c4, rfl, by omega, by omega, by omega, P4, kk4⟩)⟩
        refine ⟨_, rfl, by show 3 ≤ sizeLine; decide, fun q hq => ?_⟩
        refine ⟨p, l, q, c4, _, rfl, P4.upd hq, by omega, upd_same, by show 0 < 3; decide, by show 3 ≤ 1000; decide, fun i x H6 hx P6 k6 => ?_⟩
        obtain ⟨z, rfl, zl⟩ := mem_strs (xs := ["9", "1", "0"]) (n := 1) hx (by decide +kernel)
        refine ⟨_, rfl, _, rfl, p, l, c4 + 1, 6, rfl, P6, by omega, by decide, by decide, fun d H7 d0 d1 P7 k7 => ?_⟩
        refine ⟨_, _, rfl, rfl, by show 3 ≤ sizeLine; decide, fun q2 hq2 => ?_⟩
        refine ⟨p, l, q2, c4 + 1 + 1, _, rfl, P7.upd hq2, by omega, upd_same, by show 0 < 3; decide, by show 3 ≤ 1000; decide, fun i2 x2 H8 hx2 P8 k8 => ?_⟩
        obtain ⟨n2, rfl, n20, n21⟩ := ints3 hx2 (by omega) (by omega)
        obtain ⟨m3, m4⟩ := mul_ok zl n20 n21
        refine ⟨_, n2, rfl, rfl, m3, ?_⟩
        exact ⟨_, c4 + 1 + 1 + 1, rfl, by omega, by omega, by omega, P8, ((((kk4.trans (Keep.new hq)).trans k6).trans k7).trans (Keep.new hq2)).trans k8⟩
      rintro σ5 H5 ⟨tp, c5, rfl, tpl, c50, c51, P5, k5⟩
      refine ⟨fun σ' H' => ∃ (bt : Str) (c' : Int), σ' = [some (.ref p), some (.int wy), some (.str zs), some (.str tp), some (.str bt), none] ∧ bt.length ≤ 6000 ∧ c5 ≤ c' ∧ c' ≤ c5 + 4 ∧ PenAt H' p l c' ∧ Keep p H H', ?_, ?_⟩
      · refine ⟨_, rfl, rfl, _, rfl, ite2 (fun h => ?_) (fun h => ?_)⟩
        · refine iteT ?_
          refine ⟨_, rfl, by show 3 ≤ sizeLine; decide, fun q hq => ?_⟩
          refine ⟨p, l, q, c5, _, rfl, P5.upd hq, by omega, upd_same, by show 0 < 3; decide, by show 3 ≤ 1000; decide, fun i x H6 hx P6 k6 => ?_⟩
          obtain ⟨z, rfl, zl⟩ := mem_strs (xs := ["9", "1", "0"]) (n := 1) hx (by decide +kernel)
          refine ⟨_, rfl, _, rfl, p, l, c5 + 1, 6, rfl, P6, by omega, by decide, by decide, fun d H7 d0 d1 P7 k7 => ?_⟩
          refine ⟨_, _, rfl, rfl, by show 3 ≤ sizeLine; decide, fun q2 hq2 => ?_⟩
          refine ⟨p, l, q2, c5 + 1 + 1, _, rfl, P7.upd hq2, by omega, upd_same, by show 0 < 3; decide, by show 3 ≤ 1000; decide, fun i2 x2 H8 hx2 P8 k8 => ?_⟩
          obtain ⟨n2, rfl, n20, n21⟩ := ints3 hx2 (by omega) (by omega)
          obtain ⟨m3, m4⟩ := mul_ok zl n20 n21
          refine ⟨_, n2, rfl, rfl, m3, ?_⟩
          exact ⟨_, c5 + 1 + 1 + 1, rfl, by omega, by omega, by omega, P8, ((((k5.trans (Keep.new hq)).trans k6).trans k7).trans (Keep.new hq2)).trans k8⟩
        · refine ⟨_, rfl, rfl, _, rfl, ite2 (fun h1 => ?_) (fun h1 => ?_)⟩
          · refine ⟨_, rfl, p, l, c5, 3, rfl, P5, by omega, by decide, by decide, fun d3 H51 d30 d31 P51 k51 => ?_⟩
            refine ⟨rfl, _, rfl, ite2 (fun h2 => ?_) (fun h2 => ?_)⟩
            · refine ⟨_, rfl, by show 3 ≤ sizeLine; decide, fun q hq => ?_⟩
              refine ⟨p, l, q, (c5 + 1), _, rfl, P51.upd hq, by omega, upd_same, by show 0 < 3; decide, by show 3 ≤ 1000; decide, fun i x H6 hx P6 k6 => ?_⟩
              obtain ⟨z, rfl, zl⟩ := mem_strs (xs := ["9", "1", "0"]) (n := 1) hx (by decide +kernel)
              refine ⟨_, rfl, _, rfl, p, l, (c5 + 1) + 1, 6, rfl, P6, by omega, by decide, by decide, fun d H7 d0 d1 P7 k7 => ?_⟩
              refine ⟨_, _, rfl, rfl, by show 3 ≤ sizeLine; decide, fun q2 hq2 => ?_⟩
              refine ⟨p, l, q2, (c5 + 1) + 1 + 1, _, rfl, P7.upd hq2, by omega, upd_same, by show 0 < 3; decide, by show 3 ≤ 1000; decide, fun i2 x2 H8 hx2 P8 k8 => ?_⟩
              obtain ⟨n2, rfl, n20, n21⟩ := ints3 hx2 (by omega) (by omega)
              obtain ⟨m3, m4⟩ := mul_ok zl n20 n21
              refine ⟨_, n2, rfl, rfl, m3, ?_⟩
              exact ⟨_, (c5 + 1) + 1 + 1 + 1, rfl, by omega, by omega, by omega, P8, (((((k5.trans k51).trans (Keep.new hq)).trans k6).trans k7).trans (Keep.new hq2)).trans k8⟩
            · exact ⟨bs, c5 + 1, rfl, by omega, by omega, by omega, P51, k5.trans k51⟩
          · exact iteF ⟨bs, c5, rfl, by omega, by omega, by omega, P5, k5⟩
      rintro σ6 H6 ⟨bt, c6, rfl, btl, c60, c61, P6, k6⟩
      refine ⟨fun σ' H' => ∃ (t : Str), σ' = [some (.ref p), some (.int wy), some (.str zs), some (.str tp), some (.str bt), some (.str t)] ∧ t.length ≤ 12010 ∧ H' = H6, ?_, ?_⟩
      · have sz : sizeLine ≥ 100000 := by decide
        refine ⟨_, rfl, rfl, _, rfl, ite2 (fun h => ?_) (fun h => ?_)⟩
        · refine ⟨_, rfl, _, rfl, _, _, rfl, rfl, by omega, _, rfl, ?_, rfl⟩
          rw [Str.length_append]
          omega
        · have z1 : (tp ++ ("/" : Str)).length = tp.length + 1 := Str.length_append _ _
          have z2 : (cutS zs none (some 2)).length ≤ zs.length := cutS_length _ _ _
          refine ⟨_, rfl, _, _, rfl, rfl, by show tp.length + 1 ≤ sizeLine; omega, _, rfl, _, rfl, zs, rfl, by omega, _, _, rfl, rfl, by omega, ?_⟩
          have z3 : (tp ++ ("/" : Str) ++ cutS zs none (some 2)).length = (tp ++ ("/" : Str)).length + (cutS zs none (some 2)).length := Str.length_append _ _
          refine ⟨_, rfl, _, _, rfl, rfl, by omega, _, rfl, ?_, rfl⟩
          rw [Str.length_append]
          omega
      rintro σ7 H7 ⟨t, rfl, tl, rfl⟩
      refine ⟨_, rfl, by show 3 ≤ sizeLine; decide, fun q3 hq3 => ?_⟩
      refine ⟨p, l, q3, c6, _, rfl, P6.upd hq3, by omega, upd_same, by show 0 < 3; decide, by show 3 ≤ 1000; decide, fun i x H8 hx P8 k8 => ?_⟩
      obtain ⟨z, rfl, zl⟩ := mem_strs (xs := ["", "", "-"]) (n := 1) hx (by decide +kernel)
      have sz : sizeLine ≥ 100000 := by decide
      refine ⟨_, rfl, _, _, rfl, rfl, by omega, k _ (c6 + 1) H8 ?_ (by omega) (by omega) P8 ((k6.trans (Keep.new hq3)).trans k8)⟩
      rw [Str.length_append]
      omega
theorem scBent : FnScope ["_law_pen_here", "_law_text", "_law_signs", "_law_at", "_law_sign"] psPT (defScope sBent) := ⟨rfl, rfl, rfl, by decide +kernel, rfl, by decide +kernel, by decide +kernel⟩
theorem at_some {l : List Nat} {r : Int} (h0 : 0 ≤ r) (h1 : r < l.length) : ∃ c, atI l r = some c := by
  obtain ⟨m, rfl⟩ : ∃ m : Nat, r = (m : Int) := ⟨r.toNat, by omega⟩
  have hm : m < l.length := by omega
  exact ⟨l[m], atI_nat (List.getElem?_eq_getElem hm)⟩
theorem cut_tail (z : Str) (a : Nat) (ha : a ≤ z.length) (d : Nat) : (cutS z (some ((a + d : Nat) : Int)) none).length ≤ z.length - a := by
  rw [← tl_len]
  unfold cutS
  rw [HT.sIx_nat, HT.sIx_none, List.toList_toArray, List.length_take, List.length_drop, tl_len]
  omega
theorem cut_head (z : Str) (a : Nat) (ha : a ≤ z.length) : (cutS z none (some (a : Int))).length = a := by
  rw [← tl_len, cutS_to z ha, List.length_take, tl_len]
  omega
theorem ok_bent {f fD fP : Addr} {fd fdD fdP : FuncData} (F : Fun K "_law_bent" "_law_bent" sBent f fd) (ml : mg "len" = none)
    (D : Cl P w K mg base "_law_draw" psDraw 1 spDraw fD fdD) (C : Cl P w K mg base "_law_pick" psPick 2 spPick fP fdP) : FnOk P w K mg base CX0 3 f fd psPT spBent := by
  refine F.ok scBent (fun vs H Q E h => ?_) (fun cdv A outer s H vs Q E hr h => ?_)
  · obtain ⟨p, l, c, t, rfl, _⟩ := h
    rfl
  · obtain ⟨p, l, c, t, rfl, hp, c1, tl, k⟩ := h
    have hr1 : Room 1 _ := hr.mono (by decide)
    refine ⟨_, pss_cons (ps_set (i := 2) scBent.nd rfl (Or.inl rfl) pe_str)
      (C8.pss_cut (ps_set (i := 3) scBent.nd rfl (Or.inl rfl) (pe_ifExp (pt_cmpR op_gt (pe_call D.G hr1 (by rfl) D.g D.kp D.b .nil pass0 (pa_cons (pv 0) (pa_cons pe_int pa_nil))) pe_int (nomark _))
          (pe_call D.G hr1 (by rfl) D.g D.kp D.b .nil pass0 (pa_cons (pv 0) (pa_cons (pe_op op_add (pe_callB call_len_str (by rfl) ml PySem.boot_len (pa_cons (pv 1) pa_nil)) pe_int) pa_nil))) (pe_callB call_len_str (by rfl) ml PySem.boot_len (pa_cons (pv 1) pa_nil))))
      (pss_cons (ps_set (i := 4) scBent.nd rfl (Or.inl rfl) (pe_call C.G hr (by rfl) C.g C.kp C.b .nil pass0 (pa_cons (pv 0) (pa_cons (pe_lst (pa_cons pe_str (pa_cons (pe_ix ix_str (pv 2) (pe_call D.G hr1 (by rfl) D.g D.kp D.b .nil pass0 (pa_cons (pv 0) (pa_cons (pe_callB call_len_str (by rfl) ml PySem.boot_len (pa_cons (pv 2) pa_nil)) pa_nil))) (fun _ _ => rfl)) (pa_cons pe_str (pa_cons pe_str (pa_cons pe_str (pa_cons pe_str pa_nil))))))) pa_nil))))
      (pss_one (ps_ret (pe_op op_add_str (pe_op op_add_str (pe_slice sl_str (pv 1) po_none (po_some (pv 3))) (pv 4)) (pe_slice sl_str (pv 1) (po_some (pe_op op_add (pv 3) (pe_call D.G hr1 (by rfl) D.g D.kp D.b .nil pass0 (pa_cons (pv 0) (pa_cons pe_int pa_nil))))) po_none)))))), ?_⟩
    have szl : t.length ≤ sizeLine := Nat.le_trans tl (by decide)
    have sz : sizeLine ≥ 100000 := by decide
    refine ⟨fun σ' H' => ∃ (a : Nat) (c' : Int), σ' = [some (.ref p), some (.str t), some (.str " !#$&'()*+,-./0123456789:;<=>?@ABCXYZ[]^_abcexyz{|}~"), some (.int a), none] ∧ a ≤ t.length ∧ c ≤ c' ∧ c' ≤ c + 2 ∧ PenAt H' p l c' ∧ Keep p H H', ?_, ?_⟩
    · refine ⟨_, rfl, p, l, c, 3, rfl, hp, by omega, by decide, by decide, fun d H1 d0 d1 P1 k1 => ?_⟩
      refine ⟨_, _, rfl, rfl, _, rfl, ite2 (fun h => ?_) (fun h => ?_)⟩
      · refine ⟨_, rfl, _, rfl, t, rfl, szl, _, _, rfl, rfl, p, l, c + 1, _, rfl, P1, by omega, by omega, by omega, fun a H2 a0 a1 P2 k2 => ?_⟩
        obtain ⟨m, rfl⟩ : ∃ m : Nat, a = (m : Int) := ⟨a.toNat, by omega⟩
        exact ⟨m, c + 1 + 1, rfl, by omega, by omega, by omega, P2, k1.trans k2⟩
      · exact ⟨_, rfl, t, rfl, szl, t.length, c + 1, rfl, Nat.le_refl _, by omega, by omega, P1, k1⟩
    rintro σ1 H1 ⟨a, c', rfl, al, c2, c3, P1, k1⟩
    have hs : (" !#$&'()*+,-./0123456789:;<=>?@ABCXYZ[]^_abcexyz{|}~" : Str).length ≤ 100 ∧ 0 < (" !#$&'()*+,-./0123456789:;<=>?@ABCXYZ[]^_abcexyz{|}~" : Str).length := by decide +kernel
    generalize hsg : (" !#$&'()*+,-./0123456789:;<=>?@ABCXYZ[]^_abcexyz{|}~" : Str) = sg at hs ⊢
    refine ⟨_, rfl, _, rfl, _, rfl, _, rfl, sg, rfl, by omega, p, l, c', _, rfl, P1, by omega, by omega, by omega, fun r H2 r0 r1 P2 k2 => ?_⟩
    obtain ⟨s0, hs0⟩ := at_some (l := sg.cps.toList) r0 (by rw [tl_len]; exact r1)
    refine ⟨sg, r, s0, rfl, rfl, by omega, hs0, by show 6 ≤ sizeLine; decide, fun q hq => ?_⟩
    refine ⟨p, l, q, c' + 1, _, rfl, P2.upd hq, by omega, upd_same, by show 0 < 6; decide, by show 6 ≤ 1000; decide, fun i x H3 hx P3 k3 => ?_⟩
    obtain ⟨z, rfl, zl⟩ := mem_strs (xs := ["", ⟨#[s0]⟩, "/", "0", "-", "\n"]) (n := 1) hx (fun z hz => by
      simp only [List.mem_cons, List.not_mem_nil, or_false] at hz
      rcases hz with rfl | rfl | rfl | rfl | rfl | rfl
      · exact Nat.zero_le _
      · exact Nat.le_refl 1
      · decide +kernel
      · decide +kernel
      · decide +kernel
      · decide +kernel)
    have e1 := cut_head t a al
    refine ⟨_, rfl, _, rfl, _, rfl, t, rfl, szl, _, rfl, _, _, rfl, rfl, by omega, ?_⟩
    have e2 : (cutS t none (some (a : Int)) ++ z).length = (cutS t none (some (a : Int))).length + z.length := Str.length_append _ _
    refine ⟨_, rfl, _, rfl, _, rfl, p, l, c' + 1 + 1, 2, rfl, P3, by omega, by decide, by decide, fun d H4 d0 d1 P4 k4 => ?_⟩
    obtain ⟨m, rfl⟩ : ∃ m : Nat, d = (m : Int) := ⟨d.toNat, by omega⟩
    have e3 : (cutS t (some ((a : Int) + (m : Int))) none).length ≤ t.length - a := cut_tail t a al m
    refine ⟨_, _, rfl, rfl, _, rfl, t, rfl, szl, _, _, rfl, rfl, by omega, k _ (c' + 1 + 1 + 1) H4 ?_ (by omega) (by omega) P4 ((((k1.trans k2).trans (Keep.new hq)).trans k3).trans k4)⟩
    rw [Str.length_append]
    omega
end
end Fk

namespace Fk
open PySem L2
/-! ### the law's own def -/
abbrev sLaw : Stmt := top 26
def dat : Out → PyData
  | .text n => .tuple [.str "text", .int n]
  | .large n => .tuple [.str "large", .int n]
  | .ratio a b => .tuple [.str "ratio", .tuple [.int a, .int b]]
theorem dat_shaped (o : Out) : SeqAt.shaped (dat o) = true := by
  have h1 : PyData.strOk "text" = true := by decide +kernel
  have h2 : PyData.strOk "large" = true := by decide +kernel
  have h3 : PyData.strOk "ratio" = true := by decide +kernel
  cases o <;> simp [dat, SeqAt.shaped, PyData.canLay0, PyData.canLayAll0, h1, h2, h3, PyData.depth, PyData.depthAll]
theorem Told.same {H H' : Hp} {p : Addr} {o : Out} (h : Told H p o) (s : Same H H') : Told H' p o := by
  cases o with
  | text n => exact s _ _ h
  | large n => exact s _ _ h
  | ratio a b =>
    obtain ⟨q, h1, h2⟩ := h
    exact ⟨q, s _ _ h1, s _ _ h2⟩
theorem Told.dp {K : PySem.W.Frag} {H : Hp} {p : Addr} {o : Out} (h : Told H p o) : Dp K H (.ref p) (dat o) := by
  cases o with
  | text n => exact .tup (Or.inl (Or.inl h)) (.cons (.str _) (.cons (.int _) .nil))
  | large n => exact .tup (Or.inl (Or.inl h)) (.cons (.str _) (.cons (.int _) .nil))
  | ratio a b =>
    obtain ⟨q, h1, h2⟩ := h
    exact .tup (Or.inl (Or.inl h1)) (.cons (.str _) (.cons (.tup (Or.inl (Or.inl h2)) (.cons (.int _) (.cons (.int _) .nil))) .nil))
theorem PenAt.same {H H' : Hp} {p l : Addr} {c : Int} (P : PenAt H p l c) (s : Same H H') : PenAt H' p l c := by
  obtain ⟨⟨a, d, f, ns, h1, h2, r⟩, lo⟩ := P
  exact ⟨⟨a, d, f, ns, s _ _ h1, s _ _ h2, r⟩, lo⟩
def spLaw (K : PySem.W.Frag) : Sp := fun vs H Q _ => ∃ (a : Addr) (ns : List Int), vs = [.ref a] ∧ SqL K H a (ns.map V.int) ∧ ns.length ≤ 63 ∧ ∀ H', Q (.bl true) H'
section
variable {P : Program} {w : World} {K : PySem.W.Frag} {mg : Str → Option Value} {base : Heap}
theorem op_neDK {X : Cx} {K : PySem.W.Frag} (hK : X.K = K) (hu : X.A.units + 64 < cLine) : OpR X (compareOp .NotEq) (rNeD K) := hK ▸ op_neD hu
theorem scLaw : FnScope ["_law_script", "_law_pen_here", "_law_turn", "_law_text", "_law_bend", "_law_odd", "_law_told", "e"] ["_law_script"] (defScope sLaw) := ⟨rfl, rfl, rfl, by decide +kernel, rfl, by decide +kernel, by decide +kernel⟩
theorem ok_law {f CF CB CL gB fR fP fG fD fU fN : Addr} {fd dB dR dP dG dD dU dN : FuncData} (F : Fun K "law" "law" sLaw f fd) (T : Kin K mg CF CB CL) (EB : Err P w K mg base "BadText" badFs CB gB dB)
    (RG : FnOk P w K mg base (L2.CX P w) 3 fR dR ["text"] (spRatio K CB CL)) (Rg : mg "ratio_of" = some (.ref fR)) (Rk : PySem.W.keepIn K (.ref fR) = true) (Rb : Binds K dR ["text"] [])
    (Pn : Cl P w K mg base "_law_pen" ["_law_script"] 1 (spPen K) fP dP) (Bg : Cl P w K mg base "_law_begin" psP 4 spBegin fG dG) (Rd : Cl P w K mg base "_law_read" psV 4 spRead fD dD)
    (Du : Cl P w K mg base "_law_due" psT 3 spDue fU dU) (Bn : Cl P w K mg base "_law_bent" psPT 3 spBent fN dN) (mr : mg "range" = none) (mb : mg "bool" = none) : FnOk P w K mg base CX0 5 f fd ["_law_script"] (spLaw K) := by
  refine F.ok scLaw (fun vs H Q E h => ?_) (fun cdv A outer s H vs Q E hr h => ?_)
  · obtain ⟨a, ns, rfl, _⟩ := h
    rfl
  · obtain ⟨a, ns, rfl, hS, hl, k⟩ := h
    have hr3 : Room 3 _ := hr.mono (by decide)
    have hr1 : Room 1 _ := hr.mono (by decide)
    refine ⟨_, pss_cons (ps_set (i := 1) scLaw.nd rfl (Or.inl rfl) (pe_call Pn.G hr1 (by rfl) Pn.g Pn.kp Pn.b .nil pass0 (pa_cons (pv 0) pa_nil)))
      (C8.pss_cut (ps_for PassesOwn.never rfl (pi_range1 (by rfl) mr (pa_cons pe_int pa_nil)) (pg_name (i := 2) scLaw.nd rfl (Or.inl rfl))
        (pss_cons (ps_set (i := 3) scLaw.nd rfl (Or.inl rfl) (pe_call Bg.G hr (by rfl) Bg.g Bg.kp Bg.b .nil pass0 (pa_cons (pv 1) pa_nil)))
        (pss_one (ps_for PassesOwn.never rfl (pi_range1 (by rfl) mr (pa_cons pe_int pa_nil)) (pg_name (i := 4) scLaw.nd rfl (Or.inl rfl))
          (pss_cons (ps_if (pt_cmpR (op_neDK (K := K) rfl hr.units) (pe_call Rd.G hr (by rfl) Rd.g Rd.kp Rd.b .nil pass0 (pa_cons (pv 3) pa_nil)) (pe_call Du.G hr3 (by rfl) Du.g Du.kp Du.b .nil pass0 (pa_cons (pv 3) pa_nil)) (nomark _)) (pss_one (ps_ret pe_bl)) pss_nil)
          (pss_one (ps_set (i := 3) scLaw.nd rfl (Or.inl rfl) (pe_call Bn.G hr3 (by rfl) Bn.g Bn.kp Bn.b .nil pass0 (pa_cons (pv 1) (pa_cons (pv 3) pa_nil))))))))))
      (pss_cons (ps_for PassesOwn.never rfl (pi_list (pe_lst (pa_cons pe_non (pa_cons pe_int (pa_cons (pe_tup (pa_cons pe_int (pa_cons pe_int pa_nil))) (pa_cons (pe_lst (pa_cons pe_str pa_nil)) (pa_cons pe_bl pa_nil))))))) (pg_name (i := 5) scLaw.nd rfl (Or.inl rfl))
        (C8.pss_cut (ps_try_each rfl rfl scLaw.nd takes0
            (fun W pn xe tk _ => pss_cons (ps_expr (pe_callS RG hr3 (by rfl) Rg Rk Rb (passAt tk) (pa_cons (pv 5) pa_nil))) (pss_one (ps_set (i := 6) scLaw.nd rfl (Or.inl rfl) pe_non)))
            (Clauses.cons (i := 7) ⟨by rfl, by decide +kernel, Or.inl EB.g⟩ rfl rfl (fun a oe cls d pn hz hf =>
              pss_one (ps_set (i := 6) scLaw.nd rfl (Or.inl rfl) (pe_tup (pa_cons (pe_xf T.xB T.fl hz hf (pv 7)) (pa_cons (pe_xf T.xB T.fc hz hf (pv 7)) pa_nil))))) Clauses.nil))
        (pss_one (ps_if (PW.pt (pw_or (pt_cmpR (op_neDK (K := K) rfl hr.units) (pv 6) (pe_tup (pa_cons pe_int (pa_cons pe_int pa_nil))) (nomark _)) (pw_or1 (pt_val (pe_callB call_isi (by rfl) T.gi (by decide +kernel) (pa_cons (pe_ix ix_tup (pv 6) pe_int (fun _ _ => rfl)) (pa_cons (pe_bltn (v := .ty "bool") (by rfl) mb (by decide +kernel) rfl) pa_nil))))))) (pss_one (ps_ret pe_bl)) pss_nil))))
      (pss_one (ps_ret pe_bl)))), ?_⟩
    refine ⟨_, rfl, a, ns, rfl, hS, hl, fun p l H1 s1 hp hl1 P1 => ?_⟩
    refine ⟨fun σ' H' => ∃ v2 v3 v4, σ' = [some (.ref a), some (.ref p), v2, v3, v4, none, none, none], ?_, ?_⟩
    · refine ⟨3, rfl, by decide, by decide, ?_⟩
      refine for_range (fun i σ H' => ∃ (v2 v3 v4 : Option V) (c : Int), σ = [some (.ref a), some (.ref p), v2, v3, v4, none, none, none] ∧ PenAt H' p l c ∧ c ≤ 1000 * i) ⟨none, none, none, 0, rfl, P1, by omega⟩ ?_ ?_
      · rintro i σ H2 hi ⟨v2, v3, v4, c, rfl, P2, hc⟩
        refine ⟨_, rfl, p, l, c, rfl, P2, by omega, fun t c3 H3 tl c30 c31 P3 k3 => ?_⟩
        refine ⟨4, rfl, by decide, by decide, ?_⟩
        refine for_range (fun j σ H' => ∃ (v2 v4 : Option V) (t : Str) (c : Int), σ = [some (.ref a), some (.ref p), v2, some (.str t), v4, none, none, none] ∧ PenAt H' p l c ∧ c ≤ 1000 * i + 80 + 80 * j ∧ t.length ≤ 13000 + j) ⟨_, _, t, c3, rfl, P3, by omega, by omega⟩ ?_ ?_
        · rintro j σ H4 hj ⟨v2, v4, t, c4, rfl, P4, hc4, tl4⟩
          refine ⟨_, rfl, t, rfl, by omega, fun p1 H5 s5 t5 => ?_⟩
          refine ⟨_, rfl, t, rfl, by omega, fun p2 H6 s6 t6 => ?_⟩
          refine ⟨dat (out t.cps.toList), dat (out t.cps.toList), (t5.same s6).dp, t6.dp, dat_shaped _, dat_shaped _, _, rfl, ?_⟩
          rw [SeqAt.eqv_refl _ (SeqAt.canLay_of_shaped (dat_shaped _))]
          refine iteF ?_
          refine ⟨_, rfl, _, rfl, p, l, c4, t, rfl, (P4.same s5).same s6, by omega, by omega, fun t7 c7 H7 tl7 c70 c71 P7 k7 => ?_⟩
          exact ⟨_, _, t7, c7, rfl, P7, by omega, by omega⟩
        · rintro σ H4 ⟨v2, v4, t, c4, rfl, P4, hc4, tl4⟩
          exact ⟨_, _, _, c4, rfl, P4, by omega⟩
      · rintro σ H2 ⟨v2, v3, v4, c, rfl, P2, hc⟩
        exact ⟨v2, v3, v4, rfl⟩
    rintro σ1 H2 ⟨v2, v3, v4, rfl⟩
    clear P1 s1 hp hl1
    refine ⟨by show 2 ≤ sizeLine; decide, fun tp htp => ⟨by show 1 ≤ sizeLine; decide, fun lp hlp => ⟨by show 5 ≤ sizeLine; decide, fun q hq => ⟨q, rfl, ⟨_, Or.inl (Or.inl upd_same)⟩, ?_⟩⟩⟩⟩
    have xq : (upd (upd (upd H2 tp (.tup [.int 1, .int 2])) lp (.lst [.str "1"])) q (.lst [.non, .int 3, .ref tp, .ref lp, .bl true])) q = some (.lst [.non, .int 3, .ref tp, .ref lp, .bl true]) := upd_same
    have xl : (upd (upd (upd H2 tp (.tup [.int 1, .int 2])) lp (.lst [.str "1"])) q (.lst [.non, .int 3, .ref tp, .ref lp, .bl true])) lp = some (.lst [.str "1"]) := same_new hq _ _ upd_same
    have xt : (upd (upd (upd H2 tp (.tup [.int 1, .int 2])) lp (.lst [.str "1"])) q (.lst [.non, .int 3, .ref tp, .ref lp, .bl true])) tp = some (.tup [.int 1, .int 2]) := same_new hq _ _ (same_new hlp _ _ upd_same)
    generalize upd (upd (upd H2 tp (.tup [.int 1, .int 2])) lp (.lst [.str "1"])) q (.lst [.non, .int 3, .ref tp, .ref lp, .bl true]) = H3 at xq xl xt
    refine for_list (K := K) (a := q) (xs := [.non, .int 3, .ref tp, .ref lp, .bl true]) (fun i σ H' => Same H3 H' ∧ ∃ (v2 v3 v4 v5 v6 : Option V), σ = [some (.ref a), some (.ref p), v2, v3, v4, v5, v6, none]) ⟨Same.refl _, _, _, _, _, _, rfl⟩ (fun i σ H' _ ⟨s, _⟩ => Or.inl (Or.inl (s _ _ xq))) ?_ ?_
    · rintro i x σ H4 hx ⟨s4, v2, v3, v4, v5, v6, rfl⟩
      have hty : ∃ ty, TyX K H4 x ty ∧ PySem.W.kitOne K ty (.type "str") = some false := by
        match i, hx with
        | 0, hx =>
          cases hx
          exact ⟨_, .base .non, kit_ty (by decide)⟩
        | 1, hx =>
          cases hx
          exact ⟨_, .base (.int 3), kit_ty (by decide)⟩
        | 2, hx =>
          cases hx
          exact ⟨_, .base (.tup (s4 _ _ xt)), kit_ty (by decide)⟩
        | 3, hx =>
          cases hx
          exact ⟨_, .base (.lst (s4 _ _ xl)), kit_ty (by decide)⟩
        | 4, hx =>
          cases hx
          exact ⟨_, .base (.bl true), kit_ty (by decide)⟩
        | j + 5, hx => cases hx
      obtain ⟨ty, hty, hkit⟩ := hty
      refine ⟨fun σ' H' => Same H3 H' ∧ ∃ (u : Addr) (v2 v3 v4 v5 : Option V), σ' = [some (.ref a), some (.ref p), v2, v3, v4, v5, some (.ref u), none] ∧ H' u = some (.tup [.int 0, .int 0]), ?_, ?_⟩
      · refine ⟨_, rfl, .inr ⟨x, ty, rfl, hty, hkit, fun d H5 hd s5 he => ?_⟩⟩
        refine ⟨true, T.mBB, fun _ b hb => ?_, fun z => nomatch z⟩
        refine ⟨_, rfl, rfl, rfl, d, _, _, rfl, he, look_line _ _, _, rfl, rfl, rfl, d, _, _, rfl, he, look_col _ _, by show 2 ≤ sizeLine; decide, fun u hu => ?_⟩
        exact ⟨(s4.trans s5).trans (same_new hu), u, _, _, _, _, rfl, upd_same⟩
      · rintro σ5 H5 ⟨s5, u, v2, v3, v4, v5, rfl, hu⟩
        refine ⟨_, rfl, by show 2 ≤ sizeLine; decide, fun z hz => ?_⟩
        have s6 := s5.trans (same_new (o := .tup [.int 0, .int 0]) hz)
        have dd : DpAll K (upd H5 z (.tup [.int 0, .int 0])) [V.int 0, V.int 0] [.int 0, .int 0] := .cons (.int _) (.cons (.int _) .nil)
        have hu6 := same_new (o := .tup [.int 0, .int 0]) hz _ _ hu
        refine ⟨.tuple [.int 0, .int 0], .tuple [.int 0, .int 0], .tup (Or.inl (Or.inl hu6)) dd, .tup (Or.inl (Or.inl upd_same)) dd, by decide +kernel, by decide +kernel, false, ?_, iteF ?_⟩
        · exact congrArg V.bl (by rw [SeqAt.eqv_refl _ (by decide +kernel)]; rfl)
        · refine ⟨_, rfl, u, _, 0, _, rfl, rfl, Or.inl (Or.inl hu6), rfl, _, _, _, _, false, rfl, .ty _, .base (.int 0), kit_ty (by decide), false, rfl, iteF ?_⟩
          exact ⟨s6, _, _, _, _, _, rfl⟩
    · rintro σ H4 ⟨s4, v2, v3, v4, v5, v6, rfl⟩
      exact k H4
end
end Fk

namespace Fk
open PySem L2
def oexB (K : PySem.W.Frag) (C : Addr) : Bool := match K.lookup C with
  | some ⟨.type "type", _, .cls cd, sl⟩ => (match cd.mro, sl.toList with
    | .ref C' :: bm, [_, _, _, _, some (.builtin n), _] => C' == C && (n == "ValueError.__new__" && (!cd.hasDel && (cd.hasDict && PySem.HandSPX.refsVE bm)))
    | _, _ => false)
  | _ => false
def oexB2 (K : PySem.W.Frag) (C : Addr) : Bool := oexB K C && (decide (PySem.W.findIn K (.ref C) "__setattr__" = some (some (.builtin "object.__setattr__"))) && (decide (PySem.W.subIn K (.ref C) (.type "BaseException") = some true) && (decide (PySem.W.typeIn K (.ref C) = some (.type "type")) && PySem.W.keepIn K (.ref C))))
theorem oexB_ok {K : PySem.W.Frag} {C : Addr} (q : oexB K C = true) : ∃ nm q N bs bm sn sub ab col dd k0 k1 k2 k3 k5, K.lookup C = some (excClassObj nm q C N bs bm true sn sub ab col dd k0 k1 k2 k3 k5 "ValueError.__new__") ∧ PySem.HandSPX.refsVE bm = true := by
  unfold oexB at q
  split at q
  · rename_i dd cd sl ho
    split at q
    · rename_i D bm s0 s1 s2 s3 n s5 hm hs
      simp only [Bool.and_eq_true, beq_iff_eq, Bool.not_eq_true'] at q
      obtain ⟨rfl, rfl, g1, g2, g3⟩ := q
      obtain ⟨w1, w2, w3, w4, w5, w6, w7, w8, w9, w10, w11⟩ := cd
      dsimp only at hm g1 g2
      subst hm g1 g2
      obtain ⟨ls⟩ := sl
      dsimp only at hs
      subst hs
      exact ⟨_, _, _, _, _, _, _, _, _, _, _, _, _, _, _, ho, g3⟩
    · cases q
  · cases q
theorem oexB2_ok {K : PySem.W.Frag} {C : Addr} (h : oexB2 K C = true) : OexC K C := by
  unfold oexB2 at h
  simp only [Bool.and_eq_true, decide_eq_true_eq] at h
  obtain ⟨h1, h2, h3, h4, h5⟩ := h
  exact ⟨oexB_ok h1, h2, h3, h4, h5⟩
def excBl (K : PySem.W.Frag) (C : Addr) : Bool :=
  decide (PySem.W.findIn K (.ref C) "__getattribute__" = some (some (.builtin "BaseException.__getattribute__"))) && (decide (PySem.W.findIn K (.ref C) "__getattr__" = some none) && (decide (PySem.W.subIn K (.ref C) (.type "BaseException") = some true) &&
  (PySem.W.hasDictIn K C && (decide (PySem.W.findIn K (.ref C) "__class__" = some (some (.builtin "object.__class__"))) && decide (PySem.W.mroIn K C (.type "object") = some true)))))
def looks0 (K : PySem.W.Frag) (CF CB CL : Addr) : Bool :=
  oexB2 K CB && (oexB2 K CL && (excBl K CB && (xfB K CB && (xfB K CL && (decide (PySem.W.kitOne K (.ref CB) (.ref CF) = some true) && (decide (PySem.W.kitOne K (.ref CB) (.type "ValueError") = some true) && (decide (PySem.W.kitOne K (.ref CB) (.ref CL) = some false) &&
  (decide (PySem.W.exmOne K (.ref CB) (.ref CB) = some true) && (decide (PySem.W.exmOne K (.ref CL) (.ref CB) = some false) && decide (PySem.W.exmOne K (.ref CL) (.ref CL) = some true))))))))))
theorem all_mk {l : PySem.W.OpenLaw} {w : World} {K : PySem.W.Frag} {h : Heap} {mg : Str → Option Value} {fa CF CB CL gB gL f_law f_lowest f_dend f_ratio f_pen f_draw f_pick f_big f_gcd f_q f_whole f_isr f_ldend f_due f_read f_begin f_bent : Addr} {eB eL d_lowest d_dend d_ratio d_pen d_draw d_pick d_big d_gcd d_q d_whole d_isr d_ldend d_due d_read d_begin d_bent : FuncData} {t1 t2 : Tok} {od an : Option Addr} {sl : Array (Option Value)} {oc kV dc pm cd ct : Value}
    (X : K.In h) (G : h.Ns mainGlobals mg) (hfa : mg "law" = some (.ref fa))
    (a_lowest : PySem.W.nsIn K mainGlobals "lowest" = some (some (.ref f_lowest)))
    (F_lowest : Fun K "lowest" "lowest" sLowest f_lowest d_lowest)
    (a_dend : PySem.W.nsIn K mainGlobals "digits_end" = some (some (.ref f_dend)))
    (F_dend : Fun K "digits_end" "digits_end" sDend f_dend d_dend)
    (a_ratio : PySem.W.nsIn K mainGlobals "ratio_of" = some (some (.ref f_ratio)))
    (F_ratio : Fun K "ratio_of" "ratio_of" sRatio f_ratio d_ratio)
    (a_pen : PySem.W.nsIn K mainGlobals "_law_pen" = some (some (.ref f_pen)))
    (F_pen : Fun K "_law_pen" "_law_pen" sPen f_pen d_pen)
    (a_draw : PySem.W.nsIn K mainGlobals "_law_draw" = some (some (.ref f_draw)))
    (F_draw : Fun K "_law_draw" "_law_draw" sDraw f_draw d_draw)
    (a_pick : PySem.W.nsIn K mainGlobals "_law_pick" = some (some (.ref f_pick)))
    (F_pick : Fun K "_law_pick" "_law_pick" sPick f_pick d_pick)
    (a_big : PySem.W.nsIn K mainGlobals "_law_big" = some (some (.ref f_big)))
    (F_big : Fun K "_law_big" "_law_big" sBig f_big d_big)
    (a_gcd : PySem.W.nsIn K mainGlobals "_law_gcd" = some (some (.ref f_gcd)))
    (F_gcd : Fun K "_law_gcd" "_law_gcd" sGcd f_gcd d_gcd)
    (a_q : PySem.W.nsIn K mainGlobals "_law_q" = some (some (.ref f_q)))
    (F_q : Fun K "_law_q" "_law_q" sQ f_q d_q)
    (a_whole : PySem.W.nsIn K mainGlobals "_law_is_whole" = some (some (.ref f_whole)))
    (F_whole : Fun K "_law_is_whole" "_law_is_whole" sWhole f_whole d_whole)
    (a_isr : PySem.W.nsIn K mainGlobals "_law_is_ratio" = some (some (.ref f_isr)))
    (F_isr : Fun K "_law_is_ratio" "_law_is_ratio" sIsRatio f_isr d_isr)
    (a_ldend : PySem.W.nsIn K mainGlobals "_law_digits_end" = some (some (.ref f_ldend)))
    (F_ldend : Fun K "_law_digits_end" "_law_digits_end" sLDend f_ldend d_ldend)
    (a_due : PySem.W.nsIn K mainGlobals "_law_due" = some (some (.ref f_due)))
    (F_due : Fun K "_law_due" "_law_due" sDue f_due d_due)
    (a_read : PySem.W.nsIn K mainGlobals "_law_read" = some (some (.ref f_read)))
    (F_read : Fun K "_law_read" "_law_read" sRead f_read d_read)
    (a_begin : PySem.W.nsIn K mainGlobals "_law_begin" = some (some (.ref f_begin)))
    (F_begin : Fun K "_law_begin" "_law_begin" sBegin f_begin d_begin)
    (a_bent : PySem.W.nsIn K mainGlobals "_law_bent" = some (some (.ref f_bent)))
    (F_bent : Fun K "_law_bent" "_law_bent" sBent f_bent d_bent)
    (a_law : PySem.W.nsIn K mainGlobals "law" = some (some (.ref f_law)))
    (g_gcd : PySem.W.nsIn K mainGlobals "gcd" = some (some (.builtin "math.gcd")))
    (g_dig : PySem.W.nsIn K mainGlobals "DIGITS" = some (some (.str digs t1)))
    (g_most : PySem.W.nsIn K mainGlobals "MOST_DIGITS" = some (some (.int 4000 t2)))
    (g_F : PySem.W.nsIn K mainGlobals "FoeError" = some (some (.ref CF)))
    (g_B : PySem.W.nsIn K mainGlobals "BadText" = some (some (.ref CB)))
    (i_B : PySem.W.findIn K (.ref CB) "__init__" = some (some (.ref gB)))
    (t_B : PySem.W.typeIn K (.ref gB) = some (.type "function"))
    (IB : Fun K "__init__" "BadText.__init__" sIBadText gB eB)
    (nB_line : PySem.W.findIn K (.ref CB) "line" = some none)
    (nB_column : PySem.W.findIn K (.ref CB) "column" = some none)
    (g_L : PySem.W.nsIn K mainGlobals "TooLarge" = some (some (.ref CL)))
    (i_L : PySem.W.findIn K (.ref CL) "__init__" = some (some (.ref gL)))
    (t_L : PySem.W.typeIn K (.ref gL) = some (.type "function"))
    (IL : Fun K "__init__" "TooLarge.__init__" sITooLarge gL eL)
    (nL_what : PySem.W.findIn K (.ref CL) "what" = some none)
    (nL_number : PySem.W.findIn K (.ref CL) "number" = some none)
    (nL_limit : PySem.W.findIn K (.ref CL) "limit" = some none)
    (z_int : PySem.W.nsIn K mainGlobals "int" = some none)
    (z_list : PySem.W.nsIn K mainGlobals "list" = some none)
    (z_len : PySem.W.nsIn K mainGlobals "len" = some none)
    (z_range : PySem.W.nsIn K mainGlobals "range" = some none)
    (z_str : PySem.W.nsIn K mainGlobals "str" = some none)
    (z_isinstance : PySem.W.nsIn K mainGlobals "isinstance" = some none)
    (z_tuple : PySem.W.nsIn K mainGlobals "tuple" = some none)
    (z_ValueError : PySem.W.nsIn K mainGlobals "ValueError" = some none)
    (z_abs : PySem.W.nsIn K mainGlobals "abs" = some none)
    (z_bool : PySem.W.nsIn K mainGlobals "bool" = some none)
    (dg : PySem.W.nsIn K cStatics "sys.int_max_str_digits" = some none)
    (sp : PySem.W.specialIn K (.builtin "object.__class__") "__get__" = some (some (.builtin "getset_descriptor.__get__")))
    (tk : PySem.W.takesIn K (.builtin "object.__class__") = some true)
    (kb : looks0 K CF CB CL = true)
    (l_law : K.lookup f_law = some ⟨oc, od, .func (PySem.W.fnOf "law" "law" (defArgs sLaw) (defBody sLaw) (defScope sLaw) .none kV dc pm an cd ct), sl⟩)
    (c_law : PySem.W.codeIn K cd "law" = true)
    (k_law : PySem.W.keepIn K (.ref f_law) = true)
    : ∃ fd : FuncData, (∀ (s : Shared) (v : Value), BindsTo s fd ⟨[v], []⟩ [("_law_script", v)]) ∧ ∀ base : Heap, K.In base → base.Ns mainGlobals mg → FnOk l.prog w K mg base CX0 5 fa fd ["_law_script"] (spLaw K) := by
  have e := hfa.symm.trans (PySem.W.mg_of X G a_law)
  cases e
  unfold looks0 at kb
  simp only [Bool.and_eq_true, decide_eq_true_eq] at kb
  obtain ⟨b1, b2, b3, b4, b5, b6, b7, b8, b9, b10, b11⟩ := kb
  unfold excBl at b3
  simp only [Bool.and_eq_true, decide_eq_true_eq] at b3
  obtain ⟨c1, c2, c3, c4, c5, c6⟩ := b3
  have F_law := fun_mk (st := sLaw) l_law c_law k_law
  have bd_lowest := F_lowest.binds (ps := ["top", "bottom"]) fun _ _ _ _ _ _ us hl => match us, hl with | [_, _], _ => rfl
  have bd_dend := F_dend.binds (ps := ["text", "start"]) fun _ _ _ _ _ _ us hl => match us, hl with | [_, _], _ => rfl
  have bd_ratio := F_ratio.binds (ps := ["text"]) fun _ _ _ _ _ _ us hl => match us, hl with | [_], _ => rfl
  have bd_pen := F_pen.binds (ps := ["_law_script"]) fun _ _ _ _ _ _ us hl => match us, hl with | [_], _ => rfl
  have bd_draw := F_draw.binds (ps := psDraw) fun _ _ _ _ _ _ us hl => match us, hl with | [_, _], _ => rfl
  have bd_pick := F_pick.binds (ps := psPick) fun _ _ _ _ _ _ us hl => match us, hl with | [_, _], _ => rfl
  have bd_big := F_big.binds (ps := psBig) fun _ _ _ _ _ _ us hl => match us, hl with | [_, _], _ => rfl
  have bd_gcd := F_gcd.binds (ps := psGcd) fun _ _ _ _ _ _ us hl => match us, hl with | [_, _], _ => rfl
  have bd_q := F_q.binds (ps := psQ) fun _ _ _ _ _ _ us hl => match us, hl with | [_, _], _ => rfl
  have bd_whole := F_whole.binds (ps := psV) fun _ _ _ _ _ _ us hl => match us, hl with | [_], _ => rfl
  have bd_isr := F_isr.binds (ps := psV) fun _ _ _ _ _ _ us hl => match us, hl with | [_], _ => rfl
  have bd_ldend := F_ldend.binds (ps := psDe) fun _ _ _ _ _ _ us hl => match us, hl with | [_, _], _ => rfl
  have bd_due := F_due.binds (ps := psT) fun _ _ _ _ _ _ us hl => match us, hl with | [_], _ => rfl
  have bd_read := F_read.binds (ps := psV) fun _ _ _ _ _ _ us hl => match us, hl with | [_], _ => rfl
  have bd_begin := F_begin.binds (ps := psP) fun _ _ _ _ _ _ us hl => match us, hl with | [_], _ => rfl
  have bd_bent := F_bent.binds (ps := psPT) fun _ _ _ _ _ _ us hl => match us, hl with | [_, _], _ => rfl
  have beB := IB.binds (ps := ["self", "line", "column"]) fun _ _ _ _ _ _ us hl => match us, hl with | [_, _, _], _ => rfl
  have beL := IL.binds (ps := ["self", "what", "number", "limit"]) fun _ _ _ _ _ _ us hl => match us, hl with | [_, _, _, _], _ => rfl
  refine ⟨PySem.W.fnOf "law" "law" (defArgs sLaw) (defBody sLaw) (defScope sLaw) .none kV dc pm an cd ct, fun s v => .of_eq rfl, fun base _ _ => ?_⟩
  have y_int := PySem.W.mg_none_of X G z_int
  have y_list := PySem.W.mg_none_of X G z_list
  have y_len := PySem.W.mg_none_of X G z_len
  have y_range := PySem.W.mg_none_of X G z_range
  have y_str := PySem.W.mg_none_of X G z_str
  have y_isinstance := PySem.W.mg_none_of X G z_isinstance
  have y_tuple := PySem.W.mg_none_of X G z_tuple
  have y_ValueError := PySem.W.mg_none_of X G z_ValueError
  have y_abs := PySem.W.mg_none_of X G z_abs
  have y_bool := PySem.W.mg_none_of X G z_bool
  have nnB : ∀ f ∈ (["line", "column"] : List Str), PySem.W.findIn K (.ref CB) f = some none := fun f hf => by
    simp only [List.mem_cons, List.not_mem_nil, or_false] at hf
    rcases hf with rfl | rfl
    · exact nB_line
    · exact nB_column
  have EB : Err l.prog w K mg base "BadText" ["line", "column"] CB gB eB := ⟨oexB2_ok b1, i_B, t_B, ini_BadText IB ⟨oexB2_ok b1, nnB⟩, beB, PySem.W.mg_of X G g_B⟩
  have nnL : ∀ f ∈ (["what", "number", "limit"] : List Str), PySem.W.findIn K (.ref CL) f = some none := fun f hf => by
    simp only [List.mem_cons, List.not_mem_nil, or_false] at hf
    rcases hf with rfl | rfl | rfl
    · exact nL_what
    · exact nL_number
    · exact nL_limit
  have EL : Err l.prog w K mg base "TooLarge" ["what", "number", "limit"] CL gL eL := ⟨oexB2_ok b2, i_L, t_L, ini_TooLarge IL ⟨oexB2_ok b2, nnL⟩, beL, PySem.W.mg_of X G g_L⟩
  have T : Kin K mg CF CB CL := ⟨PySem.W.mg_of X G g_F, y_ValueError, y_isinstance, b6, b7, b8, ⟨c1, c2, c3, c4, c5, sp, tk, c6⟩, xfB_ok b4, xfB_ok b5, nB_line, nB_column, nL_what, nL_number, nL_limit, b9, b10, b11⟩
  have hlowest : Cl l.prog w K mg base "lowest" ["top", "bottom"] 1 spLowest f_lowest d_lowest := ⟨ok_lowest F_lowest (PySem.W.mg_of X G g_gcd), PySem.W.mg_of X G a_lowest, F_lowest.kp, bd_lowest⟩
  have hdend : Cl l.prog w K mg base "digits_end" ["text", "start"] 1 spDend f_dend d_dend := ⟨ok_dend F_dend y_len (PySem.W.mg_of X G g_dig), PySem.W.mg_of X G a_dend, F_dend.kp, bd_dend⟩
  have RG : FnOk l.prog w K mg base (L2.CX l.prog w) 3 f_ratio d_ratio ["text"] (spRatio K CB CL) := ok_ratio F_ratio EB EL hdend hlowest y_isinstance y_str y_len y_int (PySem.W.mg_of X G g_most) dg
  have hpen : Cl l.prog w K mg base "_law_pen" ["_law_script"] 1 (spPen K) f_pen d_pen := ⟨ok_pen F_pen y_int y_list, PySem.W.mg_of X G a_pen, F_pen.kp, bd_pen⟩
  have hdraw : Cl l.prog w K mg base "_law_draw" psDraw 1 spDraw f_draw d_draw := ⟨ok_draw F_draw y_int y_len, PySem.W.mg_of X G a_draw, F_draw.kp, bd_draw⟩
  have hpick : Cl l.prog w K mg base "_law_pick" psPick 2 spPick f_pick d_pick := ⟨ok_pick F_pick y_len hdraw, PySem.W.mg_of X G a_pick, F_pick.kp, bd_pick⟩
  have hbig : Cl l.prog w K mg base "_law_big" psBig 3 spBig f_big d_big := ⟨ok_big F_big y_range y_int y_str hdraw hpick, PySem.W.mg_of X G a_big, F_big.kp, bd_big⟩
  have hgcd : Cl l.prog w K mg base "_law_gcd" psGcd 1 spGcd f_gcd d_gcd := ⟨ok_gcd F_gcd y_abs y_range y_int, PySem.W.mg_of X G a_gcd, F_gcd.kp, bd_gcd⟩
  have hq : Cl l.prog w K mg base "_law_q" psQ 2 spQ f_q d_q := ⟨ok_q F_q hgcd, PySem.W.mg_of X G a_q, F_q.kp, bd_q⟩
  have hwhole : Cl l.prog w K mg base "_law_is_whole" psV 1 spWhole f_whole d_whole := ⟨ok_whole F_whole y_isinstance y_int y_bool, PySem.W.mg_of X G a_whole, F_whole.kp, bd_whole⟩
  have hisr : Cl l.prog w K mg base "_law_is_ratio" psV 2 spIsRatio f_isr d_isr := ⟨ok_isr F_isr y_isinstance y_tuple y_len hgcd hwhole, PySem.W.mg_of X G a_isr, F_isr.kp, bd_isr⟩
  have hldend : Cl l.prog w K mg base "_law_digits_end" psDe 1 spLDend f_ldend d_ldend := ⟨ok_ldend F_ldend y_range y_len y_tuple, PySem.W.mg_of X G a_ldend, F_ldend.kp, bd_ldend⟩
  have hdue : Cl l.prog w K mg base "_law_due" psT 3 spDue f_due d_due := ⟨ok_due F_due hldend hq y_int y_len dg, PySem.W.mg_of X G a_due, F_due.kp, bd_due⟩
  have hread : Cl l.prog w K mg base "_law_read" psV 4 spRead f_read d_read := ⟨ok_read F_read T EB EL RG (PySem.W.mg_of X G a_ratio) F_ratio.kp bd_ratio hisr, PySem.W.mg_of X G a_read, F_read.kp, bd_read⟩
  have hbegin : Cl l.prog w K mg base "_law_begin" psP 4 spBegin f_begin d_begin := ⟨ok_begin F_begin y_str hdraw hpick hbig, PySem.W.mg_of X G a_begin, F_begin.kp, bd_begin⟩
  have hbent : Cl l.prog w K mg base "_law_bent" psPT 3 spBent f_bent d_bent := ⟨ok_bent F_bent y_len hdraw hpick, PySem.W.mg_of X G a_bent, F_bent.kp, bd_bent⟩
  exact ok_law F_law T EB RG (PySem.W.mg_of X G a_ratio) F_ratio.kp bd_ratio hpen hbegin hread hdue hbent y_range y_bool
end Fk

open PySem PySem.W PyProof.Rows
set_option maxRecDepth 100000 in
set_option maxHeartbeats 0 in
theorem PySem.Challenge.cw_everyfoe_k00_ratio_texts_holds : PySem.Challenge.rw_everyfoe_k00_ratio_texts.Holds := by
  w_on; o_law; k_head; (case hw => w_witness2)
  k_fill
  refine L2.walk_ofK (l := PySem.Challenge.rw_everyfoe_k00_ratio_texts) (n := 63) (k := 5) (x := "_law_script") (CX := L2.CX0) (sp := Fk.spLaw) rfl (by decide) rfl ⟨rfl, by decide, by decide⟩ (fun w h Y => PySem.W.kIn_of Y) ?F (fun K H a ns hl hO hS => ⟨a, ns, rfl, hS, hl, fun _ => rfl⟩) fun _ _ _ _ z => z
  case F =>
    intro w mg fa h KX G hmg
    refine' Fk.all_mk KX G hmg ?a_lowest ?F_lowest ?a_dend ?F_dend ?a_ratio ?F_ratio ?a_pen ?F_pen ?a_draw ?F_draw ?a_pick ?F_pick ?a_big ?F_big ?a_gcd ?F_gcd ?a_q ?F_q ?a_whole ?F_whole ?a_isr ?F_isr ?a_ldend ?F_ldend ?a_due ?F_due ?a_read ?F_read ?a_begin ?F_begin ?a_bent ?F_bent ?a_law ?g_gcd ?g_dig ?g_most ?g_F ?g_B ?i_B ?t_B ?IB ?nB_line ?nB_column ?g_L ?i_L ?t_L ?IL ?nL_what ?nL_number ?nL_limit ?z_int ?z_list ?z_len ?z_range ?z_str ?z_isinstance ?z_tuple ?z_ValueError ?z_abs ?z_bool ?dg ?sp ?tk ?kb ?l_law ?c_law ?k_law
    (case a_lowest => k_is)
    (case F_lowest => refine' L2.fun_mk ?l ?c ?k; (case l => k_is); (case c => k_is); (case k => k_is))
    (case a_dend => k_is)
    (case F_dend => refine' L2.fun_mk ?l ?c ?k; (case l => k_is); (case c => k_is); (case k => k_is))
    (case a_ratio => k_is)
    (case F_ratio => refine' L2.fun_mk ?l ?c ?k; (case l => k_is); (case c => k_is); (case k => k_is))
    (case a_pen => k_is)
    (case F_pen => refine' L2.fun_mk ?l ?c ?k; (case l => k_is); (case c => k_is); (case k => k_is))
    (case a_draw => k_is)
    (case F_draw => refine' L2.fun_mk ?l ?c ?k; (case l => k_is); (case c => k_is); (case k => k_is))
    (case a_pick => k_is)
    (case F_pick => refine' L2.fun_mk ?l ?c ?k; (case l => k_is); (case c => k_is); (case k => k_is))
    (case a_big => k_is)
    (case F_big => refine' L2.fun_mk ?l ?c ?k; (case l => k_is); (case c => k_is); (case k => k_is))
    (case a_gcd => k_is)
    (case F_gcd => refine' L2.fun_mk ?l ?c ?k; (case l => k_is); (case c => k_is); (case k => k_is))
    (case a_q => k_is)
    (case F_q => refine' L2.fun_mk ?l ?c ?k; (case l => k_is); (case c => k_is); (case k => k_is))
    (case a_whole => k_is)
    (case F_whole => refine' L2.fun_mk ?l ?c ?k; (case l => k_is); (case c => k_is); (case k => k_is))
    (case a_isr => k_is)
    (case F_isr => refine' L2.fun_mk ?l ?c ?k; (case l => k_is); (case c => k_is); (case k => k_is))
    (case a_ldend => k_is)
    (case F_ldend => refine' L2.fun_mk ?l ?c ?k; (case l => k_is); (case c => k_is); (case k => k_is))
    (case a_due => k_is)
    (case F_due => refine' L2.fun_mk ?l ?c ?k; (case l => k_is); (case c => k_is); (case k => k_is))
    (case a_read => k_is)
    (case F_read => refine' L2.fun_mk ?l ?c ?k; (case l => k_is); (case c => k_is); (case k => k_is))
    (case a_begin => k_is)
    (case F_begin => refine' L2.fun_mk ?l ?c ?k; (case l => k_is); (case c => k_is); (case k => k_is))
    (case a_bent => k_is)
    (case F_bent => refine' L2.fun_mk ?l ?c ?k; (case l => k_is); (case c => k_is); (case k => k_is))
    (case a_law => k_is)
    (case g_gcd => k_is)
    (case g_dig => k_is)
    (case g_most => k_is)
    (case g_F => k_is)
    (case g_B => k_is)
    (case i_B => k_is)
    (case t_B => k_is)
    (case IB => refine' L2.fun_mk ?l ?c ?k; (case l => k_is); (case c => k_is); (case k => k_is))
    (case nB_line => k_is)
    (case nB_column => k_is)
    (case g_L => k_is)
    (case i_L => k_is)
    (case t_L => k_is)
    (case IL => refine' L2.fun_mk ?l ?c ?k; (case l => k_is); (case c => k_is); (case k => k_is))
    (case nL_what => k_is)
    (case nL_number => k_is)
    (case nL_limit => k_is)
    (case z_int => k_is)
    (case z_list => k_is)
    (case z_len => k_is)
    (case z_range => k_is)
    (case z_str => k_is)
    (case z_isinstance => k_is)
    (case z_tuple => k_is)
    (case z_ValueError => k_is)
    (case z_abs => k_is)
    (case z_bool => k_is)
    (case dg => k_is)
    (case sp => k_is)
    (case tk => k_is)
    (case kb => kernel_rfl)
    (case l_law => k_is)
    (case c_law => k_is)
    (case k_law => k_is)
#print axioms PySem.Challenge.cw_everyfoe_k00_ratio_texts_holds
