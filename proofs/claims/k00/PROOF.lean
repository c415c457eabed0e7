import PyProof.Rows.All
import Wide.All
import OpenK.AllK
import Wide.FinOn
import Lean
import HandS.ForMost
import HandS.Codes
import HandS.Defaults
import HandS.Wide
import HandS.DeepEq
import HandS.Exc
import HandS.ExcInit
import HandS.ExcValue
import HandS.IsInst
import HandS.Head0
import HandS.Head1
import HandS.Head2
import HandS.HeadEnd
import HandS.HeadHook1
import HandS.HeadHook2
import HandS.HeadHook3
import HandS.HeadHook4
import HandS.ExcIs
import HandS.ExcField
import KE.KExcIs
import PySem.Challenge.RW_everycycle_k00_errors
set_option Elab.async false
set_option linter.all false
set_option maxRecDepth 100000
set_option maxHeartbeats 4000000
namespace Pen
open PySem
def top (i : Nat) : Stmt := PySem.Challenge.pw_everycycle_k00_errors.main.body.getD i (.Pass ⟨0, 0, 0, 0⟩)
abbrev sPen : Stmt := top 15
abbrev sDraw : Stmt := top 16
abbrev sPick : Stmt := top 17
end Pen
namespace Pen
open PySem PySem.Spec PyProof.Rows L2
/-! ## The pen: the source of all draws. Its three defs, once for each law -/
abbrev FnP (K : PySem.W.Frag) (x : Str) (st : Stmt) (f : Addr) (fd : FuncData) : Prop := FunD K x x (defArgs st) (defBody st) (defScope st) [] [] f fd
/-- the pen's pairs: cells, at, digits, count, fold -/
def cols (c : Addr) (a d n f : Int) : List (Key × V) := [(.inr "cells", .ref c), (.inr "at", .int a), (.inr "digits", .int d), (.inr "count", .int n), (.inr "fold", .int f)]
section
variable {c : Addr} {a d n f z : Int}
theorem get_cells : valV (cols c a d n f) (.inr "cells" : Key) = some (.ref c) := by rfl
theorem get_at : valV (cols c a d n f) (.inr "at" : Key) = some (.int a) := by rfl
theorem get_digits : valV (cols c a d n f) (.inr "digits" : Key) = some (.int d) := by rfl
theorem get_count : valV (cols c a d n f) (.inr "count" : Key) = some (.int n) := by rfl
theorem get_fold : valV (cols c a d n f) (.inr "fold" : Key) = some (.int f) := by rfl
theorem put_at : putK (cols c a d n f) (.inr "at" : Key) (.int z) = cols c z d n f := by rfl
theorem put_digits : putK (cols c a d n f) (.inr "digits" : Key) (.int z) = cols c a z n f := by rfl
theorem put_count : putK (cols c a d n f) (.inr "count" : Key) (.int z) = cols c a d z f := by rfl
theorem put_fold : putK (cols c a d n f) (.inr "fold" : Key) (.int z) = cols c a d n z := by rfl
variable {H : Hp} {p : Addr}
theorem dg_cells (h : H p = some (.dK (cols c a d n f))) : DGet H p (.str "cells") (some (.ref c)) := DGet.k (k := .inr "cells") h
theorem dg_at (h : H p = some (.dK (cols c a d n f))) : DGet H p (.str "at") (some (.int a)) := DGet.k (k := .inr "at") h
theorem dg_digits (h : H p = some (.dK (cols c a d n f))) : DGet H p (.str "digits") (some (.int d)) := DGet.k (k := .inr "digits") h
theorem dg_count (h : H p = some (.dK (cols c a d n f))) : DGet H p (.str "count") (some (.int n)) := DGet.k (k := .inr "count") h
theorem dg_fold (h : H p = some (.dK (cols c a d n f))) : DGet H p (.str "fold") (some (.int f)) := DGet.k (k := .inr "fold") h
theorem five : 5 < sizeLine := by decide
theorem dp_at (h : H p = some (.dK (cols c a d n f))) : DPut H p (.str "at") (.int z) (upd H p (.dK (cols c z d n f))) := DPut.k (k := .inr "at") h five
theorem dp_digits (h : H p = some (.dK (cols c a d n f))) : DPut H p (.str "digits") (.int z) (upd H p (.dK (cols c a z n f))) := DPut.k (k := .inr "digits") h five
theorem dp_count (h : H p = some (.dK (cols c a d n f))) : DPut H p (.str "count") (.int z) (upd H p (.dK (cols c a d z f))) := DPut.k (k := .inr "count") h five
theorem dp_fold (h : H p = some (.dK (cols c a d n f))) : DPut H p (.str "fold") (.int z) (upd H p (.dK (cols c a d n z))) := DPut.k (k := .inr "fold") h five
end
/-- a pen stands at p; so many draws were made at most -/
def PenAt (H : Hp) (p : Addr) (m : Nat) : Prop :=
  ∃ (c : Addr) (ns : List Int) (a d n f : Int), H p = some (.dK (cols c a d n f)) ∧ H c = some (.lst (ns.map V.int)) ∧ ns.length ≤ 1000 ∧ 0 ≤ a ∧ 0 ≤ n ∧ n ≤ m ∧ 0 ≤ f ∧ f < 2147483648
/-- all but the object at p stands as it stood -/
def But (p : Addr) (H H' : Hp) : Prop := ∀ b o, H b = some o → b ≠ p → H' b = some o
theorem But.upd {p : Addr} {H : Hp} {o : HO} : But p H (upd H p o) := fun b o e h => by
  rw [upd_ne h]
  exact e
theorem But.trans {p : Addr} {H H1 H2 : Hp} (a : But p H H1) (b : But p H1 H2) : But p H H2 := fun c o e h => b c o (a c o e h) h
theorem But.refl {p : Addr} {H : Hp} : But p H H := fun _ _ e _ => e
theorem But.of_same {p : Addr} {H H' : Hp} (s : Same H H') : But p H H' := fun c o e _ => s c o e
theorem PenAt.same {H H' : Hp} {p : Addr} {m : Nat} (h : PenAt H p m) (s : Same H H') : PenAt H' p m := by
  obtain ⟨c, ns, a, d, n, f, h1, h2, r⟩ := h
  exact ⟨c, ns, a, d, n, f, s _ _ h1, s _ _ h2, r⟩
theorem PenAt.more {H : Hp} {p : Addr} {m m' : Nat} (h : PenAt H p m) (s : m ≤ m') : PenAt H p m' := by
  obtain ⟨c, ns, a, d, n, f, h1, h2, h3, ha, h4, h5, r⟩ := h
  exact ⟨c, ns, a, d, n, f, h1, h2, h3, ha, h4, by omega, r⟩
/-- the script, as each def is handed it -/
def spPen (K : PySem.W.Frag) : Sp := fun vs H Q _ => ∃ (a : Addr) (ns : List Int), vs = [.ref a] ∧ SqL K H a (ns.map V.int) ∧ ns.length ≤ 63 ∧
  ∀ (p : Addr) (H' : Hp), H p = none → Same H H' → PenAt H' p 0 → Q (.ref p) H'
def spDraw : Sp := fun vs H Q _ => ∃ (p : Addr) (m : Nat) (many : Int), vs = [.ref p, .int many] ∧ PenAt H p m ∧ m ≤ 1000000000000 ∧ 0 < many ∧ many < 1073741824 ∧
  ∀ (r : Int) (H' : Hp), 0 ≤ r → r < many → PenAt H' p (m + 1) → But p H H' → Q (.int r) H'
def spPick (K : PySem.W.Frag) : Sp := fun vs H Q _ => ∃ (p l : Addr) (m : Nat) (xs : List V), vs = [.ref p, .ref l] ∧ PenAt H p m ∧ m ≤ 1000000000000 ∧ l ≠ p ∧ SqL K H l xs ∧ 0 < xs.length ∧ xs.length ≤ 1000 ∧
  ∀ (v : V) (i : Nat) (H' : Hp), xs[i]? = some v → PenAt H' p (m + 1) → But p H H' → Q v H'
abbrev pN : List Str := ["_law_script", "_law_fold", "_law_cell"]
abbrev dN : List Str := ["_law_pen_here", "_law_many", "_law_cell", "_law_digit", "_law_blend"]
abbrev kN : List Str := ["_law_pen_here", "_law_some"]
theorem int_item {ns : List Int} {i : Nat} {y : V} (h : (ns.map V.int)[i]? = some y) : ∃ z, y = V.int z := by
  rw [List.getElem?_map] at h
  cases e : ns[i]? with
  | none =>
    rw [e] at h
    cases h
  | some u =>
    rw [e] at h
    exact ⟨u, (Option.some.inj h).symm⟩
structure Txt (mg : Str → Option Value) : Prop where
  len : mg "len" = none
  int : mg "int" = none
  list : mg "list" = none
section
variable {P : Program} {w : World} {K : PySem.W.Frag} {mg : Str → Option Value} {base : Heap} {f : Addr} {fd : FuncData}
theorem scPen : FnScope pN ["_law_script"] (defScope sPen) := ⟨rfl, rfl, rfl, by decide +kernel, rfl, by decide +kernel, by decide +kernel⟩
theorem scDraw : FnScope dN ["_law_pen_here", "_law_many"] (defScope sDraw) := ⟨rfl, rfl, rfl, by decide +kernel, rfl, by decide +kernel, by decide +kernel⟩
theorem scPick : FnScope kN ["_law_pen_here", "_law_some"] (defScope sPick) := ⟨rfl, rfl, rfl, by decide +kernel, rfl, by decide +kernel, by decide +kernel⟩
theorem ok_pen {CX : CXT} (F : FnP K "_law_pen" sPen f fd) (T : Txt mg) : FnOk P w K mg base CX 1 f fd ["_law_script"] (spPen K) := by
  refine F.ok scPen (fun vs H Q E h => ?_) (fun cdv A outer s H vs Q E hr h => ?_)
  · obtain ⟨a, ns, rfl, _⟩ := h
    rfl
  · obtain ⟨a, ns, rfl, hS, hl, k⟩ := h
    refine ⟨_, PSs.nox (pss_cons (ps_set (i := 1) scPen.nd rfl (Or.inl rfl) pe_int)
      (pss_cons (ps_for PassesOwn.never rfl (pi_list (pv 0)) (pg_name (i := 2) scPen.nd rfl (Or.inl rfl))
        (pss_one (ps_set (i := 1) scPen.nd rfl (Or.inl rfl) (pe_op op_mod (pe_callTy call_int1 (by rfl) T.int (by decide +kernel) (pa_cons (pe_op op_add (pe_op op_mul (pv 1) pe_int) (pv 2)) pa_nil)) pe_int))))
      (pss_one (ps_ret (pe_disp (pps_cons pe_str (pe_callTy call_list_of (by rfl) T.list (by decide +kernel) (pa_cons (pv 0) pa_nil)) (pps_cons pe_str pe_int (pps_cons pe_str pe_int (pps_cons pe_str pe_int (pps_cons pe_str (pv 1) pps_nil))))) (by rfl) (by rfl) (fun z => by cases z) (by decide)))))), ?_⟩
    refine ⟨_, rfl, a, rfl, ⟨_, hS⟩, for_list (K := K) (a := a) (xs := ns.map V.int) (fun i σ H2 => ∃ (z : Int) (v : Option V), σ = [some (.ref a), some (.int z), v] ∧ H2 = H ∧ 0 ≤ z ∧ z < 1000000007)
      ⟨0, none, rfl, rfl, by decide, by decide⟩ (fun i σ H2 _ ⟨_, _, _, e, _⟩ => by rw [e]; exact hS) ?_ ?_⟩
    · rintro i y σ H2 hi ⟨z, v, rfl, rfl, h0, h1⟩
      obtain ⟨u, rfl⟩ := int_item hi
      refine ⟨_, rfl, _, _, rfl, rfl, .inr ⟨by decide, by decide⟩, _, rfl, _, _, rfl, rfl, .inl ⟨_, rfl, _, _, rfl, rfl, (by show (0 : Int) < 1000000007; decide), ?_⟩⟩
      exact ⟨_, _, rfl, rfl, Int.emod_nonneg _ (by decide), Int.emod_lt_of_pos _ (by decide)⟩
    · rintro σ H2 ⟨z, v, rfl, rfl, h0, h1⟩
      intro p hp
      have sp : Same H2 (upd H2 p (.dK [])) := fun b o e => by
        rw [upd_ne (ne_of_none e hp)]
        exact e
      refine ⟨_, rfl, a, _, rfl, .inl (sp.seq hS), fun l hl0 => ?_⟩
      have npl : p ≠ l := fun q => by
        rw [← q, upd_same] at hl0
        cases hl0
      have hl1 : H2 l = none := by
        rw [upd_ne npl.symm] at hl0
        exact hl0
      refine ⟨_, rfl, by rw [upd_ne npl, upd_same], cols l 0 0 0 z, rfl, (by show 5 ≤ 15; decide), ?_⟩
      refine k p _ hp (fun b o e => ?_) ⟨l, ns, 0, 0, 0, z, upd_same, ?_, by omega, by decide, by decide, by decide, h0, by omega⟩
      · rw [upd_ne (ne_of_none e hp), upd_ne (ne_of_none e hl1), upd_ne (ne_of_none e hp)]
        exact e
      · rw [upd_ne npl.symm, upd_same]
theorem ok_draw {CX : CXT} (F : FnP K "_law_draw" sDraw f fd) (T : Txt mg) : FnOk P w K mg base CX 1 f fd ["_law_pen_here", "_law_many"] spDraw := by
  refine F.ok scDraw (fun vs H Q E h => ?_) (fun cdv A outer s H vs Q E hr h => ?_)
  · obtain ⟨p, m, many, rfl, _⟩ := h
    rfl
  · obtain ⟨p, m, many, rfl, ⟨c, ns, a, d, n, fo, hp, hc, hz, a0, n0, nm, f0, f1⟩, hm, m0, m1, k⟩ := h
    have hu := hu_of hr
    have ncp : c ≠ p := ne_of hc hp (by intro z; cases z)
    refine ⟨_, PSs.nox (pss_cons (ps_dput hu (pv 0) pe_str (pe_op op_add (pe_dget hu (pv 0) pe_str (fun _ _ => rfl)) pe_int) rfl)
      (C8.pss_cut (ps_if (PW.pt (pw_and (pt_cmpR op_eq (pe_dget hu (pv 0) pe_str (fun _ _ => rfl)) pe_int (nomark _))
          (pw_and1 (pt_cmpR op_lt (pe_dget hu (pv 0) pe_str (fun _ _ => rfl)) (pe_callB call_len_seq (by rfl) T.len PySem.boot_len (pa_cons (pe_dget hu (pv 0) pe_str (fun _ _ => rfl)) pa_nil)) (nomark _)))))
        (pss_cons (ps_set (i := 2) scDraw.nd rfl (Or.inl rfl) (pe_ix ix_list (pe_dget hu (pv 0) pe_str (fun _ _ => rfl)) (pe_dget hu (pv 0) pe_str (fun _ _ => rfl)) (fun _ _ => rfl)))
        (pss_cons (ps_dput hu (pv 0) pe_str (pe_op op_add (pe_dget hu (pv 0) pe_str (fun _ _ => rfl)) pe_int) rfl)
        (pss_one (ps_if (pt_cmpR op_ge (pv 2) (pe_op op_pow pe_int pe_int) (nomark _))
          (pss_one (ps_dput hu (pv 0) pe_str (pe_op op_sub (pv 2) (pe_op op_pow pe_int pe_int)) rfl))
          (pss_one (ps_dput hu (pv 0) pe_str (pe_op op_mod (pe_callTy call_int1 (by rfl) T.int (by decide +kernel) (pa_cons (pe_op op_add (pe_op op_mul (pe_dget hu (pv 0) pe_str (fun _ _ => rfl)) pe_int) (pv 2)) pa_nil)) pe_int) rfl))))))
        pss_nil)
      (pss_cons (ps_if (pt_cmpR op_gt (pe_dget hu (pv 0) pe_str (fun _ _ => rfl)) pe_int (nomark _))
        (pss_cons (ps_set (i := 3) scDraw.nd rfl (Or.inl rfl) (pe_op op_mod (pe_callTy call_int1 (by rfl) T.int (by decide +kernel) (pa_cons (pe_dget hu (pv 0) pe_str (fun _ _ => rfl)) pa_nil)) (pv 1)))
        (pss_cons (ps_dput hu (pv 0) pe_str (pe_op op_fdiv (pe_dget hu (pv 0) pe_str (fun _ _ => rfl)) (pv 1)) rfl)
        (pss_one (ps_ret (pv 3)))))
        pss_nil)
      (pss_cons (ps_set (i := 4) scDraw.nd rfl (Or.inl rfl) (pe_op op_add (pe_op op_add (pe_dget hu (pv 0) pe_str (fun _ _ => rfl)) (pe_op op_mul (pe_dget hu (pv 0) pe_str (fun _ _ => rfl)) pe_int)) pe_int))
      (pss_one (ps_ret (pe_op op_mod (pe_op op_fdiv (pe_callTy call_int1 (by rfl) T.int (by decide +kernel) (pa_cons (pe_op op_mod (pe_op op_pow (pv 4) pe_int) pe_int) pa_nil)) pe_int) (pv 1)))))))), ?_⟩
    -- count
    refine ⟨_, rfl, _, _, rfl, dg_count hp, _, _, rfl, rfl, _, rfl, p, _, rfl, dp_count hp, ?_⟩
    have hp1 : ∀ {o : HO}, upd H p o p = some o := upd_same
    have hc1 : ∀ {o : HO}, upd H p o c = some (.lst (ns.map V.int)) := by
      intro o
      rw [upd_ne ncp]
      exact hc
    refine ⟨fun σ H2 => ∃ (a' d' fo' : Int) (cell : Option V), σ = [some (.ref p), some (.int many), cell, none, none] ∧ H2 = upd H p (.dK (cols c a' d' (n + 1) fo')) ∧ 0 ≤ a' ∧ 0 ≤ fo' ∧ fo' < 2147483648, ?_, ?_⟩
    · refine ⟨_, rfl, _, _, rfl, dg_digits hp1, rfl, _, rfl, ?_⟩
      refine ite2 (fun _ => ?_) (fun _ => ?_)
      · refine ⟨_, rfl, _, _, rfl, dg_at hp1, _, rfl, _, _, rfl, dg_cells hp1, _, _, rfl, .inl (SqL.of hc1), _, _, rfl, rfl, _, rfl, ?_⟩
        refine ite2 (fun hlt => ?_) (fun _ => ?_)
        · have hlt := of_decide_eq_true hlt
          have hj : a.toNat < (ns.map V.int).length := by omega
          obtain ⟨u, hu2⟩ := int_item (List.getElem?_eq_getElem hj)
          have hit : (ns.map V.int)[a.toNat]? = some (V.int u) := by
            rw [List.getElem?_eq_getElem hj, hu2]
          refine ⟨_, rfl, _, _, rfl, dg_cells hp1, _, rfl, _, _, rfl, dg_at hp1, _, _, _, _, rfl, rfl, SqL.of hc1, at_of (j := a.toNat) (by omega) hit, ?_⟩
          refine ⟨_, rfl, _, _, rfl, dg_at hp1, _, _, rfl, rfl, _, rfl, p, _, rfl, dp_at hp1, ?_⟩
          rw [upd_upd]
          refine ⟨_, rfl, _, _, rfl, rfl, ⟨by decide, by decide, by decide⟩, _, _, rfl, rfl, _, rfl, ?_⟩
          refine ite2 (fun _ => ?_) (fun _ => ?_)
          · refine ⟨_, rfl, _, _, rfl, rfl, ⟨by decide, by decide, by decide⟩, _, _, rfl, rfl, _, rfl, p, _, rfl, dp_digits hp1, ?_⟩
            rw [upd_upd]
            exact ⟨_, _, _, _, rfl, rfl, by omega, f0, f1⟩
          · refine ⟨_, rfl, _, _, rfl, dg_fold hp1, _, _, rfl, rfl, .inr ⟨by decide, by decide⟩, _, rfl, _, _, rfl, rfl, .inl ⟨_, rfl, _, _, rfl, rfl, (by show (0 : Int) < 2147483587; decide), ?_⟩⟩
            refine ⟨_, rfl, p, _, rfl, dp_fold hp1, ?_⟩
            rw [upd_upd]
            exact ⟨_, _, _, _, rfl, rfl, by omega, Int.emod_nonneg _ (by decide), Int.lt_trans (Int.emod_lt_of_pos _ (by decide)) (by decide)⟩
        · exact ⟨_, _, _, _, rfl, rfl, a0, f0, f1⟩
      · exact ⟨_, _, _, _, rfl, rfl, a0, f0, f1⟩
    · rintro σ H2 ⟨a', d', fo', cell, rfl, rfl, h0, g0, g1⟩
      refine ⟨_, rfl, _, _, rfl, dg_digits hp1, _, _, rfl, rfl, _, rfl, ?_⟩
      refine ite2 (fun _ => ?_) (fun _ => ?_)
      · refine ⟨_, rfl, _, _, rfl, dg_digits hp1, .inl ⟨_, rfl, _, rfl, _, _, rfl, rfl, m0, ?_⟩⟩
        refine ⟨_, rfl, _, _, rfl, dg_digits hp1, _, rfl, _, _, rfl, rfl, ⟨m0, m1⟩, _, rfl, p, _, rfl, dp_digits hp1, ?_⟩
        rw [upd_upd]
        refine ⟨_, rfl, k _ _ (Int.emod_nonneg _ (by omega)) (Int.emod_lt_of_pos _ m0) ⟨c, ns, _, _, _, _, hp1, hc1, hz, h0, by omega, by omega, g0, g1⟩ But.upd⟩
      · refine ⟨_, rfl, _, _, rfl, dg_fold hp1, _, rfl, _, _, rfl, dg_count hp1, _, _, rfl, rfl, .inr ⟨by decide, by decide⟩, _, _, rfl, rfl, _, _, rfl, rfl, ?_⟩
        refine ⟨_, rfl, _, _, rfl, rfl, ⟨by decide, by decide, ?_⟩, _, _, rfl, rfl, (by show (0 : Int) < 2305843009213693951; decide), .inl ⟨_, rfl, _, _, rfl, rfl, ⟨by decide, by decide⟩, _, rfl, _, _, rfl, rfl, m0, ?_⟩⟩
        · omega
        · exact k _ _ (Int.emod_nonneg _ (by omega)) (Int.emod_lt_of_pos _ m0) ⟨c, ns, _, _, _, _, hp1, hc1, hz, h0, by omega, by omega, g0, g1⟩ But.upd
theorem ok_pick {CX : CXT} {fD : Addr} {fdD : FuncData} (F : FnP K "_law_pick" sPick f fd) (T : Txt mg) (FD : FnP K "_law_draw" sDraw fD fdD) (gD : mg "_law_draw" = some (.ref fD)) (hCX : ∀ X, Passes CX X E0 := by exact fun X => pass0) : FnOk P w K mg base CX 2 f fd ["_law_pen_here", "_law_some"] (spPick K) := by
  have GD : FnOk P w K mg base CX0 1 fD fdD ["_law_pen_here", "_law_many"] spDraw := ok_draw FD T
  have bD : Binds K fdD ["_law_pen_here", "_law_many"] [] := FD.bindsN fun _ _ _ _ _ _ us hl => match us, hl with | [_, _], _ => rfl
  refine F.ok scPick (fun vs H Q E h => ?_) (fun cdv A outer s H vs Q E hr h => ?_)
  · obtain ⟨p, l, m, xs, rfl, _⟩ := h
    rfl
  · obtain ⟨p, l, m, xs, rfl, hP, hm, hlp, hS, h0, h1, k⟩ := h
    refine ⟨_, PSs.nox (pss_one (ps_ret (pe_ix ix_list (pv 1) (pe_call GD hr rfl gD FD.kp bD .nil pass0 (pa_cons (pv 0) (pa_cons (pe_callB call_len_seq (by rfl) T.len PySem.boot_len (pa_cons (pv 1) pa_nil)) pa_nil))) (fun _ _ => rfl)))), ?_⟩
    refine ⟨_, rfl, _, rfl, _, rfl, _, _, rfl, .inl hS, p, m, _, rfl, hP, hm, by omega, by omega, fun r H' r0 r1 hP' hB => ?_⟩
    have hj : r.toNat < xs.length := by omega
    have hS' : SqL K H' l xs := by
      rcases hS with (h | ⟨o, h⟩) | h
      · exact .inl (.inl (hB _ _ h hlp))
      · exact .inl (.inr ⟨o, hB _ _ h hlp⟩)
      · exact .inr h
    exact ⟨_, _, _, _, rfl, rfl, hS', at_of (j := r.toNat) (by omega) (List.getElem?_eq_getElem hj), k _ _ _ (List.getElem?_eq_getElem hj) hP' hB⟩
end
end Pen
namespace Exo
open PySem PySem.Spec PyProof.Rows L2
/-! ## Own exceptions as values: made by a call, with or without an own __init__, their fields, isinstance -/
/-- the class at C: an own exception class over ValueError -/
def oexB (K : PySem.W.Frag) (C : Addr) : Bool := match K.lookup C with
  | some ⟨.type "type", _, .cls cd, sl⟩ =>
    (match cd.mro, sl.toList with
    | .ref D :: bm, [_, _, _, _, some (.builtin n), _] => (decide (D = C) && decide (n = "ValueError.__new__")) && ((!cd.hasDel && cd.hasDict) && PySem.HandSPX.refsVE bm)
    | _, _ => false)
  | _ => false
theorem and2 {a b : Bool} (h : (a && b) = true) : a = true ∧ b = true := Bool.and_eq_true_iff.mp h
theorem oexB_ok {K : PySem.W.Frag} {C : Addr} (h : oexB K C = true) :
    ∃ nm q N bs bm sn sub ab col dd k0 k1 k2 k3 k5, K.lookup C = some (excClassObj nm q C N bs bm true sn sub ab col dd k0 k1 k2 k3 k5 "ValueError.__new__") ∧ PySem.HandSPX.refsVE bm = true := by
  unfold oexB at h
  split at h
  · rename_i dd cd sl ho
    split at h
    · rename_i D bm k0 k1 k2 k3 n k5 hm hs
      obtain ⟨h1, h2⟩ := and2 h
      obtain ⟨e1, e2⟩ := and2 h1
      obtain ⟨h3, h4⟩ := and2 h2
      obtain ⟨e3, e4⟩ := and2 h3
      have e1 := of_decide_eq_true e1
      have e2 := of_decide_eq_true e2
      subst e1 e2
      obtain ⟨nm, bs, mro, ns, qn, hd, sn, sub, ab, col, del⟩ := cd
      dsimp only at hm e3 e4
      have e3 : del = false := by
        cases del with
        | false => rfl
        | true => cases e3
      subst hm e3 e4
      have hsl : sl = #[k0, k1, k2, k3, some (.builtin "ValueError.__new__"), k5] := by
        obtain ⟨l⟩ := sl
        have hs : l = _ := hs
        rw [hs]
      subst hsl
      exact ⟨nm, qn, ns, bs, bm, sn, sub, ab, col, dd, k0, k1, k2, k3, k5, ho, h4⟩
    · cases h
  · cases h
/-- all that is asked of such a class, decided -/
def okB (K : PySem.W.Frag) (C : Addr) : Bool :=
  (oexB K C && decide (PySem.W.findIn K (.ref C) "__setattr__" = some (some (.builtin "object.__setattr__")))) &&
  ((decide (PySem.W.subIn K (.ref C) (.type "BaseException") = some true) && decide (PySem.W.typeIn K (.ref C) = some (.type "type"))) &&
  ((PySem.W.keepIn K (.ref C) && decide (PySem.W.findIn K (.ref C) "__getattribute__" = some (some (.builtin "BaseException.__getattribute__")))) &&
  ((decide (PySem.W.findIn K (.ref C) "__getattr__" = some none) && PySem.W.hasDictIn K C) &&
  ((decide (PySem.W.findIn K (.ref C) "__class__" = some (some (.builtin "object.__class__"))) && decide (PySem.W.specialIn K (.builtin "object.__class__") "__get__" = some (some (.builtin "getset_descriptor.__get__")))) &&
  (decide (PySem.W.takesIn K (.builtin "object.__class__") = some true) && decide (PySem.W.mroIn K C (.type "object") = some true))))))
structure Cl (K : PySem.W.Frag) (C : Addr) : Prop where
  oe : OexC K C
  ex : ExcC K C
theorem okB_ok {K : PySem.W.Frag} {C : Addr} (h : okB K C = true) : Cl K C := by
  obtain ⟨h1, h⟩ := and2 h
  obtain ⟨a1, a2⟩ := and2 h1
  obtain ⟨h2, h⟩ := and2 h
  obtain ⟨a3, a4⟩ := and2 h2
  obtain ⟨h3, h⟩ := and2 h
  obtain ⟨a5, a6⟩ := and2 h3
  obtain ⟨h4, h⟩ := and2 h
  obtain ⟨a7, a8⟩ := and2 h4
  obtain ⟨h5, h6⟩ := and2 h
  obtain ⟨a9, b1⟩ := and2 h5
  obtain ⟨b2, b3⟩ := and2 h6
  exact ⟨⟨oexB_ok a1, of_decide_eq_true a2, of_decide_eq_true a3, of_decide_eq_true a4, a5⟩,
    ⟨of_decide_eq_true a6, of_decide_eq_true a7, of_decide_eq_true a3, a8, of_decide_eq_true a9, of_decide_eq_true b1, of_decide_eq_true b2, of_decide_eq_true b3⟩⟩
theorem Cl.some {K : PySem.W.Frag} {C : Addr} (T : Cl K C) : (PySem.W.clsIn K C).isSome = true := by
  obtain ⟨nm, q, N, bs, bm, sn, sub, ab, col, dd, k0, k1, k2, k3, k5, hC, _⟩ := T.oe.cls
  unfold PySem.W.clsIn
  rw [hC]
  rfl
/-- an exception of the class at C stands at a, its fields fs -/
def At (H : Hp) (a C : Addr) (fs : List (Str × V)) : Prop :=
  (H a = Option.some (exo a C none) ∧ fs = []) ∨ ∃ d, H a = Option.some (exo a C (Option.some d)) ∧ H d = Option.some (exd d fs)
theorem At.same {H H' : Hp} {a C : Addr} {fs : List (Str × V)} (h : At H a C fs) (s : Same H H') : At H' a C fs := by
  rcases h with ⟨e, r⟩ | ⟨d, e, r⟩
  · exact .inl ⟨s _ _ e, r⟩
  · exact .inr ⟨d, s _ _ e, s _ _ r⟩
section
variable {X : Cx} {pins : List (Addr × Obj)} {σ : L2.St} {H : Hp} {s : Shared}
/-- its object, and its dict's -/
theorem At.look {a C : Addr} {fs : List (Str × V)} (I : Inv X pins σ H s) (h : At H a C fs) : ∃ (ox : Obj) (od : Option Obj), PySem.W.InstAt s.heap a ox C od ∧
    ∀ (f : Str) (v : V), fs.lookup f = Option.some v → ∃ (o : Obj) (u : Value), od = Option.some o ∧ PySem.W.lookIn f o = Option.some (Option.some u) ∧ RelV v u := by
  rcases h with ⟨e, rfl⟩ | ⟨d, e, ed⟩
  · obtain ⟨t1, ho⟩ := exo_at I.hok e
    exact ⟨_, none, ⟨ho, rfl, rfl, True.intro⟩, fun f v l => by cases l⟩
  · obtain ⟨t1, ho⟩ := exo_at I.hok e
    obtain ⟨mA, hns, rel⟩ := exd_at I.hok ed
    obtain ⟨od, hod, hl⟩ := lookIn_ns hns
    refine ⟨_, Option.some od, ⟨ho, rfl, rfl, hod⟩, fun f v l => ?_⟩
    obtain ⟨u, hu, ru⟩ := RelO.some_of (v := v) (o := mA f) (by rw [← l]; exact rel f)
    exact ⟨od, u, rfl, by rw [hl, hu], ru⟩
end
section
variable {X : Cx}
/-- isinstance(e, c) -/
def rIs (K : PySem.W.Frag) : List V → Hp → VK → Prop := fun xs H Q => ∃ (a C : Addr) (fs : List (Str × V)) (c : V) (cv : Value) (b : Bool),
  xs = [.ref a, c] ∧ At H a C fs ∧ Cl K C ∧ ClsV c cv ∧ PySem.W.kitOne K (.ref C) cv = Option.some b ∧ Q (.bl b) H
theorem call_is : CallR X (.builtin "isinstance") (rIs X.K) := by
  intro pins s σ H xs us Q I r h
  obtain ⟨a, C, fs, c, cv, b, rfl, hA, T, hc, e, q⟩ := h
  obtain ⟨u1, u2, rfl, r1, r2⟩ := vals2 r
  have e1 : u1 = Value.ref a := r1
  have e2 : u2 = cv := hc.eq r2
  rw [e1, e2]
  obtain ⟨ox, od, J, _⟩ := hA.look I
  have Z := PySem.W.kitx_exc (x := a) (ox := ox) (od := od) T.some T.ex.hg T.ex.hk T.ex.hs T.ex.ha T.ex.hn T.ex.ht T.ex.hm
  exact PySem.W.kia_one Z I.kIn J e (fun z => nomatch z) fun tk => ⟨.bl b, H, I.tok tk, rfl, q⟩
/-- e.f -/
def tFld (K : PySem.W.Frag) (f : Str) (te : TE) : TE := fun σ H Q => te σ H fun x H1 => ∃ (a C : Addr) (fs : List (Str × V)) (v : V),
  x = .ref a ∧ At H1 a C fs ∧ Cl K C ∧ PySem.W.findIn K (.ref C) f = Option.some none ∧ fs.lookup f = Option.some v ∧ Q v H1
theorem pe_fld {e : Expr} {te : TE} {pos : Pos} {f : Str} (he : PE X e te) (hb : attributeBase e f X.env (eval e X.env) = eval e X.env := by rfl) : PE X (.Attribute e f pos) (tFld X.K f te) := by
  constructor
  intro pins s σ H Q I h
  have after : ∀ u s1, EP X pins σ (fun x H1 => ∃ (a C : Addr) (fs : List (Str × V)) (v : V), x = .ref a ∧ At H1 a C fs ∧ Cl X.K C ∧ PySem.W.findIn X.K (.ref C) f = Option.some none ∧ fs.lookup f = Option.some v ∧ Q v H1) u s1 →
      wpAny (model X.prog X.w) X.A (getAttr u f true) (EP X pins σ Q) X.xe s1 := by
    rintro u s1 ⟨x, H1, I1, rx, a, C, fs, v, rfl, hA, T, hno, hl, q⟩
    have eu : u = Value.ref a := rx
    rw [eu]
    obtain ⟨ox, od, J, lk⟩ := hA.look I1
    obtain ⟨o, z, eo, hz, rz⟩ := lk f v hl
    subst eo
    exact PySem.HandSPX.exc_get I1.kIn J T.ex.hg T.ex.hk T.ex.hs (PySem.W.findObj_own T.ex.hd hno rfl hz) (handed_of rz) ⟨v, H1, I1.tok _, rz, q⟩
  exact attr_of hb (thn (he.run pins s σ H _ I h) after)
/-- C(e, ..), its own __init__ keeping sp -/
def tMk (C : Addr) (sp : Sp) (ta : TA) : TE := fun σ H Q => ta σ H fun vs H1 => vs.length ≤ 1000 ∧ ∀ a, H1 a = none → sp (.ref a :: vs) (upd H1 a (exo a C none)) (fun v H2 => v = .non ∧ Q (.ref a) H2) E0
theorem pe_mk {x : Str} {C fI : Addr} {k : Nat} {fd : FuncData} {ps : List Str} {sp : Sp} {ta : TA} {e : Expr} {es : List Expr} {p pos : Pos} (T : Cl X.K C) (iC : PySem.W.findIn X.K (.ref C) "__init__" = Option.some (Option.some (.ref fI)))
    (tI : PySem.W.typeIn X.K (.ref fI) = Option.some (.type "function")) (G : FnOk X.prog X.w X.K X.mg X.base CX0 k fI fd ps sp) (hr : Room (k + 1) X.A) (hb : Binds X.K fd ps []) (hg : Gl X x) (hm : X.mg x = Option.some (.ref C)) (ha : PA X (e :: es) ta)
    (hdb : (x == ("__debug__" : Str)) = false := by decide) (hs : starEach (e :: es) X.env = (false, eval e X.env) :: starEach es X.env := by rfl) (hpl : (backTo pos (starEach es X.env)).any (·.1) = false := by rfl) :
    PE X (.Call (.Name x p) (e :: es) [] pos) (tMk C sp ta) := by
  constructor
  intro pins s σ H Q I h
  obtain ⟨nm, q, N, bs, bm, sn, sub, ab, col, dd, k0, k1, k2, k3, k5, hC, hbm⟩ := T.oe.cls
  have after : ∀ us s1, AP X pins σ (fun vs H1 => vs.length ≤ 1000 ∧ ∀ a, H1 a = none → sp (.ref a :: vs) (upd H1 a (exo a C none)) (fun v H2 => v = .non ∧ Q (.ref a) H2) E0) us s1 →
      X.K.In s1.heap ∧ wpAny (model X.prog X.w) X.A (call (.ref C) us) (EP X pins σ Q) X.xe s1 := by
    rintro us s1 ⟨vs, H1, I1, r1, hz, q1⟩
    refine ⟨I1.kIn, ?_⟩
    obtain ⟨hp, g, dr, tk, os⟩ := s1
    have up : hp.objs.size ≤ hp.objs.size + 1 := Nat.le_succ _
    have new : H1 (hp.objs.size + 1) = none := I1.hok.fresh up
    have want := q1 (hp.objs.size + 1) new
    let h2 : Heap := (hp.push (PySem.W.kdv_tup us)).push (PySem.HandSPX.excO C hp.objs.size)
    have there : h2.get? (hp.objs.size + 1) = Option.some (PySem.HandSPX.excO C hp.objs.size) := by
      show ((hp.push (PySem.W.kdv_tup us)).push (PySem.HandSPX.excO C hp.objs.size)).get? (hp.objs.size + 1) = _
      heap_get
    have I2 : Inv X pins σ (upd H1 (hp.objs.size + 1) (exo (hp.objs.size + 1) C none)) ⟨h2, g, dr, tk, os⟩ :=
      I1.laid (t' := tk) (fun b o z => Heap.get?_push_of_some _ (Heap.get?_push_of_some _ z)) up (exo_ok there)
    have rel : Vals (V.ref (hp.objs.size + 1) :: vs) (Value.ref (hp.objs.size + 1) :: (us ++ [])) := by
      rw [List.append_nil]
      exact .cons rfl r1
    have len : (Value.ref (hp.objs.size + 1) :: us ++ []).length = ps.length := by
      have z := rel.length
      rw [G.len _ _ _ _ want] at z
      exact z.symm
    have short : us.length ≤ sizeLine := by
      have z := Paired.length r1
      rw [sizeLine_eq]
      omega
    have run := G.run _ X.stack _ _ ⟨Value.ref (hp.objs.size + 1) :: us, []⟩ _ _ _ E0 (hr.make C us []) (I2.env0.make C us []) (hb _ (Value.ref (hp.objs.size + 1) :: us) I2.kIn len) rel want
    refine wpAny_call (PySem.HandSPX.call_own F.excBase_ValueError (fun Y => PySem.HandSPX.refsVE_contains Y bm hbm) (I1.kIn _ _ hC) (PySem.W.looks_findIn I1.kIn iC) (fun self => PySem.W.bind_fn I1.kIn self tI) short (codeAny_mono run ?_))
    intro r s' z
    cases r with
    | error er => exact z.elim
    | ok fl =>
      cases fl with
      | ret u =>
        obtain ⟨v, H', I3, rv, ev, q3⟩ := I2.after z
        subst ev
        exact ⟨rv, ⟨V.ref (hp.objs.size + 1), H', I3, rfl, q3⟩⟩
      | next => exact False.elim z
      | brk => exact False.elim z
      | cont => exact False.elim z
  refine wpAny_Call_Name_kw (ld_glob I hg hm ?_ hdb)
  exact PySem.W.callWith_K (h₀ := X.base) I.ok.mod.kin T.oe.kC (thn (ha.run pos pins s σ H _ I h) after) hs hpl
/-- C(), a class without an own __init__ -/
def tMk0 (C : Addr) : TE := fun _ H Q => ∀ a, H a = none → Q (.ref a) (upd H a (exo a C none))
theorem pe_mk0 {x : Str} {C : Addr} {p pos : Pos} (T : Cl X.K C) (hq : PySem.W.excIn X.K C He.veBase "ValueError.__new__" = true) (hg : Gl X x) (hm : X.mg x = Option.some (.ref C)) (hdb : (x == ("__debug__" : Str)) = false := by decide) :
    PE X (.Call (.Name x p) [] [] pos) (tMk0 C) := by
  constructor
  intro pins s σ H Q I h
  refine wpAny_Call_Name_kw (ld_glob I hg hm ?_ hdb)
  refine PySem.W.callWith_K0 I.kIn T.oe.kC ?_
  obtain ⟨bm, N, nm, qn, bs, hdct, sn, sub, ab, col, dd, k0, k1, k2, k3, k5, mN, hC, hN, hni, tl⟩ := exc_obj (I.tok _).kIn hq
  refine wpAny_call_exc_subT F.excBase_ValueError tl hC hN hni (fun h' a hm => ?_) (by show 0 ≤ sizeLine; exact Nat.zero_le _)
  have new : H a = none := I.hok.gone hm.new
  obtain ⟨t, ht, _, _⟩ := hm.there
  exact ⟨.ref a, upd H a (exo a C none), I.laidN hm.keeps hm.new new (exo_ok ht), rfl, h a new⟩
/-- what is equal to itself by being one value -/
def One (x : V) : Prop := flatB x = true ∨ ∃ a, x = .ref a
theorem one_at {A : Around} {s : Shared} {x : V} {u w : Value} (h : One x) (r1 : RelV x u) (r2 : RelV x w) : SeqAt.EqAt A s u w true := by
  rcases h with f | ⟨a, rfl⟩
  · exact eqAt_same r1 r2 f
  · have e1 : u = Value.ref a := r1
    have e2 : w = Value.ref a := r2
    rw [e1, e2]
    exact SeqAt.EqAt.same _
/-- two lists of the same items -/
def rSame (K : PySem.W.Frag) (k : Bool) : R2 := fun x y H Q => ∃ (a b : Addr) (xs : List V), x = .ref a ∧ y = .ref b ∧ SqL K H a xs ∧ SqL K H b xs ∧ (∀ v ∈ xs, One v) ∧ Q (.bl k) H
theorem all_true (n : Nat) : ((List.range n).all fun _ => true) = true := List.all_eq_true.mpr fun _ _ => rfl
theorem at_items {A : Around} {s : Shared} : ∀ {xs : List V} {us ws : List Value}, (∀ v ∈ xs, One v) → Vals xs us → Vals xs ws → ∀ j (h1 : j < us.length) (h2 : j < ws.length), SeqAt.EqAt A s us[j] ws[j] true
  | [], _, _, _, .nil, .nil, j, h1, _ => absurd h1 (Nat.not_lt_zero j)
  | x :: xs, _, _, ho, .cons r1 t1, .cons r2 t2, 0, _, _ => one_at (ho x (List.mem_cons_self ..)) r1 r2
  | x :: xs, _, _, ho, .cons r1 t1, .cons r2 t2, j + 1, h1, h2 =>
    at_items (xs := xs) (fun v hv => ho v (List.mem_cons_of_mem _ hv)) t1 t2 j (Nat.lt_of_succ_lt_succ h1) (Nat.lt_of_succ_lt_succ h2)
theorem op_neSame (hu : X.A.units < cLine) : OpR X (compareOp .NotEq) (rSame X.K false) := by
  intro pins s σ H x y v u Q I rx ry h
  obtain ⟨a, b, xs, rfl, rfl, ha, hb, ho, q⟩ := h
  have e1 : v = Value.ref a := rx
  have e2 : u = Value.ref b := ry
  rw [e1, e2]
  obtain ⟨us, r1, p1, _⟩ := I.list ha
  obtain ⟨ws, r2, p2, _⟩ := I.list hb
  have hz : us.toArray.size = ws.toArray.size := by
    rw [List.size_toArray, List.size_toArray, ← r1.length, ← r2.length]
  refine SeqAt.RcNeAt.lists (e := fun _ => true) p1.isList p2.isList hz hu (fun j h1 h2 => ?_) _ _ _ _ ?_
  · simpa using at_items ho r1 r2 j (by simpa using h1) (by simpa using h2)
  · rw [all_true]
    exact ⟨.bl false, H, I, rfl, q⟩
theorem op_eqSame (hu : X.A.units < cLine) : OpR X (compareOp .Eq) (rSame X.K true) := by
  intro pins s σ H x y v u Q I rx ry h
  obtain ⟨a, b, xs, rfl, rfl, ha, hb, ho, q⟩ := h
  have e1 : v = Value.ref a := rx
  have e2 : u = Value.ref b := ry
  rw [e1, e2]
  obtain ⟨us, r1, p1, _⟩ := I.list ha
  obtain ⟨ws, r2, p2, _⟩ := I.list hb
  have hz : us.toArray.size = ws.toArray.size := by
    rw [List.size_toArray, List.size_toArray, ← r1.length, ← r2.length]
  refine SeqAt.RcAt.lists (e := fun _ => true) p1.isList p2.isList hz hu (fun j h1 h2 => ?_) _ _ _ _ ?_
  · simpa using at_items ho r1 r2 j (by simpa using h1) (by simpa using h2)
  · rw [all_true]
    exact ⟨.bl true, H, I, rfl, q⟩
end
end Exo
namespace K00
open PySem PySem.Spec PyProof.Rows L2 Pen
theorem same_new {H : Hp} {p : Addr} {u : HO} (np : H p = none) : Same H (upd H p u) := fun b o e => by
  rw [upd_ne (ne_of_none e np)]
  exact e
theorem same_made {H H' : Hp} {a : Addr} {u : HO} (na : H a = none) (k : ∀ b o, upd H a u b = some o → b ≠ a → H' b = some o) : Same H H' := fun b o e =>
  k b o (by rw [upd_ne (ne_of_none e na)]; exact e) (ne_of_none e na)
/-! ### the classes' __init__ -/
def spI (fs : List Str) : Sp := fun vs H Q _ => ∃ (K : PySem.W.Frag) (a C : Addr) (us : List V), vs = .ref a :: us ∧ us.length = fs.length ∧ H a = some (exo a C none) ∧ Exo.Cl K C ∧ (∀ f ∈ fs, PySem.W.findIn K (.ref C) f = some none) ∧
  ∀ H', (∀ b o, H b = some o → b ≠ a → H' b = some o) → Exo.At H' a C (fs.zip us).reverse → Q .non H'
section
variable {P : Program} {w : World} {K : PySem.W.Frag} {mg : Str → Option Value} {base : Heap} {f : Addr} {fd : FuncData}
def spI1 (K : PySem.W.Frag) (f1 : Str) : Sp := fun vs H Q _ => ∃ (a C : Addr) (v1 : V), vs = [.ref a, v1] ∧ H a = some (exo a C none) ∧ Exo.Cl K C ∧ PySem.W.findIn K (.ref C) f1 = some none ∧
  ∀ H', (∀ b o, H b = some o → b ≠ a → H' b = some o) → Exo.At H' a C [(f1, v1)] → Q .non H'
def spI2 (K : PySem.W.Frag) (f1 f2 : Str) : Sp := fun vs H Q _ => ∃ (a C : Addr) (v1 v2 : V), vs = [.ref a, v1, v2] ∧ H a = some (exo a C none) ∧ Exo.Cl K C ∧ PySem.W.findIn K (.ref C) f1 = some none ∧ PySem.W.findIn K (.ref C) f2 = some none ∧
  ∀ H', (∀ b o, H b = some o → b ≠ a → H' b = some o) → Exo.At H' a C [(f2, v2), (f1, v1)] → Q .non H'
def spI3 (K : PySem.W.Frag) (f1 f2 f3 : Str) : Sp := fun vs H Q _ => ∃ (a C : Addr) (v1 v2 v3 : V), vs = [.ref a, v1, v2, v3] ∧ H a = some (exo a C none) ∧ Exo.Cl K C ∧ PySem.W.findIn K (.ref C) f1 = some none ∧ PySem.W.findIn K (.ref C) f2 = some none ∧ PySem.W.findIn K (.ref C) f3 = some none ∧
  ∀ H', (∀ b o, H b = some o → b ≠ a → H' b = some o) → Exo.At H' a C [(f3, v3), (f2, v2), (f1, v1)] → Q .non H'
abbrev sBadLine : Stmt := inClass (top 2) 0
theorem scBadLine : FnScope ["self", "line", "column"] ["self", "line", "column"] (defScope sBadLine) := ⟨rfl, rfl, rfl, by decide +kernel, rfl, by decide +kernel, by decide +kernel⟩
abbrev FnBadLine (K : PySem.W.Frag) (f : Addr) (fd : FuncData) : Prop := FunD K "__init__" "BadLine.__init__" (defArgs sBadLine) (defBody sBadLine) (defScope sBadLine) [] [] f fd
theorem okBadLine (F : FnBadLine K f fd) : FnOk P w K mg base CX0 1 f fd ["self", "line", "column"] (spI2 K "line" "column") := by
  refine F.ok scBadLine (fun vs H Q E h => ?_) (fun cdv A outer s H vs Q E hr h => ?_)
  · obtain ⟨a, C, v1, v2, rfl, _⟩ := h
    rfl
  · obtain ⟨a, C, v1, v2, rfl, ha, T, n1, n2, k⟩ := h
    refine ⟨_, PSs.nox (pss_cons (ps_ost (pv 0) (pv 1)) (pss_one (ps_ost (pv 0) (pv 2)))), ?_⟩
    refine ⟨_, rfl, _, rfl, a, C, rfl, T.oe, n1, .inl ⟨ha, fun d hd dne => ?_⟩⟩
    refine ⟨_, rfl, _, rfl, a, C, rfl, T.oe, n2, .inr ⟨d, _, upd_same, (by rw [upd_ne dne, upd_same]), (by show 1 ≤ 900; decide), ?_⟩⟩
    refine k _ (fun b o e hb => ?_) (.inr ⟨d, by rw [upd_ne dne.symm, upd_same], upd_same⟩)
    rw [upd_ne (ne_of_none e hd), upd_ne hb, upd_ne (ne_of_none e hd)]
    exact e
abbrev sBadNumber : Stmt := inClass (top 3) 0
theorem scBadNumber : FnScope ["self", "what", "number"] ["self", "what", "number"] (defScope sBadNumber) := ⟨rfl, rfl, rfl, by decide +kernel, rfl, by decide +kernel, by decide +kernel⟩
abbrev FnBadNumber (K : PySem.W.Frag) (f : Addr) (fd : FuncData) : Prop := FunD K "__init__" "BadNumber.__init__" (defArgs sBadNumber) (defBody sBadNumber) (defScope sBadNumber) [] [] f fd
theorem okBadNumber (F : FnBadNumber K f fd) : FnOk P w K mg base CX0 1 f fd ["self", "what", "number"] (spI2 K "what" "number") := by
  refine F.ok scBadNumber (fun vs H Q E h => ?_) (fun cdv A outer s H vs Q E hr h => ?_)
  · obtain ⟨a, C, v1, v2, rfl, _⟩ := h
    rfl
  · obtain ⟨a, C, v1, v2, rfl, ha, T, n1, n2, k⟩ := h
    refine ⟨_, PSs.nox (pss_cons (ps_ost (pv 0) (pv 1)) (pss_one (ps_ost (pv 0) (pv 2)))), ?_⟩
    refine ⟨_, rfl, _, rfl, a, C, rfl, T.oe, n1, .inl ⟨ha, fun d hd dne => ?_⟩⟩
    refine ⟨_, rfl, _, rfl, a, C, rfl, T.oe, n2, .inr ⟨d, _, upd_same, (by rw [upd_ne dne, upd_same]), (by show 1 ≤ 900; decide), ?_⟩⟩
    refine k _ (fun b o e hb => ?_) (.inr ⟨d, by rw [upd_ne dne.symm, upd_same], upd_same⟩)
    rw [upd_ne (ne_of_none e hd), upd_ne hb, upd_ne (ne_of_none e hd)]
    exact e
abbrev sBadRow : Stmt := inClass (top 4) 0
theorem scBadRow : FnScope ["self", "row"] ["self", "row"] (defScope sBadRow) := ⟨rfl, rfl, rfl, by decide +kernel, rfl, by decide +kernel, by decide +kernel⟩
abbrev FnBadRow (K : PySem.W.Frag) (f : Addr) (fd : FuncData) : Prop := FunD K "__init__" "BadRow.__init__" (defArgs sBadRow) (defBody sBadRow) (defScope sBadRow) [] [] f fd
theorem okBadRow (F : FnBadRow K f fd) : FnOk P w K mg base CX0 1 f fd ["self", "row"] (spI1 K "row") := by
  refine F.ok scBadRow (fun vs H Q E h => ?_) (fun cdv A outer s H vs Q E hr h => ?_)
  · obtain ⟨a, C, v1, rfl, _⟩ := h
    rfl
  · obtain ⟨a, C, v1, rfl, ha, T, n1, k⟩ := h
    refine ⟨_, PSs.nox (pss_one (ps_ost (pv 0) (pv 1))), ?_⟩
    refine ⟨_, rfl, _, rfl, a, C, rfl, T.oe, n1, .inl ⟨ha, fun d hd dne => ?_⟩⟩
    refine k _ (fun b o e hb => ?_) (.inr ⟨d, upd_same, by rw [upd_ne dne, upd_same]⟩)
    rw [upd_ne hb, upd_ne (ne_of_none e hd)]
    exact e
abbrev sBadName : Stmt := inClass (top 5) 0
theorem scBadName : FnScope ["self", "name"] ["self", "name"] (defScope sBadName) := ⟨rfl, rfl, rfl, by decide +kernel, rfl, by decide +kernel, by decide +kernel⟩
abbrev FnBadName (K : PySem.W.Frag) (f : Addr) (fd : FuncData) : Prop := FunD K "__init__" "BadName.__init__" (defArgs sBadName) (defBody sBadName) (defScope sBadName) [] [] f fd
theorem okBadName (F : FnBadName K f fd) : FnOk P w K mg base CX0 1 f fd ["self", "name"] (spI1 K "name") := by
  refine F.ok scBadName (fun vs H Q E h => ?_) (fun cdv A outer s H vs Q E hr h => ?_)
  · obtain ⟨a, C, v1, rfl, _⟩ := h
    rfl
  · obtain ⟨a, C, v1, rfl, ha, T, n1, k⟩ := h
    refine ⟨_, PSs.nox (pss_one (ps_ost (pv 0) (pv 1))), ?_⟩
    refine ⟨_, rfl, _, rfl, a, C, rfl, T.oe, n1, .inl ⟨ha, fun d hd dne => ?_⟩⟩
    refine k _ (fun b o e hb => ?_) (.inr ⟨d, upd_same, by rw [upd_ne dne, upd_same]⟩)
    rw [upd_ne hb, upd_ne (ne_of_none e hd)]
    exact e
abbrev sBadWidth : Stmt := inClass (top 6) 0
theorem scBadWidth : FnScope ["self", "name", "wanted", "told"] ["self", "name", "wanted", "told"] (defScope sBadWidth) := ⟨rfl, rfl, rfl, by decide +kernel, rfl, by decide +kernel, by decide +kernel⟩
abbrev FnBadWidth (K : PySem.W.Frag) (f : Addr) (fd : FuncData) : Prop := FunD K "__init__" "BadWidth.__init__" (defArgs sBadWidth) (defBody sBadWidth) (defScope sBadWidth) [] [] f fd
theorem okBadWidth (F : FnBadWidth K f fd) : FnOk P w K mg base CX0 1 f fd ["self", "name", "wanted", "told"] (spI3 K "name" "wanted" "told") := by
  refine F.ok scBadWidth (fun vs H Q E h => ?_) (fun cdv A outer s H vs Q E hr h => ?_)
  · obtain ⟨a, C, v1, v2, v3, rfl, _⟩ := h
    rfl
  · obtain ⟨a, C, v1, v2, v3, rfl, ha, T, n1, n2, n3, k⟩ := h
    refine ⟨_, PSs.nox (pss_cons (ps_ost (pv 0) (pv 1)) (pss_cons (ps_ost (pv 0) (pv 2)) (pss_one (ps_ost (pv 0) (pv 3))))), ?_⟩
    refine ⟨_, rfl, _, rfl, a, C, rfl, T.oe, n1, .inl ⟨ha, fun d hd dne => ?_⟩⟩
    refine ⟨_, rfl, _, rfl, a, C, rfl, T.oe, n2, .inr ⟨d, _, upd_same, (by rw [upd_ne dne, upd_same]), (by show 1 ≤ 900; decide), ?_⟩⟩
    refine ⟨_, rfl, _, rfl, a, C, rfl, T.oe, n3, .inr ⟨d, _, (by rw [upd_ne dne.symm, upd_same]), upd_same, (by show 2 ≤ 900; decide), ?_⟩⟩
    refine k _ (fun b o e hb => ?_) (.inr ⟨d, by rw [upd_ne dne.symm, upd_ne dne.symm, upd_same], upd_same⟩)
    rw [upd_ne (ne_of_none e hd), upd_ne (ne_of_none e hd), upd_ne hb, upd_ne (ne_of_none e hd)]
    exact e
abbrev sNoName : Stmt := inClass (top 7) 0
theorem scNoName : FnScope ["self", "name"] ["self", "name"] (defScope sNoName) := ⟨rfl, rfl, rfl, by decide +kernel, rfl, by decide +kernel, by decide +kernel⟩
abbrev FnNoName (K : PySem.W.Frag) (f : Addr) (fd : FuncData) : Prop := FunD K "__init__" "NoName.__init__" (defArgs sNoName) (defBody sNoName) (defScope sNoName) [] [] f fd
theorem okNoName (F : FnNoName K f fd) : FnOk P w K mg base CX0 1 f fd ["self", "name"] (spI1 K "name") := by
  refine F.ok scNoName (fun vs H Q E h => ?_) (fun cdv A outer s H vs Q E hr h => ?_)
  · obtain ⟨a, C, v1, rfl, _⟩ := h
    rfl
  · obtain ⟨a, C, v1, rfl, ha, T, n1, k⟩ := h
    refine ⟨_, PSs.nox (pss_one (ps_ost (pv 0) (pv 1))), ?_⟩
    refine ⟨_, rfl, _, rfl, a, C, rfl, T.oe, n1, .inl ⟨ha, fun d hd dne => ?_⟩⟩
    refine k _ (fun b o e hb => ?_) (.inr ⟨d, upd_same, by rw [upd_ne dne, upd_same]⟩)
    rw [upd_ne hb, upd_ne (ne_of_none e hd)]
    exact e
abbrev sTakenName : Stmt := inClass (top 8) 0
theorem scTakenName : FnScope ["self", "name"] ["self", "name"] (defScope sTakenName) := ⟨rfl, rfl, rfl, by decide +kernel, rfl, by decide +kernel, by decide +kernel⟩
abbrev FnTakenName (K : PySem.W.Frag) (f : Addr) (fd : FuncData) : Prop := FunD K "__init__" "TakenName.__init__" (defArgs sTakenName) (defBody sTakenName) (defScope sTakenName) [] [] f fd
theorem okTakenName (F : FnTakenName K f fd) : FnOk P w K mg base CX0 1 f fd ["self", "name"] (spI1 K "name") := by
  refine F.ok scTakenName (fun vs H Q E h => ?_) (fun cdv A outer s H vs Q E hr h => ?_)
  · obtain ⟨a, C, v1, rfl, _⟩ := h
    rfl
  · obtain ⟨a, C, v1, rfl, ha, T, n1, k⟩ := h
    refine ⟨_, PSs.nox (pss_one (ps_ost (pv 0) (pv 1))), ?_⟩
    refine ⟨_, rfl, _, rfl, a, C, rfl, T.oe, n1, .inl ⟨ha, fun d hd dne => ?_⟩⟩
    refine k _ (fun b o e hb => ?_) (.inr ⟨d, upd_same, by rw [upd_ne dne, upd_same]⟩)
    rw [upd_ne hb, upd_ne (ne_of_none e hd)]
    exact e
abbrev sUnlike : Stmt := inClass (top 9) 0
theorem scUnlike : FnScope ["self", "what"] ["self", "what"] (defScope sUnlike) := ⟨rfl, rfl, rfl, by decide +kernel, rfl, by decide +kernel, by decide +kernel⟩
abbrev FnUnlike (K : PySem.W.Frag) (f : Addr) (fd : FuncData) : Prop := FunD K "__init__" "Unlike.__init__" (defArgs sUnlike) (defBody sUnlike) (defScope sUnlike) [] [] f fd
theorem okUnlike (F : FnUnlike K f fd) : FnOk P w K mg base CX0 1 f fd ["self", "what"] (spI1 K "what") := by
  refine F.ok scUnlike (fun vs H Q E h => ?_) (fun cdv A outer s H vs Q E hr h => ?_)
  · obtain ⟨a, C, v1, rfl, _⟩ := h
    rfl
  · obtain ⟨a, C, v1, rfl, ha, T, n1, k⟩ := h
    refine ⟨_, PSs.nox (pss_one (ps_ost (pv 0) (pv 1))), ?_⟩
    refine ⟨_, rfl, _, rfl, a, C, rfl, T.oe, n1, .inl ⟨ha, fun d hd dne => ?_⟩⟩
    refine k _ (fun b o e hb => ?_) (.inr ⟨d, upd_same, by rw [upd_ne dne, upd_same]⟩)
    rw [upd_ne hb, upd_ne (ne_of_none e hd)]
    exact e
abbrev sMissing : Stmt := inClass (top 10) 0
theorem scMissing : FnScope ["self", "name"] ["self", "name"] (defScope sMissing) := ⟨rfl, rfl, rfl, by decide +kernel, rfl, by decide +kernel, by decide +kernel⟩
abbrev FnMissing (K : PySem.W.Frag) (f : Addr) (fd : FuncData) : Prop := FunD K "__init__" "Missing.__init__" (defArgs sMissing) (defBody sMissing) (defScope sMissing) [] [] f fd
theorem okMissing (F : FnMissing K f fd) : FnOk P w K mg base CX0 1 f fd ["self", "name"] (spI1 K "name") := by
  refine F.ok scMissing (fun vs H Q E h => ?_) (fun cdv A outer s H vs Q E hr h => ?_)
  · obtain ⟨a, C, v1, rfl, _⟩ := h
    rfl
  · obtain ⟨a, C, v1, rfl, ha, T, n1, k⟩ := h
    refine ⟨_, PSs.nox (pss_one (ps_ost (pv 0) (pv 1))), ?_⟩
    refine ⟨_, rfl, _, rfl, a, C, rfl, T.oe, n1, .inl ⟨ha, fun d hd dne => ?_⟩⟩
    refine k _ (fun b o e hb => ?_) (.inr ⟨d, upd_same, by rw [upd_ne dne, upd_same]⟩)
    rw [upd_ne hb, upd_ne (ne_of_none e hd)]
    exact e
abbrev sNotKept : Stmt := inClass (top 11) 0
theorem scNotKept : FnScope ["self", "name", "rows"] ["self", "name", "rows"] (defScope sNotKept) := ⟨rfl, rfl, rfl, by decide +kernel, rfl, by decide +kernel, by decide +kernel⟩
abbrev FnNotKept (K : PySem.W.Frag) (f : Addr) (fd : FuncData) : Prop := FunD K "__init__" "NotKept.__init__" (defArgs sNotKept) (defBody sNotKept) (defScope sNotKept) [] [] f fd
theorem okNotKept (F : FnNotKept K f fd) : FnOk P w K mg base CX0 1 f fd ["self", "name", "rows"] (spI2 K "name" "rows") := by
  refine F.ok scNotKept (fun vs H Q E h => ?_) (fun cdv A outer s H vs Q E hr h => ?_)
  · obtain ⟨a, C, v1, v2, rfl, _⟩ := h
    rfl
  · obtain ⟨a, C, v1, v2, rfl, ha, T, n1, n2, k⟩ := h
    refine ⟨_, PSs.nox (pss_cons (ps_ost (pv 0) (pv 1)) (pss_one (ps_ost (pv 0) (pv 2)))), ?_⟩
    refine ⟨_, rfl, _, rfl, a, C, rfl, T.oe, n1, .inl ⟨ha, fun d hd dne => ?_⟩⟩
    refine ⟨_, rfl, _, rfl, a, C, rfl, T.oe, n2, .inr ⟨d, _, upd_same, (by rw [upd_ne dne, upd_same]), (by show 1 ≤ 900; decide), ?_⟩⟩
    refine k _ (fun b o e hb => ?_) (.inr ⟨d, by rw [upd_ne dne.symm, upd_same], upd_same⟩)
    rw [upd_ne (ne_of_none e hd), upd_ne hb, upd_ne (ne_of_none e hd)]
    exact e
end
end K00
namespace K00
open PySem PySem.Spec PyProof.Rows L2 Pen He
/-- the twelve, in the order of kinds -/
def ord : List Str := ["BadLine", "BadName", "BadNumber", "BadRow", "BadWidth", "Missing", "NoName", "NotKept", "NothingToRedo", "NothingToUndo", "TakenName", "Unlike"]
def allN : List Str := ["BadLine", "BadName", "BadNumber", "BadRow", "BadWidth", "Missing", "NoName", "NotKept", "NothingToRedo", "NothingToUndo", "TakenName", "Unlike", "CycleError"]
def iniN : List Str := ["BadLine", "BadNumber", "BadRow", "BadName", "BadWidth", "NoName", "TakenName", "Unlike", "Missing", "NotKept"]
def exN : List Str := ["NothingToRedo", "NothingToUndo", "CycleError"]
def noN : List (Str × Str) := [("BadLine", "line"), ("BadLine", "column"), ("BadNumber", "what"), ("BadNumber", "number"), ("BadRow", "row"), ("BadName", "name"), ("BadWidth", "name"), ("BadWidth", "wanted"), ("BadWidth", "told"), ("NoName", "name"), ("TakenName", "name"), ("Unlike", "what"), ("Missing", "name"), ("NotKept", "name"), ("NotKept", "rows")]
/-- the class called x -/
abbrev cA (K : PySem.W.Frag) (x : Str) : Addr := ga K x
abbrev iA (K : PySem.W.Frag) (x : Str) : Addr := ma K (ga K x) "__init__"
def exB (K : PySem.W.Frag) : Bool :=
  (allN.all fun x => Exo.okB K (cA K x)) &&
  ((iniN.all fun x => decide (PySem.W.findIn K (.ref (cA K x)) "__init__" = some (some (.ref (iA K x)))) && decide (PySem.W.typeIn K (.ref (iA K x)) = some (.type "function"))) &&
  ((noN.all fun p => decide (PySem.W.findIn K (.ref (cA K p.1)) p.2 = some none)) &&
  ((allN.all fun x => ord.all fun y => decide (PySem.W.kitOne K (.ref (cA K x)) (.ref (cA K y)) = some (decide (x = y)))) &&
  ((allN.all fun x => decide (PySem.W.kitOne K (.ref (cA K x)) (.ref (cA K "CycleError")) = some true) && decide (PySem.W.kitOne K (.ref (cA K x)) (.type "ValueError") = some true)) &&
  (exN.all fun x => PySem.W.excIn K (cA K x) veBase "ValueError.__new__")))))
structure Tx (K : PySem.W.Frag) (mg : Str → Option Value) : Prop where
  pen : Pen.Txt mg
  isi : mg "isinstance" = none
  rng : mg "range" = none
  ve : mg "ValueError" = none
  g : ∀ x ∈ allN, mg x = some (.ref (cA K x))
  ex : exB K = true
section
variable {K : PySem.W.Frag} {mg : Str → Option Value}
theorem Tx.cl (T : Tx K mg) {x : Str} (h : x ∈ allN) : Exo.Cl K (cA K x) := Exo.okB_ok (List.all_eq_true.mp (Exo.and2 T.ex).1 x h)
theorem Tx.ini (T : Tx K mg) {x : Str} (h : x ∈ iniN) : PySem.W.findIn K (.ref (cA K x)) "__init__" = some (some (.ref (iA K x))) ∧ PySem.W.typeIn K (.ref (iA K x)) = some (.type "function") := by
  obtain ⟨h1, h2⟩ := Exo.and2 (List.all_eq_true.mp (Exo.and2 (Exo.and2 T.ex).2).1 x h)
  exact ⟨of_decide_eq_true h1, of_decide_eq_true h2⟩
theorem Tx.no (T : Tx K mg) (x f : Str) (h : (x, f) ∈ noN) : PySem.W.findIn K (.ref (cA K x)) f = some none :=
  of_decide_eq_true (List.all_eq_true.mp (Exo.and2 (Exo.and2 (Exo.and2 T.ex).2).2).1 (x, f) h)
theorem Tx.kit (T : Tx K mg) {x y : Str} (h : x ∈ allN) (hy : y ∈ ord) : PySem.W.kitOne K (.ref (cA K x)) (.ref (cA K y)) = some (decide (x = y)) :=
  of_decide_eq_true (List.all_eq_true.mp (List.all_eq_true.mp (Exo.and2 (Exo.and2 (Exo.and2 (Exo.and2 T.ex).2).2).2).1 x h) y hy)
theorem Tx.kitB (T : Tx K mg) {x : Str} (h : x ∈ allN) : PySem.W.kitOne K (.ref (cA K x)) (.ref (cA K "CycleError")) = some true ∧ PySem.W.kitOne K (.ref (cA K x)) (.type "ValueError") = some true := by
  obtain ⟨h1, h2⟩ := Exo.and2 (List.all_eq_true.mp (Exo.and2 (Exo.and2 (Exo.and2 (Exo.and2 (Exo.and2 T.ex).2).2).2).2).1 x h)
  exact ⟨of_decide_eq_true h1, of_decide_eq_true h2⟩
theorem Tx.exc (T : Tx K mg) {x : Str} (h : x ∈ exN) : PySem.W.excIn K (cA K x) veBase "ValueError.__new__" = true :=
  List.all_eq_true.mp (Exo.and2 (Exo.and2 (Exo.and2 (Exo.and2 (Exo.and2 T.ex).2).2).2).2).2 x h
end
/-- kinds: which of the twelve an error of the class x is -/
def marks (x : Str) : List V := ord.map fun y => V.bl (decide (x = y))
def spKinds (K : PySem.W.Frag) : Sp := fun vs H Q _ => ∃ (a : Addr) (x : Str) (fs : List (Str × V)), vs = [.ref a] ∧ x ∈ allN ∧ Exo.At H a (cA K x) fs ∧ ∀ (p : Addr) (H' : Hp), Same H H' → H p = none → H' p = some (.lst (marks x)) → Q (.ref p) H'
abbrev sKinds : Stmt := top 18
abbrev sLaw : Stmt := top 19
abbrev kdN : List Str := ["_law_error", "_law_found"]
abbrev lN : List Str := ["_law_script", "_law_pen_here", "_law_one", "_law_two", "_law_line", "_law_number", "_law_width", "_law_kept", "_law_single", "_law_told", "_law_errors", "_law_place", "_law_plain", "_law_k"]
section
variable {P : Program} {w : World} {K : PySem.W.Frag} {mg : Str → Option Value} {base : Heap} {f : Addr} {fd : FuncData}
theorem scKinds : FnScope kdN ["_law_error"] (defScope sKinds) := ⟨rfl, rfl, rfl, by decide +kernel, rfl, by decide +kernel, by decide +kernel⟩
theorem scLaw : FnScope lN ["_law_script"] (defScope sLaw) := ⟨rfl, rfl, rfl, by decide +kernel, rfl, by decide +kernel, by decide +kernel⟩
theorem ok_kinds (F : FnP K "_law_kinds" sKinds f fd) (T : Tx K mg) : FnOk P w K mg base CX0 1 f fd ["_law_error"] (spKinds K) := by
  refine F.ok scKinds (fun vs H Q E h => ?_) (fun cdv A outer s H vs Q E hr h => ?_)
  · obtain ⟨a, x, fs, rfl, _⟩ := h
    rfl
  · obtain ⟨a, x, fs, rfl, hx, hA, k⟩ := h
    have C := T.cl hx
    refine ⟨_, PSs.nox (pss_cons (ps_set (i := 1) scKinds.nd rfl (Or.inl rfl) (pe_lst (pa_cons (pe_callB Exo.call_is (by rfl) T.isi (by decide +kernel) (pa_cons (pv 0) (pa_cons (pe_glob (v := V.ref (cA K "BadLine")) (by rfl) (T.g "BadLine" (by decide +kernel)) rfl) pa_nil))) (pa_cons (pe_callB Exo.call_is (by rfl) T.isi (by decide +kernel) (pa_cons (pv 0) (pa_cons (pe_glob (v := V.ref (cA K "BadName")) (by rfl) (T.g "BadName" (by decide +kernel)) rfl) pa_nil))) (pa_cons (pe_callB Exo.call_is (by rfl) T.isi (by decide +kernel) (pa_cons (pv 0) (pa_cons (pe_glob (v := V.ref (cA K "BadNumber")) (by rfl) (T.g "BadNumber" (by decide +kernel)) rfl) pa_nil))) pa_nil)))))
      (pss_cons (ps_set (i := 1) scKinds.nd rfl (Or.inl rfl) (pe_op op_cat (pv 1) (pe_lst (pa_cons (pe_callB Exo.call_is (by rfl) T.isi (by decide +kernel) (pa_cons (pv 0) (pa_cons (pe_glob (v := V.ref (cA K "BadRow")) (by rfl) (T.g "BadRow" (by decide +kernel)) rfl) pa_nil))) (pa_cons (pe_callB Exo.call_is (by rfl) T.isi (by decide +kernel) (pa_cons (pv 0) (pa_cons (pe_glob (v := V.ref (cA K "BadWidth")) (by rfl) (T.g "BadWidth" (by decide +kernel)) rfl) pa_nil))) (pa_cons (pe_callB Exo.call_is (by rfl) T.isi (by decide +kernel) (pa_cons (pv 0) (pa_cons (pe_glob (v := V.ref (cA K "Missing")) (by rfl) (T.g "Missing" (by decide +kernel)) rfl) pa_nil))) pa_nil))))))
      (pss_cons (ps_set (i := 1) scKinds.nd rfl (Or.inl rfl) (pe_op op_cat (pv 1) (pe_lst (pa_cons (pe_callB Exo.call_is (by rfl) T.isi (by decide +kernel) (pa_cons (pv 0) (pa_cons (pe_glob (v := V.ref (cA K "NoName")) (by rfl) (T.g "NoName" (by decide +kernel)) rfl) pa_nil))) (pa_cons (pe_callB Exo.call_is (by rfl) T.isi (by decide +kernel) (pa_cons (pv 0) (pa_cons (pe_glob (v := V.ref (cA K "NotKept")) (by rfl) (T.g "NotKept" (by decide +kernel)) rfl) pa_nil))) (pa_cons (pe_callB Exo.call_is (by rfl) T.isi (by decide +kernel) (pa_cons (pv 0) (pa_cons (pe_glob (v := V.ref (cA K "NothingToRedo")) (by rfl) (T.g "NothingToRedo" (by decide +kernel)) rfl) pa_nil))) pa_nil))))))
      (pss_cons (ps_set (i := 1) scKinds.nd rfl (Or.inl rfl) (pe_op op_cat (pv 1) (pe_lst (pa_cons (pe_callB Exo.call_is (by rfl) T.isi (by decide +kernel) (pa_cons (pv 0) (pa_cons (pe_glob (v := V.ref (cA K "NothingToUndo")) (by rfl) (T.g "NothingToUndo" (by decide +kernel)) rfl) pa_nil))) (pa_cons (pe_callB Exo.call_is (by rfl) T.isi (by decide +kernel) (pa_cons (pv 0) (pa_cons (pe_glob (v := V.ref (cA K "TakenName")) (by rfl) (T.g "TakenName" (by decide +kernel)) rfl) pa_nil))) (pa_cons (pe_callB Exo.call_is (by rfl) T.isi (by decide +kernel) (pa_cons (pv 0) (pa_cons (pe_glob (v := V.ref (cA K "Unlike")) (by rfl) (T.g "Unlike" (by decide +kernel)) rfl) pa_nil))) pa_nil))))))
      (pss_one (ps_ret (pe_ifExp (PW.pt (pw_and (pt_val (pe_callB Exo.call_is (by rfl) T.isi (by decide +kernel) (pa_cons (pv 0) (pa_cons (pe_glob (v := V.ref (cA K "CycleError")) (by rfl) (T.g "CycleError" (by decide +kernel)) rfl) pa_nil)))) (pw_and1 (pt_val (pe_callB Exo.call_is (by rfl) T.isi (by decide +kernel) (pa_cons (pv 0) (pa_cons (pe_bltn (v := .ty "ValueError") (by rfl) T.ve (by decide +kernel) rfl) pa_nil))))))) (pv 1) (pe_lst pa_nil)))))))), ?_⟩
    refine ⟨_, rfl, a, _, fs, _, _, _, rfl, hA, C, .own _, T.kit hx (y := "BadLine") (by decide +kernel), _, rfl, a, _, fs, _, _, _, rfl, hA, C, .own _, T.kit hx (y := "BadName") (by decide +kernel), _, rfl, a, _, fs, _, _, _, rfl, hA, C, .own _, T.kit hx (y := "BadNumber") (by decide +kernel), (by show 3 ≤ sizeLine; decide), fun p0 n0 => ?_⟩
    refine ⟨_, rfl, _, rfl, a, _, fs, _, _, _, rfl, hA.same (same_new n0), C, .own _, T.kit hx (y := "BadRow") (by decide +kernel), _, rfl, a, _, fs, _, _, _, rfl, hA.same (same_new n0), C, .own _, T.kit hx (y := "BadWidth") (by decide +kernel), _, rfl, a, _, fs, _, _, _, rfl, hA.same (same_new n0), C, .own _, T.kit hx (y := "Missing") (by decide +kernel), (by show 3 ≤ sizeLine; decide), fun p1 n1 => ?_⟩
    refine ⟨_, _, _, _, rfl, rfl, same_new n1 _ _ upd_same, upd_same, (by show 3 + 3 ≤ sizeLine; decide), fun r1 m1 => ?_⟩
    refine ⟨_, rfl, _, rfl, a, _, fs, _, _, _, rfl, hA.same ((same_new n0).trans ((same_new n1).trans (same_new m1))), C, .own _, T.kit hx (y := "NoName") (by decide +kernel), _, rfl, a, _, fs, _, _, _, rfl, hA.same ((same_new n0).trans ((same_new n1).trans (same_new m1))), C, .own _, T.kit hx (y := "NotKept") (by decide +kernel), _, rfl, a, _, fs, _, _, _, rfl, hA.same ((same_new n0).trans ((same_new n1).trans (same_new m1))), C, .own _, T.kit hx (y := "NothingToRedo") (by decide +kernel), (by show 3 ≤ sizeLine; decide), fun p2 n2 => ?_⟩
    refine ⟨_, _, _, _, rfl, rfl, same_new n2 _ _ upd_same, upd_same, (by show 6 + 3 ≤ sizeLine; decide), fun r2 m2 => ?_⟩
    refine ⟨_, rfl, _, rfl, a, _, fs, _, _, _, rfl, hA.same ((same_new n0).trans ((same_new n1).trans ((same_new m1).trans ((same_new n2).trans (same_new m2))))), C, .own _, T.kit hx (y := "NothingToUndo") (by decide +kernel), _, rfl, a, _, fs, _, _, _, rfl, hA.same ((same_new n0).trans ((same_new n1).trans ((same_new m1).trans ((same_new n2).trans (same_new m2))))), C, .own _, T.kit hx (y := "TakenName") (by decide +kernel), _, rfl, a, _, fs, _, _, _, rfl, hA.same ((same_new n0).trans ((same_new n1).trans ((same_new m1).trans ((same_new n2).trans (same_new m2))))), C, .own _, T.kit hx (y := "Unlike") (by decide +kernel), (by show 3 ≤ sizeLine; decide), fun p3 n3 => ?_⟩
    refine ⟨_, _, _, _, rfl, rfl, same_new n3 _ _ upd_same, upd_same, (by show 9 + 3 ≤ sizeLine; decide), fun r3 m3 => ?_⟩
    refine ⟨_, rfl, a, _, fs, _, _, _, rfl, hA.same ((same_new n0).trans ((same_new n1).trans ((same_new m1).trans ((same_new n2).trans ((same_new m2).trans ((same_new n3).trans (same_new m3))))))), C, .own _, (T.kitB hx).1, _, rfl, ?_⟩
    refine iteT ⟨_, rfl, a, _, fs, _, _, _, rfl, hA.same ((same_new n0).trans ((same_new n1).trans ((same_new m1).trans ((same_new n2).trans ((same_new m2).trans ((same_new n3).trans (same_new m3))))))), C, .ty _, (T.kitB hx).2, _, rfl, ?_⟩
    refine iteT ⟨_, rfl, ?_⟩
    refine k _ _ ((same_new n0).trans ((same_new n1).trans ((same_new m1).trans ((same_new n2).trans ((same_new m2).trans ((same_new n3).trans (same_new m3))))))) (((same_new n0).trans ((same_new n1).trans ((same_new m1).trans ((same_new n2).trans ((same_new m2).trans (same_new n3)))))).free m3) ?_
    exact upd_same
end
end K00
namespace K00
open PySem PySem.Spec PyProof.Rows L2 Pen He
theorem yes_of {σ : L2.St} {H : Hp} {A B : Hp → Prop} (h : A H) : tYes σ H fun b H3 => if b = true then A H3 else B H3 := by
  show if true = true then A H else B H
  exact iteT h
theorem same_new2 {H : Hp} {p : Addr} {u v : HO} (np : H p = none) : Same H (upd (upd H p u) p v) := by
  rw [upd_upd]
  exact same_new np
theorem pen_ne {H : Hp} {p q : Addr} {m : Nat} (h : PenAt H p m) (n : H q = none) : q ≠ p := by
  obtain ⟨c, ns, a, d, k, f, h1, _⟩ := h
  intro e
  rw [e, h1] at n
  cases n
/-- what the comparisons tell in the turn i -/
def cell (i k : Nat) : V := V.bl (decide (V.int (0 + (k : Int)) = V.int (0 + (i : Int))))
def row (i n : Nat) : List V := (List.range n).map (cell i)
theorem marks_row : ∀ i, i < 12 → marks (ord.getD i "") = row i 12 := by decide +kernel
theorem row_more (i n : Nat) : row i (n + 1) = row i n ++ [cell i n] := by
  unfold row
  rw [List.range_succ, List.map_append]
  rfl
theorem row_one {i n : Nat} : ∀ v ∈ row i n, Exo.One v := by
  intro v hv
  obtain ⟨k, _, rfl⟩ := List.mem_map.mp hv
  exact .inl rfl
theorem marks_one {x : Str} : ∀ v ∈ marks x, Exo.One v := by
  intro v hv
  obtain ⟨k, _, rfl⟩ := List.mem_map.mp hv
  exact .inl rfl
theorem ones2 {x y : V} (hx : Exo.One x) (hy : Exo.One y) : ∀ v ∈ [x, y, x, y], Exo.One v := by
  intro v hv
  simp only [List.mem_cons, List.not_mem_nil, or_false] at hv
  rcases hv with rfl | rfl | rfl | rfl <;> assumption
theorem ones5 {x y : V} (hx : Exo.One x) (hy : Exo.One y) : ∀ v ∈ [x, y, .int 7, x, y], Exo.One v := by
  intro v hv
  simp only [List.mem_cons, List.not_mem_nil, or_false] at hv
  rcases hv with rfl | rfl | rfl | rfl | rfl
  all_goals first | assumption | exact .inl rfl
theorem ones6 {x : V} (hx : Exo.One x) : ∀ v ∈ [x, x, x, x, x, x], Exo.One v := by
  intro v hv
  simp only [List.mem_cons, List.not_mem_nil, or_false] at hv
  rcases hv with rfl | rfl | rfl | rfl | rfl | rfl <;> assumption
theorem one_of6 {t l : Addr} {v : V} {i : Nat} (h : [V.int 3, V.str "name", V.non, V.ref t, V.ref l, V.bl true][i]? = some v) : Exo.One v := by
  have hv := List.mem_of_getElem? h
  simp only [List.mem_cons, List.not_mem_nil, or_false] at hv
  rcases hv with rfl | rfl | rfl | rfl | rfl | rfl
  all_goals first | exact .inl rfl | exact .inr ⟨_, rfl⟩
theorem one_of5 {t l d : Addr} {v : V} {i : Nat} (h : [V.int 0, V.str "", V.ref t, V.ref l, V.ref d][i]? = some v) : Exo.One v := by
  have hv := List.mem_of_getElem? h
  simp only [List.mem_cons, List.not_mem_nil, or_false] at hv
  rcases hv with rfl | rfl | rfl | rfl | rfl
  all_goals first | exact .inl rfl | exact .inr ⟨_, rfl⟩
def spLaw (K : PySem.W.Frag) : Sp := fun vs H Q _ => ∃ (a : Addr) (ns : List Int), vs = [.ref a] ∧ SqL K H a (ns.map V.int) ∧ ns.length ≤ 63 ∧ ∀ H', Q (.bl true) H'
section
variable {P : Program} {w : World} {K : PySem.W.Frag} {mg : Str → Option Value} {base : Heap} {f : Addr} {fd : FuncData}
theorem ok_law {fP fD fK fE : Addr} {fdP fdD fdK fdE : FuncData} (F : FnP K "law" sLaw f fd) (T : Tx K mg) (FP : FnP K "_law_pen" sPen fP fdP) (gP : mg "_law_pen" = some (.ref fP)) (FD : FnP K "_law_draw" sDraw fD fdD) (gD : mg "_law_draw" = some (.ref fD))
    (FK : FnP K "_law_pick" sPick fK fdK) (gK : mg "_law_pick" = some (.ref fK)) (FE : FnP K "_law_kinds" sKinds fE fdE) (gE : mg "_law_kinds" = some (.ref fE))
    {fdBadLine : FuncData} (FBadLine : FnBadLine K (iA K "BadLine") fdBadLine) {fdBadNumber : FuncData} (FBadNumber : FnBadNumber K (iA K "BadNumber") fdBadNumber) {fdBadRow : FuncData} (FBadRow : FnBadRow K (iA K "BadRow") fdBadRow) {fdBadName : FuncData} (FBadName : FnBadName K (iA K "BadName") fdBadName) {fdBadWidth : FuncData} (FBadWidth : FnBadWidth K (iA K "BadWidth") fdBadWidth) {fdNoName : FuncData} (FNoName : FnNoName K (iA K "NoName") fdNoName) {fdTakenName : FuncData} (FTakenName : FnTakenName K (iA K "TakenName") fdTakenName) {fdUnlike : FuncData} (FUnlike : FnUnlike K (iA K "Unlike") fdUnlike) {fdMissing : FuncData} (FMissing : FnMissing K (iA K "Missing") fdMissing) {fdNotKept : FuncData} (FNotKept : FnNotKept K (iA K "NotKept") fdNotKept) : FnOk P w K mg base CX0 3 f fd ["_law_script"] (spLaw K) := by
  have GP : FnOk P w K mg base CX0 1 fP fdP ["_law_script"] (spPen K) := ok_pen FP T.pen
  have GK : FnOk P w K mg base CX0 2 fK fdK ["_law_pen_here", "_law_some"] (spPick K) := ok_pick FK T.pen FD gD
  have GE : FnOk P w K mg base CX0 1 fE fdE ["_law_error"] (spKinds K) := ok_kinds FE T
  have bP : Binds K fdP ["_law_script"] [] := FP.bindsN fun _ _ _ _ _ _ us hl => match us, hl with | [_], _ => rfl
  have bK : Binds K fdK ["_law_pen_here", "_law_some"] [] := FK.bindsN fun _ _ _ _ _ _ us hl => match us, hl with | [_, _], _ => rfl
  have bE : Binds K fdE ["_law_error"] [] := FE.bindsN fun _ _ _ _ _ _ us hl => match us, hl with | [_], _ => rfl
  have GBadLine : FnOk P w K mg base CX0 1 (iA K "BadLine") fdBadLine ["self", "line", "column"] (spI2 K "line" "column") := okBadLine FBadLine
  have bBadLine : Binds K fdBadLine ["self", "line", "column"] [] := FBadLine.bindsN fun _ _ _ _ _ _ us hl => match us, hl with | [_, _, _], _ => rfl
  have GBadNumber : FnOk P w K mg base CX0 1 (iA K "BadNumber") fdBadNumber ["self", "what", "number"] (spI2 K "what" "number") := okBadNumber FBadNumber
  have bBadNumber : Binds K fdBadNumber ["self", "what", "number"] [] := FBadNumber.bindsN fun _ _ _ _ _ _ us hl => match us, hl with | [_, _, _], _ => rfl
  have GBadRow : FnOk P w K mg base CX0 1 (iA K "BadRow") fdBadRow ["self", "row"] (spI1 K "row") := okBadRow FBadRow
  have bBadRow : Binds K fdBadRow ["self", "row"] [] := FBadRow.bindsN fun _ _ _ _ _ _ us hl => match us, hl with | [_, _], _ => rfl
  have GBadName : FnOk P w K mg base CX0 1 (iA K "BadName") fdBadName ["self", "name"] (spI1 K "name") := okBadName FBadName
  have bBadName : Binds K fdBadName ["self", "name"] [] := FBadName.bindsN fun _ _ _ _ _ _ us hl => match us, hl with | [_, _], _ => rfl
  have GBadWidth : FnOk P w K mg base CX0 1 (iA K "BadWidth") fdBadWidth ["self", "name", "wanted", "told"] (spI3 K "name" "wanted" "told") := okBadWidth FBadWidth
  have bBadWidth : Binds K fdBadWidth ["self", "name", "wanted", "told"] [] := FBadWidth.bindsN fun _ _ _ _ _ _ us hl => match us, hl with | [_, _, _, _], _ => rfl
  have GNoName : FnOk P w K mg base CX0 1 (iA K "NoName") fdNoName ["self", "name"] (spI1 K "name") := okNoName FNoName
  have bNoName : Binds K fdNoName ["self", "name"] [] := FNoName.bindsN fun _ _ _ _ _ _ us hl => match us, hl with | [_, _], _ => rfl
  have GTakenName : FnOk P w K mg base CX0 1 (iA K "TakenName") fdTakenName ["self", "name"] (spI1 K "name") := okTakenName FTakenName
  have bTakenName : Binds K fdTakenName ["self", "name"] [] := FTakenName.bindsN fun _ _ _ _ _ _ us hl => match us, hl with | [_, _], _ => rfl
  have GUnlike : FnOk P w K mg base CX0 1 (iA K "Unlike") fdUnlike ["self", "what"] (spI1 K "what") := okUnlike FUnlike
  have bUnlike : Binds K fdUnlike ["self", "what"] [] := FUnlike.bindsN fun _ _ _ _ _ _ us hl => match us, hl with | [_, _], _ => rfl
  have GMissing : FnOk P w K mg base CX0 1 (iA K "Missing") fdMissing ["self", "name"] (spI1 K "name") := okMissing FMissing
  have bMissing : Binds K fdMissing ["self", "name"] [] := FMissing.bindsN fun _ _ _ _ _ _ us hl => match us, hl with | [_, _], _ => rfl
  have GNotKept : FnOk P w K mg base CX0 1 (iA K "NotKept") fdNotKept ["self", "name", "rows"] (spI2 K "name" "rows") := okNotKept FNotKept
  have bNotKept : Binds K fdNotKept ["self", "name", "rows"] [] := FNotKept.bindsN fun _ _ _ _ _ _ us hl => match us, hl with | [_, _, _], _ => rfl
  refine F.ok scLaw (fun vs H Q E h => ?_) (fun cdv A outer s H vs Q E hr h => ?_)
  · obtain ⟨a, ns, rfl, _⟩ := h
    rfl
  · obtain ⟨a, ns, rfl, hS, hlen, k⟩ := h
    have hr1 : Room 1 _ := hr.mono (by decide)
    have hu := Nat.lt_of_succ_lt (hu_of hr)
    refine ⟨_, PSs.nox (pss_cons (ps_set (i := 1) scLaw.nd rfl (Or.inl rfl) (pe_call GP hr1 rfl gP FP.kp bP .nil pass0 (pa_cons (pv 0) pa_nil)))
      (pss_cons (ps_set (i := 2) scLaw.nd rfl (Or.inl rfl) (pe_call GK hr rfl gK FK.kp bK .nil pass0 (pa_cons (pv 1) (pa_cons (pe_lst (pa_cons (pe_int) (pa_cons (pe_str) (pa_cons (pe_non) (pa_cons (pe_tup (pa_cons (pe_int) (pa_cons (pe_int) pa_nil))) (pa_cons (pe_lst (pa_cons (pe_int) (pa_cons (pe_int) pa_nil))) (pa_cons (pe_bl) pa_nil))))))) pa_nil))))
      (pss_cons (ps_set (i := 3) scLaw.nd rfl (Or.inl rfl) (pe_call GK hr rfl gK FK.kp bK .nil pass0 (pa_cons (pv 1) (pa_cons (pe_lst (pa_cons (pe_int) (pa_cons (pe_str) (pa_cons (pe_tup (pa_cons (pe_str) pa_nil)) (pa_cons (pe_lst pa_nil) (pa_cons (pe_disp (pps_cons pe_str pe_int pps_nil) (by rfl) (by rfl) (fun z => by cases z) (by decide)) pa_nil)))))) pa_nil))))
      (pss_cons (ps_par (i := 4) (j := 5) (by rfl) scLaw.nd rfl rfl (by decide) rfl rfl (pa_cons (Exo.pe_mk (T.cl (x := "BadLine") (by decide +kernel)) (T.ini (x := "BadLine") (by decide +kernel)).1 (T.ini (x := "BadLine") (by decide +kernel)).2 GBadLine hr bBadLine (by rfl) (T.g "BadLine" (by decide +kernel)) (pa_cons (pv 2) (pa_cons (pv 3) pa_nil))) (pa_cons (Exo.pe_mk (T.cl (x := "BadNumber") (by decide +kernel)) (T.ini (x := "BadNumber") (by decide +kernel)).1 (T.ini (x := "BadNumber") (by decide +kernel)).2 GBadNumber hr bBadNumber (by rfl) (T.g "BadNumber" (by decide +kernel)) (pa_cons (pv 2) (pa_cons (pv 3) pa_nil))) pa_nil)) (by rfl))
      (pss_cons (ps_par (i := 6) (j := 7) (by rfl) scLaw.nd rfl rfl (by decide) rfl rfl (pa_cons (Exo.pe_mk (T.cl (x := "BadWidth") (by decide +kernel)) (T.ini (x := "BadWidth") (by decide +kernel)).1 (T.ini (x := "BadWidth") (by decide +kernel)).2 GBadWidth hr bBadWidth (by rfl) (T.g "BadWidth" (by decide +kernel)) (pa_cons (pv 2) (pa_cons (pv 3) (pa_cons (pe_int) pa_nil)))) (pa_cons (Exo.pe_mk (T.cl (x := "NotKept") (by decide +kernel)) (T.ini (x := "NotKept") (by decide +kernel)).1 (T.ini (x := "NotKept") (by decide +kernel)).2 GNotKept hr bNotKept (by rfl) (T.g "NotKept" (by decide +kernel)) (pa_cons (pv 2) (pa_cons (pv 3) pa_nil))) pa_nil)) (by rfl))
      (pss_cons (ps_if (pt_cmpR (Exo.op_neSame hu) (pe_lst (pa_cons (Exo.pe_fld (pv 4)) (pa_cons (Exo.pe_fld (pv 4)) (pa_cons (Exo.pe_fld (pv 5)) (pa_cons (Exo.pe_fld (pv 5)) pa_nil))))) (pe_lst (pa_cons (pv 2) (pa_cons (pv 3) (pa_cons (pv 2) (pa_cons (pv 3) pa_nil))))) (nomark _)) (pss_one (ps_ret pe_bl)) pss_nil)
      (pss_cons (ps_if (pt_cmpR (Exo.op_neSame hu) (pe_lst (pa_cons (Exo.pe_fld (pv 6)) (pa_cons (Exo.pe_fld (pv 6)) (pa_cons (Exo.pe_fld (pv 6)) (pa_cons (Exo.pe_fld (pv 7)) (pa_cons (Exo.pe_fld (pv 7)) pa_nil)))))) (pe_lst (pa_cons (pv 2) (pa_cons (pv 3) (pa_cons (pe_int) (pa_cons (pv 2) (pa_cons (pv 3) pa_nil)))))) (nomark _)) (pss_one (ps_ret pe_bl)) pss_nil)
      (pss_cons (ps_set (i := 8) scLaw.nd rfl (Or.inl rfl) (pe_lst (pa_cons (Exo.pe_mk (T.cl (x := "BadName") (by decide +kernel)) (T.ini (x := "BadName") (by decide +kernel)).1 (T.ini (x := "BadName") (by decide +kernel)).2 GBadName hr bBadName (by rfl) (T.g "BadName" (by decide +kernel)) (pa_cons (pv 2) pa_nil)) (pa_cons (Exo.pe_mk (T.cl (x := "BadRow") (by decide +kernel)) (T.ini (x := "BadRow") (by decide +kernel)).1 (T.ini (x := "BadRow") (by decide +kernel)).2 GBadRow hr bBadRow (by rfl) (T.g "BadRow" (by decide +kernel)) (pa_cons (pv 2) pa_nil)) (pa_cons (Exo.pe_mk (T.cl (x := "Missing") (by decide +kernel)) (T.ini (x := "Missing") (by decide +kernel)).1 (T.ini (x := "Missing") (by decide +kernel)).2 GMissing hr bMissing (by rfl) (T.g "Missing" (by decide +kernel)) (pa_cons (pv 2) pa_nil)) (pa_cons (Exo.pe_mk (T.cl (x := "NoName") (by decide +kernel)) (T.ini (x := "NoName") (by decide +kernel)).1 (T.ini (x := "NoName") (by decide +kernel)).2 GNoName hr bNoName (by rfl) (T.g "NoName" (by decide +kernel)) (pa_cons (pv 2) pa_nil)) (pa_cons (Exo.pe_mk (T.cl (x := "TakenName") (by decide +kernel)) (T.ini (x := "TakenName") (by decide +kernel)).1 (T.ini (x := "TakenName") (by decide +kernel)).2 GTakenName hr bTakenName (by rfl) (T.g "TakenName" (by decide +kernel)) (pa_cons (pv 2) pa_nil)) (pa_cons (Exo.pe_mk (T.cl (x := "Unlike") (by decide +kernel)) (T.ini (x := "Unlike") (by decide +kernel)).1 (T.ini (x := "Unlike") (by decide +kernel)).2 GUnlike hr bUnlike (by rfl) (T.g "Unlike" (by decide +kernel)) (pa_cons (pv 2) pa_nil)) pa_nil))))))))
      (pss_cons (ps_set (i := 9) scLaw.nd rfl (Or.inl rfl) (pe_lst (pa_cons (Exo.pe_fld (pe_ix ix_list (pv 8) pe_int (fun _ _ => rfl))) (pa_cons (Exo.pe_fld (pe_ix ix_list (pv 8) pe_int (fun _ _ => rfl))) (pa_cons (Exo.pe_fld (pe_ix ix_list (pv 8) pe_int (fun _ _ => rfl))) (pa_cons (Exo.pe_fld (pe_ix ix_list (pv 8) pe_int (fun _ _ => rfl))) (pa_cons (Exo.pe_fld (pe_ix ix_list (pv 8) pe_int (fun _ _ => rfl))) (pa_cons (Exo.pe_fld (pe_ix ix_list (pv 8) pe_int (fun _ _ => rfl))) pa_nil))))))))
      (pss_cons (ps_if (pt_cmpR (Exo.op_neSame hu) (pv 9) (pe_op op_rep (pe_lst (pa_cons (pv 2) pa_nil)) pe_int) (nomark _)) (pss_one (ps_ret pe_bl)) pss_nil)
      (pss_cons (ps_set (i := 10) scLaw.nd rfl (Or.inl rfl) (pe_lst (pa_cons (pv 4) (pa_cons (pe_ix ix_list (pv 8) pe_int (fun _ _ => rfl)) (pa_cons (pv 5) (pa_cons (pe_ix ix_list (pv 8) pe_int (fun _ _ => rfl)) (pa_cons (pv 6) (pa_cons (pe_ix ix_list (pv 8) pe_int (fun _ _ => rfl)) (pa_cons (pe_ix ix_list (pv 8) pe_int (fun _ _ => rfl)) (pa_cons (pv 7) pa_nil))))))))))
      (pss_cons (ps_set (i := 10) scLaw.nd rfl (Or.inl rfl) (pe_op op_cat (pv 10) (pe_lst (pa_cons (Exo.pe_mk0 (T.cl (x := "NothingToRedo") (by decide +kernel)) (T.exc (x := "NothingToRedo") (by decide +kernel)) (by rfl) (T.g "NothingToRedo" (by decide +kernel))) (pa_cons (Exo.pe_mk0 (T.cl (x := "NothingToUndo") (by decide +kernel)) (T.exc (x := "NothingToUndo") (by decide +kernel)) (by rfl) (T.g "NothingToUndo" (by decide +kernel))) (pa_cons (pe_ix ix_list (pv 8) pe_int (fun _ _ => rfl)) (pa_cons (pe_ix ix_list (pv 8) pe_int (fun _ _ => rfl)) pa_nil)))))))
      (pss_cons (ps_for PassesOwn.never rfl (pi_range1 (by rfl) T.rng (pa_cons pe_int pa_nil)) (pg_name (i := 11) scLaw.nd rfl (Or.inr rfl)) (pss_one (ps_if (pt_cmpR (Exo.op_neSame hu) (pe_call GE hr1 rfl gE FE.kp bE .nil pass0 (pa_cons (pe_ix ix_list (pv 10) (pv 11) (fun _ _ => rfl)) pa_nil)) (pe_lc (own := [("_law_k", 13)]) (g := gName 13) (tt := tYes) rfl scLaw.nd (pi_range1 (by rfl) T.rng (pa_cons pe_int pa_nil)) (blkOk_by (N := lN) (sc := defScope sLaw) (by decide +kernel)) (fun _ _ _ _ _ => pg_name (i := 13) scLaw.nd rfl (Or.inl rfl)) (fun _ _ _ _ _ => pts_nil) (fun _ _ _ _ _ => pe_cmpR op_eq (pv 13) (pv 11) (nomark _))) (nomark _)) (pss_one (ps_ret pe_bl)) pss_nil)))
      (pss_cons (ps_set (i := 12) scLaw.nd rfl (Or.inl rfl) (Exo.pe_mk0 (T.cl (x := "CycleError") (by decide +kernel)) (T.exc (x := "CycleError") (by decide +kernel)) (by rfl) (T.g "CycleError" (by decide +kernel))))
      (pss_one (ps_ret (pe_and (pe_callB Exo.call_is (by rfl) T.isi (by decide +kernel) (pa_cons (pv 12) (pa_cons (pe_bltn (v := .ty "ValueError") (by rfl) T.ve (by decide +kernel) rfl) pa_nil))) (pe_one (pe_cmpR (Exo.op_eqSame hu) (pe_call GE hr1 rfl gE FE.kp bE .nil pass0 (pa_cons (pv 12) pa_nil)) (pe_op op_rep (pe_lst (pa_cons (pe_bl) pa_nil)) pe_int) (nomark _)))))))))))))))))))), ?_⟩
    -- pen, one, two
    refine ⟨_, rfl, a, ns, rfl, hS, hlen, fun p H1 np S1 P1 => ?_⟩
    refine ⟨_, rfl, (by show 2 ≤ sizeLine; decide), fun t1 u1 => ⟨(by show 2 ≤ sizeLine; decide), fun t2 u2 => ⟨(by show 6 ≤ sizeLine; decide), fun t3 u3 => ?_⟩⟩⟩
    refine ⟨p, t3, 0, _, rfl, P1.same ((same_new u1).trans ((same_new u2).trans (same_new u3))), by decide, pen_ne (P1.same ((same_new u1).trans (same_new u2))) u3, SqL.of upd_same, (by show 0 < 6; decide), (by show 6 ≤ 1000; decide), fun one i1 H2 i1h P2 B2 => ?_⟩
    have one1 := one_of6 i1h
    refine ⟨_, rfl, (by show 1 ≤ sizeLine; decide), fun t4 u4 => ⟨(by show 0 ≤ sizeLine; exact Nat.zero_le _), fun t5 u5 => fun t6 u6 => ⟨upd_same, [(.inr "a", .int 1)], rfl, (by show 1 ≤ 15; decide), (by show 5 ≤ sizeLine; decide), fun t7 u7 => ?_⟩⟩⟩
    refine ⟨p, t7, 1, _, rfl, P2.same ((same_new u4).trans ((same_new u5).trans ((same_new2 u6).trans (same_new u7)))), by decide, pen_ne (P2.same ((same_new u4).trans ((same_new u5).trans (same_new2 u6)))) u7, SqL.of upd_same, (by show 0 < 5; decide), (by show 5 ≤ 1000; decide), fun two i2 Hb i2h P3 B3 => ?_⟩
    have one2 := one_of5 i2h
    clear P1 P2 P3 B2 B3
    refine ⟨_, rfl, _, rfl, (by show 2 ≤ 1000; decide), fun e1 ne1 => ⟨e1, _, _, _, rfl, upd_same, T.cl (x := "BadLine") (by decide +kernel), T.no "BadLine" "line" (by decide +kernel), T.no "BadLine" "column" (by decide +kernel), fun H_1 k1 A1 => ⟨rfl, ?_⟩⟩⟩
    refine ⟨_, rfl, _, rfl, (by show 2 ≤ 1000; decide), fun e2 ne2 => ⟨e2, _, _, _, rfl, upd_same, T.cl (x := "BadNumber") (by decide +kernel), T.no "BadNumber" "what" (by decide +kernel), T.no "BadNumber" "number" (by decide +kernel), fun H_2 k2 A2 => ⟨rfl, ?_⟩⟩⟩
    refine ⟨_, _, rfl, ?_⟩
    refine ⟨_, rfl, _, rfl, (by show 3 ≤ 1000; decide), fun e3 ne3 => ⟨e3, _, _, _, _, rfl, upd_same, T.cl (x := "BadWidth") (by decide +kernel), T.no "BadWidth" "name" (by decide +kernel), T.no "BadWidth" "wanted" (by decide +kernel), T.no "BadWidth" "told" (by decide +kernel), fun H_3 k3 A3 => ⟨rfl, ?_⟩⟩⟩
    refine ⟨_, rfl, _, rfl, (by show 2 ≤ 1000; decide), fun e4 ne4 => ⟨e4, _, _, _, rfl, upd_same, T.cl (x := "NotKept") (by decide +kernel), T.no "NotKept" "name" (by decide +kernel), T.no "NotKept" "rows" (by decide +kernel), fun H_4 k4 A4 => ⟨rfl, ?_⟩⟩⟩
    refine ⟨_, _, rfl, ?_⟩
    refine ⟨_, rfl, e1, cA K "BadLine", _, _, rfl, (A1.same ((same_made ne2 k2).trans ((same_made ne3 k3).trans (same_made ne4 k4)))), T.cl (x := "BadLine") (by decide +kernel), T.no "BadLine" "line" (by decide +kernel), (by rfl), _, rfl, e1, cA K "BadLine", _, _, rfl, (A1.same ((same_made ne2 k2).trans ((same_made ne3 k3).trans (same_made ne4 k4)))), T.cl (x := "BadLine") (by decide +kernel), T.no "BadLine" "column" (by decide +kernel), (by rfl), _, rfl, e2, cA K "BadNumber", _, _, rfl, (A2.same ((same_made ne3 k3).trans (same_made ne4 k4))), T.cl (x := "BadNumber") (by decide +kernel), T.no "BadNumber" "what" (by decide +kernel), (by rfl), _, rfl, e2, cA K "BadNumber", _, _, rfl, (A2.same ((same_made ne3 k3).trans (same_made ne4 k4))), T.cl (x := "BadNumber") (by decide +kernel), T.no "BadNumber" "number" (by decide +kernel), (by rfl), (by show 4 ≤ sizeLine; decide), fun q1 nq1 => ?_⟩
    refine ⟨_, rfl, _, rfl, _, rfl, _, rfl, (by show 4 ≤ sizeLine; decide), fun q2 nq2 => ?_⟩
    refine ⟨_, _, _, rfl, rfl, SqL.of (same_new nq2 _ _ upd_same), SqL.of upd_same, ones2 one1 one2, _, rfl, iteF ?_⟩
    refine ⟨_, rfl, e3, cA K "BadWidth", _, _, rfl, (A3.same ((same_made ne4 k4).trans ((same_new nq1).trans (same_new nq2)))), T.cl (x := "BadWidth") (by decide +kernel), T.no "BadWidth" "name" (by decide +kernel), (by rfl), _, rfl, e3, cA K "BadWidth", _, _, rfl, (A3.same ((same_made ne4 k4).trans ((same_new nq1).trans (same_new nq2)))), T.cl (x := "BadWidth") (by decide +kernel), T.no "BadWidth" "wanted" (by decide +kernel), (by rfl), _, rfl, e3, cA K "BadWidth", _, _, rfl, (A3.same ((same_made ne4 k4).trans ((same_new nq1).trans (same_new nq2)))), T.cl (x := "BadWidth") (by decide +kernel), T.no "BadWidth" "told" (by decide +kernel), (by rfl), _, rfl, e4, cA K "NotKept", _, _, rfl, (A4.same ((same_new nq1).trans (same_new nq2))), T.cl (x := "NotKept") (by decide +kernel), T.no "NotKept" "name" (by decide +kernel), (by rfl), _, rfl, e4, cA K "NotKept", _, _, rfl, (A4.same ((same_new nq1).trans (same_new nq2))), T.cl (x := "NotKept") (by decide +kernel), T.no "NotKept" "rows" (by decide +kernel), (by rfl), (by show 5 ≤ sizeLine; decide), fun q3 nq3 => ?_⟩
    refine ⟨_, rfl, _, rfl, _, rfl, _, rfl, (by show 5 ≤ sizeLine; decide), fun q4 nq4 => ?_⟩
    refine ⟨_, _, _, rfl, rfl, SqL.of (same_new nq4 _ _ upd_same), SqL.of upd_same, ones5 one1 one2, _, rfl, iteF ?_⟩
    refine ⟨_, rfl, (by show 1 ≤ 1000; decide), fun e5 ne5 => ⟨e5, _, _, rfl, upd_same, T.cl (x := "BadName") (by decide +kernel), T.no "BadName" "name" (by decide +kernel), fun H_5 k5 A5 => ⟨rfl, ?_⟩⟩⟩
    refine ⟨_, rfl, (by show 1 ≤ 1000; decide), fun e6 ne6 => ⟨e6, _, _, rfl, upd_same, T.cl (x := "BadRow") (by decide +kernel), T.no "BadRow" "row" (by decide +kernel), fun H_6 k6 A6 => ⟨rfl, ?_⟩⟩⟩
    refine ⟨_, rfl, (by show 1 ≤ 1000; decide), fun e7 ne7 => ⟨e7, _, _, rfl, upd_same, T.cl (x := "Missing") (by decide +kernel), T.no "Missing" "name" (by decide +kernel), fun H_7 k7 A7 => ⟨rfl, ?_⟩⟩⟩
    refine ⟨_, rfl, (by show 1 ≤ 1000; decide), fun e8 ne8 => ⟨e8, _, _, rfl, upd_same, T.cl (x := "NoName") (by decide +kernel), T.no "NoName" "name" (by decide +kernel), fun H_8 k8 A8 => ⟨rfl, ?_⟩⟩⟩
    refine ⟨_, rfl, (by show 1 ≤ 1000; decide), fun e9 ne9 => ⟨e9, _, _, rfl, upd_same, T.cl (x := "TakenName") (by decide +kernel), T.no "TakenName" "name" (by decide +kernel), fun H_9 k9 A9 => ⟨rfl, ?_⟩⟩⟩
    refine ⟨_, rfl, (by show 1 ≤ 1000; decide), fun e10 ne10 => ⟨e10, _, _, rfl, upd_same, T.cl (x := "Unlike") (by decide +kernel), T.no "Unlike" "what" (by decide +kernel), fun H_10 k10 A10 => ⟨rfl, ?_⟩⟩⟩
    refine ⟨(by show 6 ≤ sizeLine; decide), fun q5 nq5 => ?_⟩
    refine ⟨_, rfl, q5, _, _, _, rfl, rfl, SqL.of upd_same, at_of (j := 0) rfl rfl, e5, cA K "BadName", _, _, rfl, (A5.same ((same_made ne6 k6).trans ((same_made ne7 k7).trans ((same_made ne8 k8).trans ((same_made ne9 k9).trans ((same_made ne10 k10).trans (same_new nq5))))))), T.cl (x := "BadName") (by decide +kernel), T.no "BadName" "name" (by decide +kernel), (by rfl), _, rfl, q5, _, _, _, rfl, rfl, SqL.of upd_same, at_of (j := 1) rfl rfl, e6, cA K "BadRow", _, _, rfl, (A6.same ((same_made ne7 k7).trans ((same_made ne8 k8).trans ((same_made ne9 k9).trans ((same_made ne10 k10).trans (same_new nq5)))))), T.cl (x := "BadRow") (by decide +kernel), T.no "BadRow" "row" (by decide +kernel), (by rfl), _, rfl, q5, _, _, _, rfl, rfl, SqL.of upd_same, at_of (j := 2) rfl rfl, e7, cA K "Missing", _, _, rfl, (A7.same ((same_made ne8 k8).trans ((same_made ne9 k9).trans ((same_made ne10 k10).trans (same_new nq5))))), T.cl (x := "Missing") (by decide +kernel), T.no "Missing" "name" (by decide +kernel), (by rfl), _, rfl, q5, _, _, _, rfl, rfl, SqL.of upd_same, at_of (j := 3) rfl rfl, e8, cA K "NoName", _, _, rfl, (A8.same ((same_made ne9 k9).trans ((same_made ne10 k10).trans (same_new nq5)))), T.cl (x := "NoName") (by decide +kernel), T.no "NoName" "name" (by decide +kernel), (by rfl), _, rfl, q5, _, _, _, rfl, rfl, SqL.of upd_same, at_of (j := 4) rfl rfl, e9, cA K "TakenName", _, _, rfl, (A9.same ((same_made ne10 k10).trans (same_new nq5))), T.cl (x := "TakenName") (by decide +kernel), T.no "TakenName" "name" (by decide +kernel), (by rfl), _, rfl, q5, _, _, _, rfl, rfl, SqL.of upd_same, at_of (j := 5) rfl rfl, e10, cA K "Unlike", _, _, rfl, (A10.same (same_new nq5)), T.cl (x := "Unlike") (by decide +kernel), T.no "Unlike" "what" (by decide +kernel), (by rfl), (by show 6 ≤ sizeLine; decide), fun q6 nq6 => ?_⟩
    refine ⟨_, rfl, _, rfl, (by show 1 ≤ sizeLine; decide), fun q7 nq7 => ?_⟩
    refine ⟨_, _, _, rfl, rfl, upd_same, by decide, by decide, (by show 1 * 6 ≤ sizeLine; decide), fun q8 nq8 => ?_⟩
    refine ⟨_, _, _, rfl, rfl, SqL.of (((same_new nq7).trans (same_new nq8)) _ _ upd_same), SqL.of upd_same, ones6 one1, _, rfl, iteF ?_⟩
    refine ⟨_, rfl, _, rfl, q5, _, _, _, rfl, rfl, SqL.of (((same_new nq6).trans ((same_new nq7).trans (same_new nq8))) _ _ upd_same), at_of (j := 0) rfl rfl, _, rfl, _, rfl, q5, _, _, _, rfl, rfl, SqL.of (((same_new nq6).trans ((same_new nq7).trans (same_new nq8))) _ _ upd_same), at_of (j := 1) rfl rfl, _, rfl, _, rfl, q5, _, _, _, rfl, rfl, SqL.of (((same_new nq6).trans ((same_new nq7).trans (same_new nq8))) _ _ upd_same), at_of (j := 2) rfl rfl, _, rfl, q5, _, _, _, rfl, rfl, SqL.of (((same_new nq6).trans ((same_new nq7).trans (same_new nq8))) _ _ upd_same), at_of (j := 3) rfl rfl, _, rfl, (by show 8 ≤ sizeLine; decide), fun q9 nq9 => ?_⟩
    refine ⟨_, rfl, ?_⟩
    refine fun e11 ne11 => ?_
    refine fun e12 ne12 => ?_
    refine ⟨_, rfl, q5, _, _, _, rfl, rfl, SqL.of (((same_new nq6).trans ((same_new nq7).trans ((same_new nq8).trans ((same_new nq9).trans ((same_new ne11).trans (same_new ne12)))))) _ _ upd_same), at_of (j := 4) rfl rfl, _, rfl, q5, _, _, _, rfl, rfl, SqL.of (((same_new nq6).trans ((same_new nq7).trans ((same_new nq8).trans ((same_new nq9).trans ((same_new ne11).trans (same_new ne12)))))) _ _ upd_same), at_of (j := 5) rfl rfl, (by show 4 ≤ sizeLine; decide), fun q10 nq10 => ?_⟩
    refine ⟨_, _, _, _, rfl, rfl, (((same_new ne11).trans ((same_new ne12).trans (same_new nq10))) _ _ upd_same), upd_same, (by show 8 + 4 ≤ sizeLine; decide), fun q11 nq11 => ?_⟩
    generalize hHc : upd _ q11 _ = Hc
    have hE : Hc q11 = some (.lst [V.ref e1, V.ref e5, V.ref e2, V.ref e6, V.ref e3, V.ref e7, V.ref e8, V.ref e4, V.ref e11, V.ref e12, V.ref e9, V.ref e10]) := by rw [← hHc]; exact upd_same
    have hErr : ∀ i, i < 12 → ∃ (e : Addr) (fs : List (Str × V)), [V.ref e1, V.ref e5, V.ref e2, V.ref e6, V.ref e3, V.ref e7, V.ref e8, V.ref e4, V.ref e11, V.ref e12, V.ref e9, V.ref e10][i]? = some (V.ref e) ∧ Exo.At Hc e (cA K (ord.getD i "")) fs := by
      intro i hi
      rw [← hHc]
      match i, hi with
      | 0, _ => exact ⟨e1, _, rfl, (A1.same ((same_made ne2 k2).trans ((same_made ne3 k3).trans ((same_made ne4 k4).trans ((same_new nq1).trans ((same_new nq2).trans ((same_new nq3).trans ((same_new nq4).trans ((same_made ne5 k5).trans ((same_made ne6 k6).trans ((same_made ne7 k7).trans ((same_made ne8 k8).trans ((same_made ne9 k9).trans ((same_made ne10 k10).trans ((same_new nq5).trans ((same_new nq6).trans ((same_new nq7).trans ((same_new nq8).trans ((same_new nq9).trans ((same_new ne11).trans ((same_new ne12).trans ((same_new nq10).trans (same_new nq11)))))))))))))))))))))))⟩
      | 1, _ => exact ⟨e5, _, rfl, (A5.same ((same_made ne6 k6).trans ((same_made ne7 k7).trans ((same_made ne8 k8).trans ((same_made ne9 k9).trans ((same_made ne10 k10).trans ((same_new nq5).trans ((same_new nq6).trans ((same_new nq7).trans ((same_new nq8).trans ((same_new nq9).trans ((same_new ne11).trans ((same_new ne12).trans ((same_new nq10).trans (same_new nq11)))))))))))))))⟩
      | 2, _ => exact ⟨e2, _, rfl, (A2.same ((same_made ne3 k3).trans ((same_made ne4 k4).trans ((same_new nq1).trans ((same_new nq2).trans ((same_new nq3).trans ((same_new nq4).trans ((same_made ne5 k5).trans ((same_made ne6 k6).trans ((same_made ne7 k7).trans ((same_made ne8 k8).trans ((same_made ne9 k9).trans ((same_made ne10 k10).trans ((same_new nq5).trans ((same_new nq6).trans ((same_new nq7).trans ((same_new nq8).trans ((same_new nq9).trans ((same_new ne11).trans ((same_new ne12).trans ((same_new nq10).trans (same_new nq11))))))))))))))))))))))⟩
      | 3, _ => exact ⟨e6, _, rfl, (A6.same ((same_made ne7 k7).trans ((same_made ne8 k8).trans ((same_made ne9 k9).trans ((same_made ne10 k10).trans ((same_new nq5).trans ((same_new nq6).trans ((same_new nq7).trans ((same_new nq8).trans ((same_new nq9).trans ((same_new ne11).trans ((same_new ne12).trans ((same_new nq10).trans (same_new nq11))))))))))))))⟩
      | 4, _ => exact ⟨e3, _, rfl, (A3.same ((same_made ne4 k4).trans ((same_new nq1).trans ((same_new nq2).trans ((same_new nq3).trans ((same_new nq4).trans ((same_made ne5 k5).trans ((same_made ne6 k6).trans ((same_made ne7 k7).trans ((same_made ne8 k8).trans ((same_made ne9 k9).trans ((same_made ne10 k10).trans ((same_new nq5).trans ((same_new nq6).trans ((same_new nq7).trans ((same_new nq8).trans ((same_new nq9).trans ((same_new ne11).trans ((same_new ne12).trans ((same_new nq10).trans (same_new nq11)))))))))))))))))))))⟩
      | 5, _ => exact ⟨e7, _, rfl, (A7.same ((same_made ne8 k8).trans ((same_made ne9 k9).trans ((same_made ne10 k10).trans ((same_new nq5).trans ((same_new nq6).trans ((same_new nq7).trans ((same_new nq8).trans ((same_new nq9).trans ((same_new ne11).trans ((same_new ne12).trans ((same_new nq10).trans (same_new nq11)))))))))))))⟩
      | 6, _ => exact ⟨e8, _, rfl, (A8.same ((same_made ne9 k9).trans ((same_made ne10 k10).trans ((same_new nq5).trans ((same_new nq6).trans ((same_new nq7).trans ((same_new nq8).trans ((same_new nq9).trans ((same_new ne11).trans ((same_new ne12).trans ((same_new nq10).trans (same_new nq11))))))))))))⟩
      | 7, _ => exact ⟨e4, _, rfl, (A4.same ((same_new nq1).trans ((same_new nq2).trans ((same_new nq3).trans ((same_new nq4).trans ((same_made ne5 k5).trans ((same_made ne6 k6).trans ((same_made ne7 k7).trans ((same_made ne8 k8).trans ((same_made ne9 k9).trans ((same_made ne10 k10).trans ((same_new nq5).trans ((same_new nq6).trans ((same_new nq7).trans ((same_new nq8).trans ((same_new nq9).trans ((same_new ne11).trans ((same_new ne12).trans ((same_new nq10).trans (same_new nq11))))))))))))))))))))⟩
      | 8, _ => exact ⟨e11, _, rfl, .inl ⟨(((same_new ne12).trans ((same_new nq10).trans (same_new nq11))) _ _ upd_same), rfl⟩⟩
      | 9, _ => exact ⟨e12, _, rfl, .inl ⟨(((same_new nq10).trans (same_new nq11)) _ _ upd_same), rfl⟩⟩
      | 10, _ => exact ⟨e9, _, rfl, (A9.same ((same_made ne10 k10).trans ((same_new nq5).trans ((same_new nq6).trans ((same_new nq7).trans ((same_new nq8).trans ((same_new nq9).trans ((same_new ne11).trans ((same_new ne12).trans ((same_new nq10).trans (same_new nq11)))))))))))⟩
      | 11, _ => exact ⟨e10, _, rfl, (A10.same ((same_new nq5).trans ((same_new nq6).trans ((same_new nq7).trans ((same_new nq8).trans ((same_new nq9).trans ((same_new ne11).trans ((same_new ne12).trans ((same_new nq10).trans (same_new nq11))))))))))⟩
    clear hHc
    refine ⟨12, rfl, by decide, by decide, for_range (lo := 0) (n := 12) (fun i σ H' => ∃ v : Option V, σ = [some (.ref a), some (.ref p), some one, some two, some (.ref e1), some (.ref e2), some (.ref e3), some (.ref e4), some (.ref q5), some (.ref q6), some (.ref q11), v, none, none] ∧ Same Hc H')
      ⟨none, rfl, Same.refl _⟩ ?_ ?_⟩
    · rintro i σ H' hi ⟨v, rfl, S⟩
      obtain ⟨e, fs, he, hA⟩ := hErr i hi
      have hx : ord.getD i "" ∈ allN := (by decide +kernel : ∀ i, i < 12 → ord.getD i "" ∈ allN) i hi
      refine ⟨_, rfl, _, rfl, q11, _, _, _, rfl, rfl, SqL.of (S _ _ hE), at_of (j := i) (by omega) he, e, _, fs, rfl, hx, hA.same S, fun b H2 S2 nb hb => ?_⟩
      rw [marks_row i hi] at hb
      refine ⟨12, rfl, by decide, by decide, fun D nD => ?_⟩
      refine lc_range (lo := 0) (n := 12) (fun j H3 => Same H2 H3 ∧ H3 D = some (.lst (row i j))) ⟨same_new nD, upd_same⟩ ?_ ?_
      · rintro j H3 hj ⟨S3, h3⟩
        refine ⟨rfl, ?_⟩
        refine yes_of ?_
        refine ⟨_, rfl, _, rfl, rfl, _, h3, ?_, fun b o q => ?_, ?_⟩
        · show (row i j).length < sizeLine
          unfold row
          rw [List.length_map, List.length_range]
          exact Nat.lt_trans hj (by decide)
        · rw [upd_ne (ne_of_none q nD)]
          exact S3 b o q
        · rw [upd_same, row_more]
          rfl
      · rintro H3 ⟨S3, h3⟩
        refine ⟨_, _, _, rfl, rfl, SqL.of (S3 _ _ hb), SqL.of h3, row_one, _, rfl, iteF ?_⟩
        exact ⟨_, rfl, S.trans (S2.trans S3)⟩
    · rintro σ H' ⟨v, rfl, S⟩
      intro z nz
      have hz : Exo.At (upd H' z (exo z (cA K "CycleError") none)) z (cA K "CycleError") [] := .inl ⟨upd_same, rfl⟩
      have hm : ("CycleError" : Str) ∈ allN := by decide +kernel
      refine ⟨_, rfl, z, _, _, _, _, _, rfl, hz, T.cl hm, .ty _, (T.kitB hm).2, _, rfl, iteT ?_⟩
      refine ⟨_, rfl, z, _, _, rfl, hm, hz, fun b H2 S2 nb hb => ?_⟩
      refine ⟨(by show 1 ≤ sizeLine; decide), fun y ny => ?_⟩
      refine ⟨_, _, _, rfl, rfl, upd_same, by decide, by decide, (by show 1 * 12 ≤ sizeLine; decide), fun x nx => ?_⟩
      exact ⟨_, _, _, rfl, rfl, SqL.of (same_new nx _ _ (same_new ny _ _ hb)), SqL.of upd_same, marks_one, k _⟩
end
end K00
namespace K00
open PySem PySem.Spec PyProof.Rows L2 Pen He
def dsPen : DefD := ⟨("_law_pen", none), "_law_pen", "_law_pen", defArgs sPen, defBody sPen, defScope sPen, [], []⟩
def dsDraw : DefD := ⟨("_law_draw", none), "_law_draw", "_law_draw", defArgs sDraw, defBody sDraw, defScope sDraw, [], []⟩
def dsPick : DefD := ⟨("_law_pick", none), "_law_pick", "_law_pick", defArgs sPick, defBody sPick, defScope sPick, [], []⟩
def dsKinds : DefD := ⟨("_law_kinds", none), "_law_kinds", "_law_kinds", defArgs sKinds, defBody sKinds, defScope sKinds, [], []⟩
def dsLaw : DefD := ⟨("law", none), "law", "law", defArgs sLaw, defBody sLaw, defScope sLaw, [], []⟩
def diBadLine : DefD := ⟨("BadLine", some "__init__"), "__init__", "BadLine.__init__", defArgs sBadLine, defBody sBadLine, defScope sBadLine, [], []⟩
def diBadNumber : DefD := ⟨("BadNumber", some "__init__"), "__init__", "BadNumber.__init__", defArgs sBadNumber, defBody sBadNumber, defScope sBadNumber, [], []⟩
def diBadRow : DefD := ⟨("BadRow", some "__init__"), "__init__", "BadRow.__init__", defArgs sBadRow, defBody sBadRow, defScope sBadRow, [], []⟩
def diBadName : DefD := ⟨("BadName", some "__init__"), "__init__", "BadName.__init__", defArgs sBadName, defBody sBadName, defScope sBadName, [], []⟩
def diBadWidth : DefD := ⟨("BadWidth", some "__init__"), "__init__", "BadWidth.__init__", defArgs sBadWidth, defBody sBadWidth, defScope sBadWidth, [], []⟩
def diNoName : DefD := ⟨("NoName", some "__init__"), "__init__", "NoName.__init__", defArgs sNoName, defBody sNoName, defScope sNoName, [], []⟩
def diTakenName : DefD := ⟨("TakenName", some "__init__"), "__init__", "TakenName.__init__", defArgs sTakenName, defBody sTakenName, defScope sTakenName, [], []⟩
def diUnlike : DefD := ⟨("Unlike", some "__init__"), "__init__", "Unlike.__init__", defArgs sUnlike, defBody sUnlike, defScope sUnlike, [], []⟩
def diMissing : DefD := ⟨("Missing", some "__init__"), "__init__", "Missing.__init__", defArgs sMissing, defBody sMissing, defScope sMissing, [], []⟩
def diNotKept : DefD := ⟨("NotKept", some "__init__"), "__init__", "NotKept.__init__", defArgs sNotKept, defBody sNotKept, defScope sNotKept, [], []⟩
def fn : List DefD := [dsPen, dsDraw, dsPick, dsKinds, dsLaw, diBadLine, diBadNumber, diBadRow, diBadName, diBadWidth, diNoName, diTakenName, diUnlike, diMissing, diNotKept]
def fa : List Fa := [.glo "_law_pen", .glo "_law_draw", .glo "_law_pick", .glo "_law_kinds", .glo "law", .free "len", .free "int", .free "list", .free "isinstance", .free "range", .free "ValueError", .glo "BadLine", .glo "BadName", .glo "BadNumber", .glo "BadRow", .glo "BadWidth", .glo "Missing", .glo "NoName", .glo "NotKept", .glo "NothingToRedo", .glo "NothingToUndo", .glo "TakenName", .glo "Unlike", .glo "CycleError"]
abbrev R : PySem.W.OpenRow := PySem.W.OpenLaw.row PySem.Challenge.rw_everycycle_k00_errors
abbrev hk : PySem.W.Hook := hookX 6 fa fn [] [] exB
def ob (s : PySem.W.SharedT) : AlX := obsX 6 fa fn [] [] exB (HandSHeadRun.getT s)
theorem ob_eq (s : PySem.W.SharedT) : ob s = hk.obs s.abs := obsX_eq (HandSHeadRun.getT_eq s)
theorem run (w : World) : HandSHeadRun.RunEq R (PySem.W.view R.prog [19]) hk ob 4000 ["CycleError", "BadLine", "BadNumber", "BadRow", "BadName", "BadWidth", "NoName", "TakenName", "Unlike", "Missing", "NotKept", "NothingToUndo", "NothingToRedo", "_law_pen", "_law_draw", "_law_pick", "_law_kinds"] w := by
  intro os
  kernel_rfl
theorem facts {P : Program} {w : World} {K : PySem.W.Frag} {h : Heap} {mg : Str → Option Value} {f : Addr} (X : K.In h) (G : h.Ns mainGlobals mg) (hfa : mg ("law" : Str) = some (.ref f)) (c : SaysX fa fn [] [] exB w h K) :
    ∃ fd : FuncData, (∀ (s : Shared) (v : Value), BindsTo s fd ⟨[v], []⟩ [("_law_script", v)]) ∧ ∀ base : Heap, K.In base → base.Ns mainGlobals mg → FnOk P w K mg base CX0 3 f fd ["_law_script"] (spLaw K) := by
  have cd := c.t.d
  obtain ⟨fd0, F0⟩ := cd.def_ 0 (d := dsPen) rfl
  obtain ⟨fd1, F1⟩ := cd.def_ 1 (d := dsDraw) rfl
  obtain ⟨fd2, F2⟩ := cd.def_ 2 (d := dsPick) rfl
  obtain ⟨fd3, F3⟩ := cd.def_ 3 (d := dsKinds) rfl
  obtain ⟨fd4, F4⟩ := cd.def_ 4 (d := dsLaw) rfl
  obtain ⟨fi0, I0⟩ := cd.def_ 5 (d := diBadLine) rfl
  obtain ⟨fi1, I1⟩ := cd.def_ 6 (d := diBadNumber) rfl
  obtain ⟨fi2, I2⟩ := cd.def_ 7 (d := diBadRow) rfl
  obtain ⟨fi3, I3⟩ := cd.def_ 8 (d := diBadName) rfl
  obtain ⟨fi4, I4⟩ := cd.def_ 9 (d := diBadWidth) rfl
  obtain ⟨fi5, I5⟩ := cd.def_ 10 (d := diNoName) rfl
  obtain ⟨fi6, I6⟩ := cd.def_ 11 (d := diTakenName) rfl
  obtain ⟨fi7, I7⟩ := cd.def_ 12 (d := diUnlike) rfl
  obtain ⟨fi8, I8⟩ := cd.def_ 13 (d := diMissing) rfl
  obtain ⟨fi9, I9⟩ := cd.def_ 14 (d := diNotKept) rfl
  have glo : ∀ i x, fa[i]? = some (Fa.glo x) → mg x = some (.ref (ga K x)) := fun i x e => glo_ok X G (cd.fact i e)
  have fre : ∀ i x, fa[i]? = some (Fa.free x) → mg x = none := fun i x e => free_ok X G (cd.fact i e)
  have e := hfa.symm.trans (glo 4 "law" rfl)
  cases e
  have b := FunD.bindsA (ps := ["_law_script"]) F4 fun _ _ _ _ _ _ us hl => match us, hl with | [_], _ => rfl
  have T : Tx K mg := ⟨⟨fre 5 "len" rfl, fre 6 "int" rfl, fre 7 "list" rfl⟩, fre 8 "isinstance" rfl, fre 9 "range" rfl, fre 10 "ValueError" rfl, fun x hx => ?_, c.more⟩
  · exact ⟨fd4, fun s v => b s [v] rfl, fun base _ _ => ok_law F4 T F0 (glo 0 "_law_pen" rfl) F1 (glo 1 "_law_draw" rfl) F2 (glo 2 "_law_pick" rfl) F3 (glo 3 "_law_kinds" rfl) I0 I1 I2 I3 I4 I5 I6 I7 I8 I9⟩
  · simp only [allN, List.mem_cons, List.not_mem_nil, or_false] at hx
    rcases hx with rfl | rfl | rfl | rfl | rfl | rfl | rfl | rfl | rfl | rfl | rfl | rfl | rfl
    · exact glo 11 "BadLine" rfl
    · exact glo 12 "BadName" rfl
    · exact glo 13 "BadNumber" rfl
    · exact glo 14 "BadRow" rfl
    · exact glo 15 "BadWidth" rfl
    · exact glo 16 "Missing" rfl
    · exact glo 17 "NoName" rfl
    · exact glo 18 "NotKept" rfl
    · exact glo 19 "NothingToRedo" rfl
    · exact glo 20 "NothingToUndo" rfl
    · exact glo 21 "TakenName" rfl
    · exact glo 22 "Unlike" rfl
    · exact glo 23 "CycleError" rfl
end K00
open PySem PySem.W PySem.Calls PyProof.Rows
theorem PySem.Challenge.cw_everycycle_k00_errors_holds : PySem.Challenge.rw_everycycle_k00_errors.Holds := by
  w_on; o_law
  refine HandSHeadRun.head_any (r := OpenLaw.row PySem.Challenge.rw_everycycle_k00_errors) (q := view (OpenLaw.row PySem.Challenge.rw_everycycle_k00_errors).prog [19]) (H := K00.hk) (ob := K00.ob) (M := 4000) (loose := ["CycleError", "BadLine", "BadNumber", "BadRow", "BadName", "BadWidth", "NoName", "TakenName", "Unlike", "Missing", "NotKept", "NothingToUndo", "NothingToRedo", "_law_pen", "_law_draw", "_law_pick", "_law_kinds"]) (d := HandSHeadRun.topDef (OpenLaw.row PySem.Challenge.rw_everycycle_k00_errors).prog 19) (kwd := []) K00.ob_eq
    (by kernel_rfl) (fun s => by kernel_rfl) K00.run (by kernel_rfl) (by kernel_rfl) (by kernel_rfl) (by rfl) (by first | assumption | decide +kernel) (by decide +kernel) ⟨rfl, rfl, rfl, rfl, rfl, by decide +kernel⟩ ?hw ?hc
  case hw => w_witness2
  case hc =>
    refine L2.walk_ofE (l := PySem.Challenge.rw_everycycle_k00_errors) (n := 63) (k := 3) (x := "_law_script") (CX := L2.CX0) rfl (by decide) (by kernel_rfl) ⟨rfl, by decide, by decide⟩ ?F (fun _ _ _ _ z => z)
    intro w mg fa h Y G hmg0
    obtain ⟨K, KX, c⟩ := Y
    have hmg : mg ("law" : PySem.Str) = some (.ref fa) := by
      have e : (HandSHeadRun.topDef (OpenLaw.row PySem.Challenge.rw_everycycle_k00_errors).prog 19).name = ("law" : PySem.Str) := by kernel_rfl
      rw [← e]
      exact hmg0
    obtain ⟨fd, hb, hF⟩ := K00.facts (P := (PySem.Challenge.rw_everycycle_k00_errors).prog) (w := w) KX G hmg c
    exact ⟨K, fd, K00.spLaw K, KX, hb, fun H a ns hl _ hS => ⟨a, ns, rfl, hS, hl, fun _ => rfl⟩, hF⟩
