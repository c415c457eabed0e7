import PyProof.Rows.All
import Wide.All
import OpenK.AllK
import Wide.FinOn
import Lean
import HandS.ForMost
import HandS.Codes
import HandS.Defaults
import HandS.Wide
import HandS.DeepEq
import HandS.Exc
import HandS.ExcInit
import HandS.ExcValue
import HandS.IsInst
import HandS.TupAny
import HandS.OwnEq
import HandS.Star
import HandS.SortInts
import HandS.Conv
import HandS.Style
import HandS.Head0
import HandS.Head1
import HandS.Head2
import HandS.HeadEnd
import HandS.HeadHook1
import HandS.HeadHook2
import HandS.HeadHook3
import HandS.HeadHook4
import HandS.ExcIs
import HandS.ExcField
import KE.KExcIs
import KE.GoesEnum
import PySem.Challenge.RW_everycycle_k20_whole_one_assignment
set_option Elab.async false
set_option linter.all false
set_option maxRecDepth 100000
set_option maxHeartbeats 4000000
namespace Gd
open PySem PySem.Spec PyProof.Rows L2
/-! ## What a def does where no repr is under way: the promise of FnOk, for such callers alone -/
structure FnG (P : Program) (w : World) (K : PySem.W.Frag) (mg : Str → Option Value) (base : Heap) (CX : CXT) (k : Nat) (f : Addr) (fd : FuncData) (ps : List Str) (sp : Sp) : Prop where
  many : ∀ vs H Q E, sp vs H Q E → vs.length = ps.length
  go : ∀ (A : Around) (fs : List Env) (s : Shared) (H : Hp) (ag : Args) (us : List Value) (vs : List V) (Q : VK) (E : XK), A.guards = some [] → Room k A → Env0 P w K mg base A fs s H →
    BindsTo s fd ag (ps.zip us) → Vals vs us → sp vs H Q E → codeAny (model P w) A (.call (.ref f) ag) (CR CX fs P w H s Q E) s
section
variable {P : Program} {w : World} {K : PySem.W.Frag} {mg : Str → Option Value} {base : Heap} {CX : CXT} {k : Nat} {f : Addr} {fd : FuncData} {ps : List Str} {sp : Sp}
theorem FnG.of (F : FnOk P w K mg base CX k f fd ps sp) : FnG P w K mg base CX k f fd ps sp := ⟨F.len, fun A fs s H ag us vs Q E _ => F.run A fs s H ag us vs Q E⟩
/-- from the def's body -/
theorem FnG.mk_of {x qual : Str} {params : Arguments} {body : List Stmt} {scope : Scope} {dvs : List V} {kws : List (Str × V)} {N : List Str}
    (F : FunD K x qual params body scope dvs kws f fd) (S : FnScope N ps scope) (many : ∀ vs H Q E, sp vs H Q E → vs.length = ps.length)
    (walk : ∀ (cv : Value) (A : Around) (fs : List Env) (s : Shared) (H : Hp) (vs : List V) (Q : VK) (E : XK), A.guards = some [] → Room k (A.deeper (envOfC qual scope s.heap.objs.size f cv)) → sp vs H Q E →
      ∃ t, PSs (cxOf CX P w K mg base N qual scope f cv A fs s H E) body t ∧ t { nx := fun _ H' => Q .non H', rt := Q } (start N vs) H) :
    FnG P w K mg base CX (k + 1) f fd ps sp := by
  obtain ⟨_, _, _, _, _, _, _, cv, _, _, rfl, look, code, _, _⟩ := F.ex
  refine ⟨many, fun A fs s H ag us vs Q E hg room e bind rel prom => ?_⟩
  have kin : K.In s.heap := e.mod.kin.keeps fun b u z => (e.bs b u z).1
  have kinds : ∀ y ∈ ps.zip us, scope.names.lookup y.1 = some .local ∨ (scope.names.lookup y.1 = some .cell ∧ ((cellsFrom (s.heap.objs.size + 1) scope.names []).lookup y.1).isSome = true) := by
    rintro ⟨y, u⟩ hy
    rcases S.par y (List.of_mem_zip hy).1 with q | q
    · exact Or.inl q
    · exact Or.inr ⟨q, PySem.W.cellsFrom_some _ _ _ (Or.inl q)⟩
  refine codeAny_call_function room.depth (kin _ _ look) rfl S.co S.gen rfl (PySem.W.codeRec_of kin code) (bind _ _ _ _ ?_)
  refine wpAny_newFunctionEnv_cells S.kind kinds ?_
  rintro env rfl s1 hs1
  refine ⟨(e.mod.nolimit.keeps fun b u z => (e.bs b u z).1).keeps hs1.toInCall.keep, codeAny_func ?_⟩
  obtain ⟨t, ht, q⟩ := walk cv A fs s H vs Q E hg (room.deeper _) prom
  have I := inv_start (CX := CX) (E := E) S room.hd e (many _ _ _ _ prom) rel hs1
  refine wpAny_mono (ht.run [] s1 (start N vs) H _ I q) (fun fl s2 z => ?_) (fun _ _ z => z)
  match fl, z with
  | .ret u, ⟨v, σ', H', J, rv, q⟩ => exact ⟨v, H', J.os, J.bare, J.base, J.hok, rv, q⟩
  | .next, ⟨σ', H', J, q⟩ => exact ⟨V.non, H', J.os, J.bare, J.base, J.hok, rfl, q⟩
  | .brk, ⟨_, _, _, q⟩ => exact q.elim
  | .cont, ⟨_, _, _, q⟩ => exact q.elim
end
/-- the script's object -/
abbrev scr (vs : List Value) : Obj := { cls := .type "list", data := .seq vs.toArray }
/-- the heap in which the script alone is tracked, if the top did not write it -/
def onlyScr (K : PySem.W.Frag) (a : Addr) (vs : List Value) (ns : List Int) : Hp := fun b => if b = a ∧ (K.lookup a).isNone = true then some (.frz (scr vs) (.lst (ns.map V.int))) else none
theorem onlyScr_get {K : PySem.W.Frag} {a b : Addr} {vs : List Value} {ns : List Int} {o : HO} (h : onlyScr K a vs ns b = some o) : b = a ∧ K.lookup a = none ∧ o = .frz (scr vs) (.lst (ns.map V.int)) := by
  unfold onlyScr at h
  split at h
  · rename_i c
    exact ⟨c.1, Option.isNone_iff_eq_none.mp c.2, (Option.some.inj h).symm⟩
  · cases h
/-- the law is called with its script -/
theorem law_go {P : Program} {w : World} {K : PySem.W.Frag} {mg mb : Str → Option Value} {CX : CXT} {k : Nat} {f a : Addr} {fd : FuncData} {x : Str} {sp : Sp} {s : Shared} {vs : List Value} {ns : List Int}
    (kin : K.In s.heap) (hm : s.heap.Ns mainGlobals mg) (hb : s.heap.Ns builtinsNs mb) (hbb : ∀ y : Str, y ≠ "__name__" → mb y = bootBuiltins y) (lim : s.heap.NoLimit) (hgen : s.gens = #[])
    (ha : s.heap.get? a = some (scr vs)) (hi : IntsAre vs ns) (hl : ns.length ≤ sizeLine) (hr : Room k callerA)
    (F : ∀ base : Heap, K.In base → base.Ns mainGlobals mg → FnG P w K mg base CX k f fd [x] sp) (bind : ∀ (s : Shared) (u : Value), BindsTo s fd ⟨[u], []⟩ [(x, u)])
    (prom : ∀ H : Hp, Only H → SqL K H a (ns.map V.int) → sp [.ref a] H (fun v _ => v = .bl true) fun _ _ _ => False)
    (none_out : ∀ H e s', CX [] H s (fun _ _ _ => False) e s' → False) :
    codeAny (model P w) callerA (.call (.ref f) ⟨[.ref a], []⟩) (fun r s' => r = .ok (.ret (.bool true)) ∧ OldK s.heap s'.heap ∧ s'.os = s.os ∧ AllBare s'.gens) s := by
  have hv := vals_ints hi
  have hlen := hi.length
  let H := onlyScr K a vs ns
  have gone : ∀ {b : Addr} {o : Obj}, K.lookup b = some o → H b = none := fun {b o} q => by
    cases e : H b with
    | none => rfl
    | some u =>
      obtain ⟨rfl, n, _⟩ := onlyScr_get e
      rw [n] at q
      cases q
  have ns_free : ∀ {b : Addr} {o : Obj} {es : Array DictEntry} {ep : Nat}, s.heap.get? b = some o → o.data = .dict es ep → H b = none := fun {b o es ep} q d => by
    cases e : H b with
    | none => rfl
    | some u =>
      obtain ⟨rfl, _, _⟩ := onlyScr_get e
      rw [ha] at q
      cases q
      cases d
  have stays : ∀ {b : Addr} {m : Str → Option Value}, s.heap.Ns b m → (hidT s.heap H).Ns b m := fun ⟨o, es, ep, q, d, r⟩ => ⟨o, es, ep, hidT_get q (ns_free q d), d, r⟩
  have kinT : K.In (hidT s.heap H) := fun b o q => hidT_get (kin b o q) (gone q)
  have hok : HOk P w H s.heap := fun b u q => by
    obtain ⟨rfl, _, rfl⟩ := onlyScr_get q
    exact ⟨ha, by rw [List.length_map]; exact hl, vs, _, hv, ha⟩
  have hO : Only H := fun b => by
    cases e : H b with
    | none => exact Or.inl rfl
    | some u =>
      obtain ⟨_, _, rfl⟩ := onlyScr_get e
      exact Or.inr ⟨_, _, rfl⟩
  have hS : SqL K H a (ns.map V.int) := by
    cases e : K.lookup a with
    | none => exact .inl (.inr ⟨scr vs, if_pos ⟨rfl, by rw [e]; rfl⟩⟩)
    | some o =>
      have q := kin a o e
      rw [ha] at q
      cases q
      exact .inr ⟨_, vs.toArray, _, e, rfl, rfl, rfl, by rw [List.size_toArray, hlen]; exact hl, by simpa using hv⟩
  obtain ⟨mc, l1, l2⟩ := lim
  have e0 : Env0 P w K mg (hidT s.heap H) callerA [] s H := by
    refine ⟨rfl, ⟨kinT, stays hm, ⟨mb, stays hb, hbb⟩, ⟨mc, stays l1, l2⟩⟩, fun b o q => of_hidT q, Nat.le_of_eq (hidT_size _ _), trivial, fun b q => ?_, hok, .of_eq hgen⟩
    cases q
  refine codeAny_mono ((F _ kinT (stays hm)).go callerA [] s H ⟨[.ref a], []⟩ [.ref a] [.ref a] _ _ rfl hr e0 (bind s (.ref a)) (.cons rfl .nil) (prom H hO hS)) fun r s' h => ?_
  match r, h with
  | .error e, h => exact (none_out H e s' h).elim
  | .ok .next, h => exact h.elim
  | .ok .brk, h => exact h.elim
  | .ok .cont, h => exact h.elim
  | .ok (.ret u), ⟨v, H', os, bare, un, hok', rv, q⟩ =>
    have q' : v = .bl true := q
    subst q'
    have hu : u = Value.bool true := rv
    subst hu
    refine ⟨rfl, OldK.of_keep fun b o z => ?_, os, bare⟩
    cases e : H b with
    | none => exact un.keep b o z e (by intro y; cases y) (by simp)
    | some t =>
      obtain ⟨rfl, _, rfl⟩ := onlyScr_get e
      rw [ha] at z
      cases z
      exact (hok' b _ (un.frzs b _ _ e)).1
/-- the end of a law -/
theorem walk_go {l : PySem.W.OpenLaw} {n k : Nat} {q : Program} {loose : List Str} {XP : (Str → Option Value) → Heap → Prop} {YP : World → Heap → Prop} {d : DefRec} {CX : CXT} {x : Str}
    (hn : l.most = some n) (hn2 : n ≤ sizeLine) (hdf : d.params.defaults = []) (hr : Room k callerA)
    (F : ∀ (w : World) (mg : Str → Option Value) (f : Addr) (h : Heap), YP w h → h.Ns mainGlobals mg → mg d.name = some (.ref f) → ∃ (K : PySem.W.Frag) (fd : FuncData) (sp : Sp), K.In h ∧ (∀ (s : Shared) (u : Value), BindsTo s fd ⟨[u], []⟩ [(x, u)]) ∧
      (∀ (H : Hp) (a : Addr) (ns : List Int), ns.length ≤ n → Only H → SqL K H a (ns.map V.int) → sp [.ref a] H (fun v _ => v = .bl true) fun _ _ _ => False) ∧ ∀ base : Heap, K.In base → base.Ns mainGlobals mg → FnG l.prog w K mg base CX k f fd [x] sp)
    (none_out : ∀ (H : Hp) (s : Shared) (e : Value) (s' : Shared), CX [] H s (fun _ _ _ => False) e s' → False) : PySem.W.WalkO q loose XP YP l.row.toRowW d [] (fun f vs => PySem.call f vs) :=
  Att.attach_call hn hdf fun w _ s _ _ f _ _ _ _ a _ ns G Y _ _ _ hmg hobj hints hlen hgen =>
    let ⟨_, _, _, kin, bind, prom, ok⟩ := F w _ f _ Y G.T.g hmg
    law_go kin G.T.g G.T.b G.T.builtins G.T.nolimit hgen hobj hints (Nat.le_trans hlen hn2) hr ok bind (fun H hO hS => prom H a ns hlen hO hS) fun H e s' => none_out H s e s'
/-! ## repr of data -/
section
variable {X : Cx}
/-- repr(x), x data of any depth but dicts -/
def rRepr (K : PySem.W.Frag) : List V → Hp → VK → Prop := fun xs H Q => ∃ (a : Addr) (d : PyData), xs = [.ref a] ∧ Dp K H (.ref a) d ∧ d.showable = true ∧ d.hasDict = false ∧ d.depth ≤ 60 ∧ d.shown.length ≤ sizeLine ∧ Q (.str d.shown) H
theorem call_repr {k : Nat} (hg : X.A.guards = some []) (hr : Room k X.A) : CallR X (.builtin "repr") (rRepr X.K) := by
  intro pins s σ H xs us Q I r h
  obtain ⟨a, d, rfl, hd, h1, h2, h3, h4, q⟩ := h
  obtain ⟨u, rfl, ru⟩ := vals1 r
  obtain ⟨as, rd⟩ := Dp.reads I d _ u hd ru
  have hu : u = Value.ref a := ru
  subst hu
  have room := hr.un
  refine repr_of_reads' rd h1 (fun z => by rw [h2] at z; cases z) hg (by omega) (fun _ _ e => e) (fun h' t tk hk => ?_) h4
  exact ⟨.str d.shown, H, I.kept hk, ⟨t, rfl⟩, q⟩
end
end Gd
namespace Dat
open PySem PySem.Spec PyProof.Rows L2
/-! ## Data of any depth: its kind, and that it stays -/
def isIntD : PyData → Bool
  | .int _ => true
  | .bool _ => true
  | _ => false
def isBoolD : PyData → Bool
  | .bool _ => true
  | _ => false
def isRowD : PyData → Bool
  | .list _ => true
  | .tuple _ => true
  | _ => false
def clsD : PyData → String
  | .none => "NoneType"
  | .bool _ => "bool"
  | .int _ => "int"
  | .str _ => "str"
  | .list _ => "list"
  | .tuple _ => "tuple"
  | .dict _ => "dict"
section
variable {K : PySem.W.Frag} {H H' : Hp} {v : V} {d : PyData}
theorem ty_list {a : Addr} {xs : List V} (h : SqL K H a xs) : TyX K H (.ref a) (.type "list") := by
  rcases h with (h | ⟨o, h⟩) | ⟨o, its, n, h1, h2, _⟩
  · exact .base (.lst h)
  · exact .base (.frz h)
  · exact .kList h1 h2
theorem ty_tup {a : Addr} {xs : List V} (h : SqT K H a xs) : TyX K H (.ref a) (.type "tuple") := by
  rcases h with (h | ⟨o, h⟩) | ⟨o, its, n, h1, h2, _⟩
  · exact .base (.tup h)
  · exact .fTuple h
  · exact .kTuple h1 h2
theorem ty_of (h : Dp K H v d) : TyX K H v (.type (clsD d)) := by
  cases h with
  | non => exact .base .non
  | bl b => exact .base (.bl b)
  | int i => exact .base (.int i)
  | str x => exact .base (.str x)
  | lst hs _ => exact ty_list hs
  | tup hs _ => exact ty_tup hs
theorem kit_int (h : Dp K H v d) : PySem.W.kitOne K (.type (clsD d)) (.type "int") = some (isIntD d) := by
  cases h with
  | non => exact kit_ty (a := "NoneType") (b := "int") (r := false) (by decide +kernel)
  | bl _ => exact kit_ty (a := "bool") (b := "int") (r := true) (by decide +kernel)
  | int _ => exact kit_ty (a := "int") (b := "int") (r := true) (by decide +kernel)
  | str _ => exact kit_ty (a := "str") (b := "int") (r := false) (by decide +kernel)
  | lst _ _ => exact kit_ty (a := "list") (b := "int") (r := false) (by decide +kernel)
  | tup _ _ => exact kit_ty (a := "tuple") (b := "int") (r := false) (by decide +kernel)
theorem kit_bool (h : Dp K H v d) : PySem.W.kitOne K (.type (clsD d)) (.type "bool") = some (isBoolD d) := by
  cases h with
  | non => exact kit_ty (a := "NoneType") (b := "bool") (r := false) (by decide +kernel)
  | bl _ => exact kit_ty (a := "bool") (b := "bool") (r := true) (by decide +kernel)
  | int _ => exact kit_ty (a := "int") (b := "bool") (r := false) (by decide +kernel)
  | str _ => exact kit_ty (a := "str") (b := "bool") (r := false) (by decide +kernel)
  | lst _ _ => exact kit_ty (a := "list") (b := "bool") (r := false) (by decide +kernel)
  | tup _ _ => exact kit_ty (a := "tuple") (b := "bool") (r := false) (by decide +kernel)
theorem kit_row (h : Dp K H v d) : PySem.W.kitAny K (.type (clsD d)) [.type "tuple", .type "list"] = some (isRowD d) := by
  cases h with
  | non => exact kitAny_cons (b := false) (kit_ty (a := "NoneType") (b := "tuple") (r := false) (by decide +kernel)) (fun _ => kitAny_cons (b := false) (kit_ty (a := "NoneType") (b := "list") (r := false) (by decide +kernel)) (fun _ => rfl) (fun z => by cases z)) (fun z => by cases z)
  | bl _ => exact kitAny_cons (b := false) (kit_ty (a := "bool") (b := "tuple") (r := false) (by decide +kernel)) (fun _ => kitAny_cons (b := false) (kit_ty (a := "bool") (b := "list") (r := false) (by decide +kernel)) (fun _ => rfl) (fun z => by cases z)) (fun z => by cases z)
  | int _ => exact kitAny_cons (b := false) (kit_ty (a := "int") (b := "tuple") (r := false) (by decide +kernel)) (fun _ => kitAny_cons (b := false) (kit_ty (a := "int") (b := "list") (r := false) (by decide +kernel)) (fun _ => rfl) (fun z => by cases z)) (fun z => by cases z)
  | str _ => exact kitAny_cons (b := false) (kit_ty (a := "str") (b := "tuple") (r := false) (by decide +kernel)) (fun _ => kitAny_cons (b := false) (kit_ty (a := "str") (b := "list") (r := false) (by decide +kernel)) (fun _ => rfl) (fun z => by cases z)) (fun z => by cases z)
  | lst _ _ => exact kitAny_cons (b := false) (kit_ty (a := "list") (b := "tuple") (r := false) (by decide +kernel)) (fun _ => kitAny_cons (b := true) (kit_ty (a := "list") (b := "list") (r := true) (by decide +kernel)) (fun z => by cases z) (fun _ => rfl)) (fun z => by cases z)
  | tup _ _ => exact kitAny_cons (b := true) (kit_ty (a := "tuple") (b := "tuple") (r := true) (by decide +kernel)) (fun z => by cases z) (fun _ => rfl)
theorem seqT_same {a : Addr} {xs : List V} (s : Same H H') (h : SqT K H a xs) : SqT K H' a xs :=
  h.elim (fun h => .inl (h.elim (fun h => .inl (s _ _ h)) fun ⟨o, h⟩ => .inr ⟨o, s _ _ h⟩)) .inr
mutual
theorem dp_same (s : Same H H') : ∀ {d : PyData} {v : V}, Dp K H v d → Dp K H' v d
  | .none, _, h => by
    cases h
    exact .non
  | .bool b, _, h => by
    cases h
    exact .bl b
  | .int i, _, h => by
    cases h
    exact .int i
  | .str x, _, h => by
    cases h
    exact .str x
  | .list ds, _, h => by
    cases h with
    | lst hs ha => exact .lst (s.seq hs) (dps_same s ha)
  | .tuple ds, _, h => by
    cases h with
    | tup hs ha => exact .tup (seqT_same s hs) (dps_same s ha)
  | .dict _, _, h => by cases h
theorem dps_same (s : Same H H') : ∀ {ds : List PyData} {vs : List V}, DpAll K H vs ds → DpAll K H' vs ds
  | [], _, h => by
    cases h
    exact .nil
  | d :: ds, _, h => by
    cases h with
    | cons h1 h2 => exact .cons (dp_same s h1) (dps_same s h2)
end
theorem dps_len : ∀ {vs : List V} {ds : List PyData}, DpAll K H vs ds → vs.length = ds.length
  | _, [], h => by
    cases h
    rfl
  | _, _ :: _, h => by
    cases h with
    | cons _ h2 => exact congrArg Nat.succ (dps_len h2)
theorem dps_get : ∀ {vs : List V} {ds : List PyData}, DpAll K H vs ds → ∀ {i : Nat} {v : V}, vs[i]? = some v → ∃ d, ds[i]? = some d ∧ Dp K H v d
  | _, [], h, i, v, e => by
    cases h
    simp at e
  | _, d :: ds, h, i, v, e => by
    cases h with
    | cons h1 h2 =>
      cases i with
      | zero =>
        simp at e
        subst e
        exact ⟨d, rfl, h1⟩
      | succ i =>
        simp at e
        obtain ⟨d', q1, q2⟩ := dps_get h2 e
        exact ⟨d', by simpa using q1, q2⟩
end
end Dat
namespace Pen
open PySem
def top (i : Nat) : Stmt := PySem.Challenge.pw_everycycle_k20_whole_one_assignment.main.body.getD i (.Pass ⟨0, 0, 0, 0⟩)
abbrev sBetween : Stmt := top 5
abbrev sFrom : Stmt := top 6
abbrev sRow : Stmt := top 7
abbrev sRowB : Stmt := top 8
abbrev cGraph : Stmt := top 10
abbrev sNeed : Stmt := top 11
abbrev sGates : Stmt := top 12
abbrev sSat : Stmt := top 14
abbrev sCl : Stmt := top 15
abbrev sCls : Stmt := top 16
abbrev sPen : Stmt := top 18
abbrev sDraw : Stmt := top 19
abbrev sPick : Stmt := top 20
abbrev sDrawn : Stmt := top 21
abbrev sValues : Stmt := top 22
abbrev sBit : Stmt := top 23
abbrev sFlip : Stmt := top 24
abbrev sLonger : Stmt := top 25
abbrev sRows : Stmt := top 26
abbrev sLits : Stmt := top 27
abbrev sOwn : Stmt := top 28
abbrev sOwns : Stmt := top 29
abbrev sKeeps : Stmt := top 30
abbrev sLaw : Stmt := top 31
end Pen
namespace Pen
open PySem PySem.Spec PyProof.Rows L2
/-! ## The pen: the source of all draws. Its three defs, once for each law -/
abbrev FnP (K : PySem.W.Frag) (x : Str) (st : Stmt) (f : Addr) (fd : FuncData) : Prop := FunD K x x (defArgs st) (defBody st) (defScope st) [] [] f fd
/-- the pen's pairs: cells, at, digits, count, fold -/
def cols (c : Addr) (a d n f : Int) : List (Key × V) := [(.inr "cells", .ref c), (.inr "at", .int a), (.inr "digits", .int d), (.inr "count", .int n), (.inr "fold", .int f)]
section
variable {c : Addr} {a d n f z : Int}
theorem get_cells : valV (cols c a d n f) (.inr "cells" : Key) = some (.ref c) := by rfl
theorem get_at : valV (cols c a d n f) (.inr "at" : Key) = some (.int a) := by rfl
theorem get_digits : valV (cols c a d n f) (.inr "digits" : Key) = some (.int d) := by rfl
theorem get_count : valV (cols c a d n f) (.inr "count" : Key) = some (.int n) := by rfl
theorem get_fold : valV (cols c a d n f) (.inr "fold" : Key) = some (.int f) := by rfl
theorem put_at : putK (cols c a d n f) (.inr "at" : Key) (.int z) = cols c z d n f := by rfl
theorem put_digits : putK (cols c a d n f) (.inr "digits" : Key) (.int z) = cols c a z n f := by rfl
theorem put_count : putK (cols c a d n f) (.inr "count" : Key) (.int z) = cols c a d z f := by rfl
theorem put_fold : putK (cols c a d n f) (.inr "fold" : Key) (.int z) = cols c a d n z := by rfl
variable {H : Hp} {p : Addr}
theorem dg_cells (h : H p = some (.dK (cols c a d n f))) : DGet H p (.str "cells") (some (.ref c)) := DGet.k (k := .inr "cells") h
theorem dg_at (h : H p = some (.dK (cols c a d n f))) : DGet H p (.str "at") (some (.int a)) := DGet.k (k := .inr "at") h
theorem dg_digits (h : H p = some (.dK (cols c a d n f))) : DGet H p (.str "digits") (some (.int d)) := DGet.k (k := .inr "digits") h
theorem dg_count (h : H p = some (.dK (cols c a d n f))) : DGet H p (.str "count") (some (.int n)) := DGet.k (k := .inr "count") h
theorem dg_fold (h : H p = some (.dK (cols c a d n f))) : DGet H p (.str "fold") (some (.int f)) := DGet.k (k := .inr "fold") h
theorem five : 5 < sizeLine := by decide
theorem dp_at (h : H p = some (.dK (cols c a d n f))) : DPut H p (.str "at") (.int z) (upd H p (.dK (cols c z d n f))) := DPut.k (k := .inr "at") h five
theorem dp_digits (h : H p = some (.dK (cols c a d n f))) : DPut H p (.str "digits") (.int z) (upd H p (.dK (cols c a z n f))) := DPut.k (k := .inr "digits") h five
theorem dp_count (h : H p = some (.dK (cols c a d n f))) : DPut H p (.str "count") (.int z) (upd H p (.dK (cols c a d z f))) := DPut.k (k := .inr "count") h five
theorem dp_fold (h : H p = some (.dK (cols c a d n f))) : DPut H p (.str "fold") (.int z) (upd H p (.dK (cols c a d n z))) := DPut.k (k := .inr "fold") h five
end
/-- a pen stands at p, its cells at c; so many draws were made at most -/
def PenC (H : Hp) (p c : Addr) (m : Nat) : Prop :=
  ∃ (ns : List Int) (a d n f : Int), H p = some (.dK (cols c a d n f)) ∧ H c = some (.lst (ns.map V.int)) ∧ ns.length ≤ 1000 ∧ 0 ≤ a ∧ 0 ≤ n ∧ n ≤ m ∧ 0 ≤ f ∧ f < 2147483648
/-- all but the object at p stands as it stood -/
def But (p : Addr) (H H' : Hp) : Prop := ∀ b o, H b = some o → b ≠ p → H' b = some o
theorem But.upd {p : Addr} {H : Hp} {o : HO} : But p H (upd H p o) := fun b o e h => by
  rw [upd_ne h]
  exact e
theorem But.trans {p : Addr} {H H1 H2 : Hp} (a : But p H H1) (b : But p H1 H2) : But p H H2 := fun c o e h => b c o (a c o e h) h
theorem But.refl {p : Addr} {H : Hp} : But p H H := fun _ _ e _ => e
theorem But.of_same {p : Addr} {H H' : Hp} (s : Same H H') : But p H H' := fun c o e _ => s c o e
theorem PenC.same {H H' : Hp} {p c : Addr} {m : Nat} (h : PenC H p c m) (s : Same H H') : PenC H' p c m := by
  obtain ⟨ns, a, d, n, f, h1, h2, r⟩ := h
  exact ⟨ns, a, d, n, f, s _ _ h1, s _ _ h2, r⟩
theorem PenC.more {H : Hp} {p c : Addr} {m m' : Nat} (h : PenC H p c m) (s : m ≤ m') : PenC H p c m' := by
  obtain ⟨ns, a, d, n, f, h1, h2, h3, ha, h4, h5, r⟩ := h
  exact ⟨ns, a, d, n, f, h1, h2, h3, ha, h4, by omega, r⟩
theorem PenC.upd {H : Hp} {p c q : Addr} {m : Nat} {o : HO} (h : PenC H p c m) (n1 : q ≠ p) (n2 : q ≠ c) : PenC (upd H q o) p c m := by
  obtain ⟨ns, a, d, n, f, h1, h2, r⟩ := h
  exact ⟨ns, a, d, n, f, by rw [upd_ne n1.symm]; exact h1, by rw [upd_ne n2.symm]; exact h2, r⟩
theorem PenC.free {H : Hp} {p c q : Addr} {m : Nat} (h : PenC H p c m) (e : H q = none) : q ≠ p ∧ q ≠ c := by
  obtain ⟨ns, a, d, n, f, h1, h2, r⟩ := h
  refine ⟨fun z => ?_, fun z => ?_⟩
  · rw [z, h1] at e
    cases e
  · rw [z, h2] at e
    cases e
/-- the script, as each def is handed it -/
def spPen (K : PySem.W.Frag) : Sp := fun vs H Q _ => ∃ (a : Addr) (ns : List Int), vs = [.ref a] ∧ SqL K H a (ns.map V.int) ∧ ns.length ≤ 63 ∧
  ∀ (p c : Addr) (H' : Hp), H p = none → Same H H' → PenC H' p c 0 → Q (.ref p) H'
def spDraw : Sp := fun vs H Q _ => ∃ (p c : Addr) (m : Nat) (many : Int), vs = [.ref p, .int many] ∧ PenC H p c m ∧ m ≤ 1000000000000 ∧ 0 < many ∧ many < 1073741824 ∧
  ∀ (r : Int) (H' : Hp), 0 ≤ r → r < many → PenC H' p c (m + 1) → But p H H' → Q (.int r) H'
def spPick (K : PySem.W.Frag) : Sp := fun vs H Q _ => ∃ (p c l : Addr) (m : Nat) (xs : List V), vs = [.ref p, .ref l] ∧ PenC H p c m ∧ m ≤ 1000000000000 ∧ l ≠ p ∧ SqL K H l xs ∧ 0 < xs.length ∧ xs.length ≤ 1000 ∧
  ∀ (v : V) (i : Nat) (H' : Hp), xs[i]? = some v → PenC H' p c (m + 1) → But p H H' → Q v H'
abbrev pN : List Str := ["_law_script", "_law_fold", "_law_cell"]
abbrev dN : List Str := ["_law_pen_here", "_law_many", "_law_cell", "_law_digit", "_law_blend"]
abbrev kN : List Str := ["_law_pen_here", "_law_some"]
theorem int_item {ns : List Int} {i : Nat} {y : V} (h : (ns.map V.int)[i]? = some y) : ∃ z, y = V.int z := by
  rw [List.getElem?_map] at h
  cases e : ns[i]? with
  | none =>
    rw [e] at h
    cases h
  | some u =>
    rw [e] at h
    exact ⟨u, (Option.some.inj h).symm⟩
structure Txt (mg : Str → Option Value) : Prop where
  len : mg "len" = none
  int : mg "int" = none
  list : mg "list" = none
section
variable {P : Program} {w : World} {K : PySem.W.Frag} {mg : Str → Option Value} {base : Heap} {f : Addr} {fd : FuncData}
theorem scPen : FnScope pN ["_law_script"] (defScope sPen) := ⟨rfl, rfl, rfl, by decide +kernel, rfl, by decide +kernel, by decide +kernel⟩
theorem scDraw : FnScope dN ["_law_pen_here", "_law_many"] (defScope sDraw) := ⟨rfl, rfl, rfl, by decide +kernel, rfl, by decide +kernel, by decide +kernel⟩
theorem scPick : FnScope kN ["_law_pen_here", "_law_some"] (defScope sPick) := ⟨rfl, rfl, rfl, by decide +kernel, rfl, by decide +kernel, by decide +kernel⟩
theorem ok_pen {CX : CXT} (F : FnP K "_law_pen" sPen f fd) (T : Txt mg) : FnOk P w K mg base CX 1 f fd ["_law_script"] (spPen K) := by
  refine F.ok scPen (fun vs H Q E h => ?_) (fun cdv A outer s H vs Q E hr h => ?_)
  · obtain ⟨a, ns, rfl, _⟩ := h
    rfl
  · obtain ⟨a, ns, rfl, hS, hl, k⟩ := h
    refine ⟨_, PSs.nox (pss_cons (ps_set (i := 1) scPen.nd rfl (Or.inl rfl) pe_int)
      (pss_cons (ps_for PassesOwn.never rfl (pi_list (pv 0)) (pg_name (i := 2) scPen.nd rfl (Or.inl rfl))
        (pss_one (ps_set (i := 1) scPen.nd rfl (Or.inl rfl) (pe_op op_mod (pe_callTy call_int1 (by rfl) T.int (by decide +kernel) (pa_cons (pe_op op_add (pe_op op_mul (pv 1) pe_int) (pv 2)) pa_nil)) pe_int))))
      (pss_one (ps_ret (pe_disp (pps_cons pe_str (pe_callTy call_list_of (by rfl) T.list (by decide +kernel) (pa_cons (pv 0) pa_nil)) (pps_cons pe_str pe_int (pps_cons pe_str pe_int (pps_cons pe_str pe_int (pps_cons pe_str (pv 1) pps_nil))))) (by rfl) (by rfl) (fun z => by cases z) (by decide)))))), ?_⟩
    refine ⟨_, rfl, a, rfl, ⟨_, hS⟩, for_list (K := K) (a := a) (xs := ns.map V.int) (fun i σ H2 => ∃ (z : Int) (v : Option V), σ = [some (.ref a), some (.int z), v] ∧ H2 = H ∧ 0 ≤ z ∧ z < 1000000007)
      ⟨0, none, rfl, rfl, by decide, by decide⟩ (fun i σ H2 _ ⟨_, _, _, e, _⟩ => by rw [e]; exact hS) ?_ ?_⟩
    · rintro i y σ H2 hi ⟨z, v, rfl, rfl, h0, h1⟩
      obtain ⟨u, rfl⟩ := int_item hi
      refine ⟨_, rfl, _, _, rfl, rfl, .inr ⟨by decide, by decide⟩, _, rfl, _, _, rfl, rfl, .inl ⟨_, rfl, _, _, rfl, rfl, (by show (0 : Int) < 1000000007; decide), ?_⟩⟩
      exact ⟨_, _, rfl, rfl, Int.emod_nonneg _ (by decide), Int.emod_lt_of_pos _ (by decide)⟩
    · rintro σ H2 ⟨z, v, rfl, rfl, h0, h1⟩
      intro p hp
      have sp : Same H2 (upd H2 p (.dK [])) := fun b o e => by
        rw [upd_ne (ne_of_none e hp)]
        exact e
      refine ⟨_, rfl, a, _, rfl, .inl (sp.seq hS), fun l hl0 => ?_⟩
      have npl : p ≠ l := fun q => by
        rw [← q, upd_same] at hl0
        cases hl0
      have hl1 : H2 l = none := by
        rw [upd_ne npl.symm] at hl0
        exact hl0
      refine ⟨_, rfl, by rw [upd_ne npl, upd_same], cols l 0 0 0 z, rfl, (by show 5 ≤ 15; decide), ?_⟩
      refine k p l _ hp (fun b o e => ?_) ⟨ns, 0, 0, 0, z, upd_same, ?_, by omega, by decide, by decide, by decide, h0, by omega⟩
      · rw [upd_ne (ne_of_none e hp), upd_ne (ne_of_none e hl1), upd_ne (ne_of_none e hp)]
        exact e
      · rw [upd_ne npl.symm, upd_same]
theorem ok_draw {CX : CXT} (F : FnP K "_law_draw" sDraw f fd) (T : Txt mg) : FnOk P w K mg base CX 1 f fd ["_law_pen_here", "_law_many"] spDraw := by
  refine F.ok scDraw (fun vs H Q E h => ?_) (fun cdv A outer s H vs Q E hr h => ?_)
  · obtain ⟨p, c, m, many, rfl, _⟩ := h
    rfl
  · obtain ⟨p, c, m, many, rfl, ⟨ns, a, d, n, fo, hp, hc, hz, a0, n0, nm, f0, f1⟩, hm, m0, m1, k⟩ := h
    have hu := hu_of hr
    have ncp : c ≠ p := ne_of hc hp (by intro z; cases z)
    refine ⟨_, PSs.nox (pss_cons (ps_dput hu (pv 0) pe_str (pe_op op_add (pe_dget hu (pv 0) pe_str (fun _ _ => rfl)) pe_int) rfl)
      (C8.pss_cut (ps_if (PW.pt (pw_and (pt_cmpR op_eq (pe_dget hu (pv 0) pe_str (fun _ _ => rfl)) pe_int (nomark _))
          (pw_and1 (pt_cmpR op_lt (pe_dget hu (pv 0) pe_str (fun _ _ => rfl)) (pe_callB call_len_seq (by rfl) T.len PySem.boot_len (pa_cons (pe_dget hu (pv 0) pe_str (fun _ _ => rfl)) pa_nil)) (nomark _)))))
        (pss_cons (ps_set (i := 2) scDraw.nd rfl (Or.inl rfl) (pe_ix ix_list (pe_dget hu (pv 0) pe_str (fun _ _ => rfl)) (pe_dget hu (pv 0) pe_str (fun _ _ => rfl)) (fun _ _ => rfl)))
        (pss_cons (ps_dput hu (pv 0) pe_str (pe_op op_add (pe_dget hu (pv 0) pe_str (fun _ _ => rfl)) pe_int) rfl)
        (pss_one (ps_if (pt_cmpR op_ge (pv 2) (pe_op op_pow pe_int pe_int) (nomark _))
          (pss_one (ps_dput hu (pv 0) pe_str (pe_op op_sub (pv 2) (pe_op op_pow pe_int pe_int)) rfl))
          (pss_one (ps_dput hu (pv 0) pe_str (pe_op op_mod (pe_callTy call_int1 (by rfl) T.int (by decide +kernel) (pa_cons (pe_op op_add (pe_op op_mul (pe_dget hu (pv 0) pe_str (fun _ _ => rfl)) pe_int) (pv 2)) pa_nil)) pe_int) rfl))))))
        pss_nil)
      (pss_cons (ps_if (pt_cmpR op_gt (pe_dget hu (pv 0) pe_str (fun _ _ => rfl)) pe_int (nomark _))
        (pss_cons (ps_set (i := 3) scDraw.nd rfl (Or.inl rfl) (pe_op op_mod (pe_callTy call_int1 (by rfl) T.int (by decide +kernel) (pa_cons (pe_dget hu (pv 0) pe_str (fun _ _ => rfl)) pa_nil)) (pv 1)))
        (pss_cons (ps_dput hu (pv 0) pe_str (pe_op op_fdiv (pe_dget hu (pv 0) pe_str (fun _ _ => rfl)) (pv 1)) rfl)
        (pss_one (ps_ret (pv 3)))))
        pss_nil)
      (pss_cons (ps_set (i := 4) scDraw.nd rfl (Or.inl rfl) (pe_op op_add (pe_op op_add (pe_dget hu (pv 0) pe_str (fun _ _ => rfl)) (pe_op op_mul (pe_dget hu (pv 0) pe_str (fun _ _ => rfl)) pe_int)) pe_int))
      (pss_one (ps_ret (pe_op op_mod (pe_op op_fdiv (pe_callTy call_int1 (by rfl) T.int (by decide +kernel) (pa_cons (pe_op op_mod (pe_op op_pow (pv 4) pe_int) pe_int) pa_nil)) pe_int) (pv 1)))))))), ?_⟩
    -- count
    refine ⟨_, rfl, _, _, rfl, dg_count hp, _, _, rfl, rfl, _, rfl, p, _, rfl, dp_count hp, ?_⟩
    have hp1 : ∀ {o : HO}, upd H p o p = some o := upd_same
    have hc1 : ∀ {o : HO}, upd H p o c = some (.lst (ns.map V.int)) := by
      intro o
      rw [upd_ne ncp]
      exact hc
    refine ⟨fun σ H2 => ∃ (a' d' fo' : Int) (cell : Option V), σ = [some (.ref p), some (.int many), cell, none, none] ∧ H2 = upd H p (.dK (cols c a' d' (n + 1) fo')) ∧ 0 ≤ a' ∧ 0 ≤ fo' ∧ fo' < 2147483648, ?_, ?_⟩
    · refine ⟨_, rfl, _, _, rfl, dg_digits hp1, rfl, _, rfl, ?_⟩
      refine ite2 (fun _ => ?_) (fun _ => ?_)
      · refine ⟨_, rfl, _, _, rfl, dg_at hp1, _, rfl, _, _, rfl, dg_cells hp1, _, _, rfl, .inl (SqL.of hc1), _, _, rfl, rfl, _, rfl, ?_⟩
        refine ite2 (fun hlt => ?_) (fun _ => ?_)
        · have hlt := of_decide_eq_true hlt
          have hj : a.toNat < (ns.map V.int).length := by omega
          obtain ⟨u, hu2⟩ := int_item (List.getElem?_eq_getElem hj)
          have hit : (ns.map V.int)[a.toNat]? = some (V.int u) := by
            rw [List.getElem?_eq_getElem hj, hu2]
          refine ⟨_, rfl, _, _, rfl, dg_cells hp1, _, rfl, _, _, rfl, dg_at hp1, _, _, _, _, rfl, rfl, SqL.of hc1, at_of (j := a.toNat) (by omega) hit, ?_⟩
          refine ⟨_, rfl, _, _, rfl, dg_at hp1, _, _, rfl, rfl, _, rfl, p, _, rfl, dp_at hp1, ?_⟩
          rw [upd_upd]
          refine ⟨_, rfl, _, _, rfl, rfl, ⟨by decide, by decide, by decide⟩, _, _, rfl, rfl, _, rfl, ?_⟩
          refine ite2 (fun _ => ?_) (fun _ => ?_)
          · refine ⟨_, rfl, _, _, rfl, rfl, ⟨by decide, by decide, by decide⟩, _, _, rfl, rfl, _, rfl, p, _, rfl, dp_digits hp1, ?_⟩
            rw [upd_upd]
            exact ⟨_, _, _, _, rfl, rfl, by omega, f0, f1⟩
          · refine ⟨_, rfl, _, _, rfl, dg_fold hp1, _, _, rfl, rfl, .inr ⟨by decide, by decide⟩, _, rfl, _, _, rfl, rfl, .inl ⟨_, rfl, _, _, rfl, rfl, (by show (0 : Int) < 2147483587; decide), ?_⟩⟩
            refine ⟨_, rfl, p, _, rfl, dp_fold hp1, ?_⟩
            rw [upd_upd]
            exact ⟨_, _, _, _, rfl, rfl, by omega, Int.emod_nonneg _ (by decide), Int.lt_trans (Int.emod_lt_of_pos _ (by decide)) (by decide)⟩
        · exact ⟨_, _, _, _, rfl, rfl, a0, f0, f1⟩
      · exact ⟨_, _, _, _, rfl, rfl, a0, f0, f1⟩
    · rintro σ H2 ⟨a', d', fo', cell, rfl, rfl, h0, g0, g1⟩
      refine ⟨_, rfl, _, _, rfl, dg_digits hp1, _, _, rfl, rfl, _, rfl, ?_⟩
      refine ite2 (fun _ => ?_) (fun _ => ?_)
      · refine ⟨_, rfl, _, _, rfl, dg_digits hp1, .inl ⟨_, rfl, _, rfl, _, _, rfl, rfl, m0, ?_⟩⟩
        refine ⟨_, rfl, _, _, rfl, dg_digits hp1, _, rfl, _, _, rfl, rfl, ⟨m0, m1⟩, _, rfl, p, _, rfl, dp_digits hp1, ?_⟩
        rw [upd_upd]
        refine ⟨_, rfl, k _ _ (Int.emod_nonneg _ (by omega)) (Int.emod_lt_of_pos _ m0) ⟨ns, _, _, _, _, hp1, hc1, hz, h0, by omega, by omega, g0, g1⟩ But.upd⟩
      · refine ⟨_, rfl, _, _, rfl, dg_fold hp1, _, rfl, _, _, rfl, dg_count hp1, _, _, rfl, rfl, .inr ⟨by decide, by decide⟩, _, _, rfl, rfl, _, _, rfl, rfl, ?_⟩
        refine ⟨_, rfl, _, _, rfl, rfl, ⟨by decide, by decide, ?_⟩, _, _, rfl, rfl, (by show (0 : Int) < 2305843009213693951; decide), .inl ⟨_, rfl, _, _, rfl, rfl, ⟨by decide, by decide⟩, _, rfl, _, _, rfl, rfl, m0, ?_⟩⟩
        · omega
        · exact k _ _ (Int.emod_nonneg _ (by omega)) (Int.emod_lt_of_pos _ m0) ⟨ns, _, _, _, _, hp1, hc1, hz, h0, by omega, by omega, g0, g1⟩ But.upd
theorem ok_pick {CX : CXT} {fD : Addr} {fdD : FuncData} (F : FnP K "_law_pick" sPick f fd) (T : Txt mg) (FD : FnP K "_law_draw" sDraw fD fdD) (gD : mg "_law_draw" = some (.ref fD)) (hCX : ∀ X, Passes CX X E0 := by exact fun X => pass0) : FnOk P w K mg base CX 2 f fd ["_law_pen_here", "_law_some"] (spPick K) := by
  have GD : FnOk P w K mg base CX0 1 fD fdD ["_law_pen_here", "_law_many"] spDraw := ok_draw FD T
  have bD : Binds K fdD ["_law_pen_here", "_law_many"] [] := FD.bindsN fun _ _ _ _ _ _ us hl => match us, hl with | [_, _], _ => rfl
  refine F.ok scPick (fun vs H Q E h => ?_) (fun cdv A outer s H vs Q E hr h => ?_)
  · obtain ⟨p, c, l, m, xs, rfl, _⟩ := h
    rfl
  · obtain ⟨p, c, l, m, xs, rfl, hP, hm, hlp, hS, h0, h1, k⟩ := h
    refine ⟨_, PSs.nox (pss_one (ps_ret (pe_ix ix_list (pv 1) (pe_call GD hr rfl gD FD.kp bD .nil pass0 (pa_cons (pv 0) (pa_cons (pe_callB call_len_seq (by rfl) T.len PySem.boot_len (pa_cons (pv 1) pa_nil)) pa_nil))) (fun _ _ => rfl)))), ?_⟩
    refine ⟨_, rfl, _, rfl, _, rfl, _, _, rfl, .inl hS, p, c, m, _, rfl, hP, hm, by omega, by omega, fun r H' r0 r1 hP' hB => ?_⟩
    have hj : r.toNat < xs.length := by omega
    have hS' : SqL K H' l xs := by
      rcases hS with (h | ⟨o, h⟩) | h
      · exact .inl (.inl (hB _ _ h hlp))
      · exact .inl (.inr ⟨o, hB _ _ h hlp⟩)
      · exact .inr h
    exact ⟨_, _, _, _, rfl, rfl, hS', at_of (j := r.toNat) (by omega) (List.getElem?_eq_getElem hj), k _ _ _ (List.getElem?_eq_getElem hj) hP' hB⟩
end
end Pen
namespace Ki
open PySem PySem.Spec PyProof.Rows L2 Pen Dat
/-! ## Of which kind a value is -/
structure Tx (mg : Str → Option Value) : Prop where
  isi : mg "isinstance" = none
  int : mg "int" = none
  bool : mg "bool" = none
  tuple : mg "tuple" = none
  list : mg "list" = none
  len : mg "len" = none
  all : mg "all" = none
def betD (d : PyData) (lo hi : Int) : Bool :=
  match d with
  | .int i => decide (lo ≤ i) && decide (i ≤ hi)
  | _ => false
def fromD (d : PyData) (lo : Int) : Bool :=
  match d with
  | .int i => decide (i ≥ lo)
  | _ => false
def rowsD (d : PyData) : List PyData :=
  match d with
  | .list ds => ds
  | .tuple ds => ds
  | _ => []
def rowB (d : PyData) (many lo hi : Int) : Bool := isRowD d && (decide (((rowsD d).length : Int) = many) && (rowsD d).all fun e => betD e lo hi)
def spBetween (K : PySem.W.Frag) : Sp := fun vs H Q _ => ∃ (v : V) (lo hi : Int) (d : PyData), vs = [v, .int lo, .int hi] ∧ Dp K H v d ∧ Q (.bl (betD d lo hi)) H
def spFrom (K : PySem.W.Frag) : Sp := fun vs H Q _ => ∃ (v : V) (lo : Int) (d : PyData), vs = [v, .int lo] ∧ Dp K H v d ∧ Q (.bl (fromD d lo)) H
def spRow (K : PySem.W.Frag) : Sp := fun vs H Q _ => ∃ (v : V) (d : PyData), vs = [v] ∧ Dp K H v d ∧ ∀ H', Same H H' → Q (.bl (isRowD d)) H'
def spRowB (K : PySem.W.Frag) : Sp := fun vs H Q _ => ∃ (v : V) (many lo hi : Int) (d : PyData), vs = [v, .int many, .int lo, .int hi] ∧ Dp K H v d ∧ (rowsD d).length ≤ 1000 ∧ ∀ H', Same H H' → Q (.bl (rowB d many lo hi)) H'
section
variable {P : Program} {w : World} {K : PySem.W.Frag} {mg : Str → Option Value} {base : Heap} {f : Addr} {fd : FuncData}
theorem same_new {H : Hp} {p : Addr} {u : HO} (np : H p = none) : Same H (upd H p u) := fun b o e => by
  rw [upd_ne (ne_of_none e np)]
  exact e
theorem scBetween : FnScope ["value", "least", "most"] ["value", "least", "most"] (defScope sBetween) := ⟨rfl, rfl, rfl, by decide +kernel, rfl, by decide +kernel, by decide +kernel⟩
theorem scFrom : FnScope ["value", "least"] ["value", "least"] (defScope sFrom) := ⟨rfl, rfl, rfl, by decide +kernel, rfl, by decide +kernel, by decide +kernel⟩
theorem scRow : FnScope ["value"] ["value"] (defScope sRow) := ⟨rfl, rfl, rfl, by decide +kernel, rfl, by decide +kernel, by decide +kernel⟩
abbrev rbN : List Str := ["value", "many", "least", "most", "part"]
theorem scRowB : FnScope rbN ["value", "many", "least", "most"] (defScope sRowB) := ⟨rfl, rfl, rfl, by decide +kernel, rfl, by decide +kernel, by decide +kernel⟩
theorem ok_between (F : FnP K "is_between" sBetween f fd) (T : Tx mg) : FnOk P w K mg base CX0 1 f fd ["value", "least", "most"] (spBetween K) := by
  refine F.ok scBetween (fun vs H Q E h => ?_) (fun cdv A outer s H vs Q E hr h => ?_)
  · obtain ⟨v, lo, hi, d, rfl, _⟩ := h
    rfl
  · obtain ⟨v, lo, hi, d, rfl, hd, q⟩ := h
    refine ⟨_, PSs.nox (pss_one (ps_ret (pe_and (pe_callB call_isi (by rfl) T.isi (by decide +kernel) (pa_cons (pv 0) (pa_cons (pe_bltn (v := .ty "int") (by rfl) T.int (by decide +kernel) rfl) pa_nil)))
      (pe_and (pe_not (pe_callB call_isi (by rfl) T.isi (by decide +kernel) (pa_cons (pv 0) (pa_cons (pe_bltn (v := .ty "bool") (by rfl) T.bool (by decide +kernel) rfl) pa_nil))))
      (pe_one (pe_chain op_le op_le (pv 1) (pv 0) (pv 2))))))), ?_⟩
    refine ⟨_, rfl, _, _, _, _, _, rfl, .ty _, ty_of hd, kit_int hd, _, rfl, ?_⟩
    have kb := kit_bool hd
    have tb := ty_of hd
    cases hd with
    | non => exact iteF q
    | str x => exact iteF q
    | lst _ _ => exact iteF q
    | tup _ _ => exact iteF q
    | bl b => exact iteT ⟨_, rfl, _, _, _, _, _, rfl, .ty _, tb, kb, _, rfl, _, rfl, iteF q⟩
    | int i =>
      refine iteT ⟨_, rfl, _, _, _, _, _, rfl, .ty _, tb, kb, _, rfl, _, rfl, iteT ?_⟩
      refine ⟨_, rfl, _, rfl, _, _, rfl, rfl, _, rfl, ite2 (fun h1 => ?_) (fun h1 => ?_)⟩
      · refine ⟨_, rfl, _, _, rfl, rfl, ?_⟩
        have e : (decide (lo ≤ i) && decide (i ≤ hi)) = decide (i ≤ hi) := by
          rw [h1]
          rfl
        show Q (V.bl (decide (i ≤ hi))) H
        rw [← e]
        exact q
      · have e : (decide (lo ≤ i) && decide (i ≤ hi)) = false := by
          rw [Bool.eq_false_iff.mpr h1]
          rfl
        show Q (V.bl false) H
        rw [← e]
        exact q
theorem ok_from (F : FnP K "is_from" sFrom f fd) (T : Tx mg) : FnOk P w K mg base CX0 1 f fd ["value", "least"] (spFrom K) := by
  refine F.ok scFrom (fun vs H Q E h => ?_) (fun cdv A outer s H vs Q E hr h => ?_)
  · obtain ⟨v, lo, d, rfl, _⟩ := h
    rfl
  · obtain ⟨v, lo, d, rfl, hd, q⟩ := h
    refine ⟨_, PSs.nox (pss_one (ps_ret (pe_and (pe_callB call_isi (by rfl) T.isi (by decide +kernel) (pa_cons (pv 0) (pa_cons (pe_bltn (v := .ty "int") (by rfl) T.int (by decide +kernel) rfl) pa_nil)))
      (pe_and (pe_not (pe_callB call_isi (by rfl) T.isi (by decide +kernel) (pa_cons (pv 0) (pa_cons (pe_bltn (v := .ty "bool") (by rfl) T.bool (by decide +kernel) rfl) pa_nil))))
      (pe_one (pe_cmpR op_ge (pv 0) (pv 1) (nomark _))))))), ?_⟩
    refine ⟨_, rfl, _, _, _, _, _, rfl, .ty _, ty_of hd, kit_int hd, _, rfl, ?_⟩
    have kb := kit_bool hd
    have tb := ty_of hd
    cases hd with
    | non => exact iteF q
    | str x => exact iteF q
    | lst _ _ => exact iteF q
    | tup _ _ => exact iteF q
    | bl b => exact iteT ⟨_, rfl, _, _, _, _, _, rfl, .ty _, tb, kb, _, rfl, _, rfl, iteF q⟩
    | int i =>
      refine iteT ⟨_, rfl, _, _, _, _, _, rfl, .ty _, tb, kb, _, rfl, _, rfl, iteT ?_⟩
      exact ⟨_, rfl, _, rfl, _, _, rfl, rfl, q⟩
theorem ok_row (F : FnP K "is_row" sRow f fd) (T : Tx mg) : FnOk P w K mg base CX0 1 f fd ["value"] (spRow K) := by
  refine F.ok scRow (fun vs H Q E h => ?_) (fun cdv A outer s H vs Q E hr h => ?_)
  · obtain ⟨v, d, rfl, _⟩ := h
    rfl
  · obtain ⟨v, d, rfl, hd, q⟩ := h
    refine ⟨_, PSs.nox (pss_one (ps_ret (pe_callB call_isiT (by rfl) T.isi (by decide +kernel) (pa_cons (pv 0) (pa_cons (pe_tup (pa_cons (pe_bltn (v := .ty "tuple") (by rfl) T.tuple (by decide +kernel) rfl) (pa_cons (pe_bltn (v := .ty "list") (by rfl) T.list (by decide +kernel) rfl) pa_nil))) pa_nil))))), ?_⟩
    refine ⟨_, rfl, (by show 2 ≤ sizeLine; decide), fun p np => ?_⟩
    exact ⟨_, _, _, _, _, _, rfl, upd_same, .cons (.ty _) (.cons (.ty _) .nil), ty_of (dp_same (same_new np) hd), kit_row hd, q _ (same_new np)⟩
theorem take_more {α : Type} {xs : List α} {i : Nat} {x : α} (h : xs[i]? = some x) : xs.take (i + 1) = xs.take i ++ [x] := by
  rw [List.take_succ, h]
  rfl
theorem yes_of {σ : L2.St} {H : Hp} {A B : Hp → Prop} (h : A H) : tYes σ H fun b H3 => if b = true then A H3 else B H3 := by
  show if true = true then A H else B H
  exact iteT h
theorem ok_rowB {fB fR : Addr} {fdB fdR : FuncData} (F : FnP K "is_row_between" sRowB f fd) (T : Tx mg) (FB : FnP K "is_between" sBetween fB fdB) (gB : mg "is_between" = some (.ref fB)) (FR : FnP K "is_row" sRow fR fdR) (gR : mg "is_row" = some (.ref fR)) :
    FnOk P w K mg base CX0 2 f fd ["value", "many", "least", "most"] (spRowB K) := by
  have GB : FnOk P w K mg base CX0 1 fB fdB ["value", "least", "most"] (spBetween K) := ok_between FB T
  have GR : FnOk P w K mg base CX0 1 fR fdR ["value"] (spRow K) := ok_row FR T
  have bB : Binds K fdB ["value", "least", "most"] [] := FB.bindsN fun _ _ _ _ _ _ us hl => match us, hl with | [_, _, _], _ => rfl
  have bR : Binds K fdR ["value"] [] := FR.bindsN fun _ _ _ _ _ _ us hl => match us, hl with | [_], _ => rfl
  refine F.ok scRowB (fun vs H Q E h => ?_) (fun cdv A outer s H vs Q E hr h => ?_)
  · obtain ⟨v, many, lo, hi, d, rfl, _⟩ := h
    rfl
  · obtain ⟨v, many, lo, hi, d, rfl, hd, hz, q⟩ := h
    cases hd with
    | lst hs ha =>
      rename_i a vs ds
      have hlen := dps_len ha
      have hz' : ds.length ≤ 1000 := hz
      refine ⟨_, PSs.nox (pss_one (ps_ret (pe_and (pe_call GR hr (by rfl) gR FR.kp bR .nil pass0 (pa_cons (pv 0) pa_nil))
        (pe_and (pe_cmpR op_eq (pe_callB call_len_seq (by rfl) T.len PySem.boot_len (pa_cons (pv 0) pa_nil)) (pv 1) (nomark _))
        (pe_one (pe_callB (cr_all rfl) (by rfl) T.all (by decide +kernel) (pa_cons
          (pe_lc (own := [("part", 4)]) (g := gName 4) (tt := tYes) rfl scRowB.nd (pi_list (pv 0)) (blkOk_by (N := rbN) (sc := defScope sRowB) (by decide +kernel)) (fun _ _ _ _ _ => pg_name (i := 4) scRowB.nd rfl (Or.inl rfl)) (fun _ _ _ _ _ => pts_nil)
            (fun _ _ _ _ _ => pe_call GB hr (by rfl) gB FB.kp bB .nil pass0 (pa_cons (pv 4) (pa_cons (pv 2) (pa_cons (pv 3) pa_nil))))) pa_nil))))))), ?_⟩
      refine ⟨_, rfl, _, _, rfl, .lst hs ha, fun H1 s1 => ⟨_, rfl, iteT ?_⟩⟩
      refine ⟨_, rfl, _, _, rfl, .inl (s1.seq hs), _, rfl, rfl, _, rfl, ite2 (fun e1 => ?_) (fun e1 => ?_)⟩
      · have e2 : (ds.length : Int) = many := by
          rw [← hlen]
          exact V.int.inj (of_decide_eq_true e1)
        refine ⟨_, rfl, a, rfl, ⟨_, s1.seq hs⟩, fun D nD => ?_⟩
        have sD : Same H1 (upd H1 D (.lst [])) := same_new nD
        refine lc_list (K := K) (a := a) (xs := vs) (fun i H2 => Same H1 H2 ∧ H2 D = some (.lst ((ds.take i).map fun e => V.bl (betD e lo hi)))) ⟨sD, by rw [upd_same]; rfl⟩ (fun i H2 _ ⟨s2, _⟩ => s2.seq (s1.seq hs)) ?_ ?_
        · rintro i v H2 hi ⟨s2, h2⟩
          obtain ⟨e, he, hv⟩ := dps_get ha hi
          refine ⟨rfl, yes_of ?_⟩
          refine ⟨_, rfl, _, rfl, _, rfl, _, _, _, e, rfl, dp_same (s1.trans s2) hv, _, h2, ?_, fun b o z => ?_, ?_⟩
          · rw [List.length_map, List.length_take]
            exact Nat.lt_of_le_of_lt (Nat.min_le_right _ _) (Nat.lt_of_le_of_lt hz' (by decide))
          · rw [upd_ne (ne_of_none z nD)]
            exact s2 _ _ z
          · rw [upd_same, take_more he, List.map_append]
            rfl
        · rintro H2 ⟨s2, h2⟩
          rw [hlen, List.take_length] at h2
          refine ⟨D, ds.map fun e => betD e lo hi, rfl, SqL.of ?_, ?_⟩
          · rw [h2, List.map_map]
            rfl
          · have e3 : rowB (.list ds) many lo hi = (ds.map fun e => betD e lo hi).all id := by
              show (true && (decide ((ds.length : Int) = many) && ds.all fun e => betD e lo hi)) = _
              rw [decide_eq_true e2, List.all_map]
              rfl
            rw [← e3]
            exact q _ (s1.trans s2)
      · have e2 : ¬ (ds.length : Int) = many := fun z => e1 (decide_eq_true (by rw [hlen, z]))
        have e3 : rowB (.list ds) many lo hi = false := by
          show (true && (decide ((ds.length : Int) = many) && ds.all fun e => betD e lo hi)) = false
          rw [decide_eq_false e2]
          rfl
        rw [← e3]
        exact q _ s1
    | tup hs ha =>
      rename_i a vs ds
      have hlen := dps_len ha
      have hz' : ds.length ≤ 1000 := hz
      refine ⟨_, PSs.nox (pss_one (ps_ret (pe_and (pe_call GR hr (by rfl) gR FR.kp bR .nil pass0 (pa_cons (pv 0) pa_nil))
        (pe_and (pe_cmpR op_eq (pe_callB call_len_seq (by rfl) T.len PySem.boot_len (pa_cons (pv 0) pa_nil)) (pv 1) (nomark _))
        (pe_one (pe_callB (cr_all rfl) (by rfl) T.all (by decide +kernel) (pa_cons
          (pe_lc (own := [("part", 4)]) (g := gName 4) (tt := tYes) rfl scRowB.nd (pi_tup (pv 0)) (blkOk_by (N := rbN) (sc := defScope sRowB) (by decide +kernel)) (fun _ _ _ _ _ => pg_name (i := 4) scRowB.nd rfl (Or.inl rfl)) (fun _ _ _ _ _ => pts_nil)
            (fun _ _ _ _ _ => pe_call GB hr (by rfl) gB FB.kp bB .nil pass0 (pa_cons (pv 4) (pa_cons (pv 2) (pa_cons (pv 3) pa_nil))))) pa_nil))))))), ?_⟩
      refine ⟨_, rfl, _, _, rfl, .tup hs ha, fun H1 s1 => ⟨_, rfl, iteT ?_⟩⟩
      refine ⟨_, rfl, _, _, rfl, .inr (seqT_same s1 hs), _, rfl, rfl, _, rfl, ite2 (fun e1 => ?_) (fun e1 => ?_)⟩
      · have e2 : (ds.length : Int) = many := by
          rw [← hlen]
          exact V.int.inj (of_decide_eq_true e1)
        refine ⟨_, rfl, a, rfl, ⟨_, seqT_same s1 hs⟩, fun D nD => ?_⟩
        have sD : Same H1 (upd H1 D (.lst [])) := same_new nD
        refine lc_tup (K := K) (a := a) (xs := vs) (fun i H2 => Same H1 H2 ∧ H2 D = some (.lst ((ds.take i).map fun e => V.bl (betD e lo hi)))) ⟨sD, by rw [upd_same]; rfl⟩ (fun i H2 _ ⟨s2, _⟩ => seqT_same s2 (seqT_same s1 hs)) ?_ ?_
        · rintro i v H2 hi ⟨s2, h2⟩
          obtain ⟨e, he, hv⟩ := dps_get ha hi
          refine ⟨rfl, yes_of ?_⟩
          refine ⟨_, rfl, _, rfl, _, rfl, _, _, _, e, rfl, dp_same (s1.trans s2) hv, _, h2, ?_, fun b o z => ?_, ?_⟩
          · rw [List.length_map, List.length_take]
            exact Nat.lt_of_le_of_lt (Nat.min_le_right _ _) (Nat.lt_of_le_of_lt hz' (by decide))
          · rw [upd_ne (ne_of_none z nD)]
            exact s2 _ _ z
          · rw [upd_same, take_more he, List.map_append]
            rfl
        · rintro H2 ⟨s2, h2⟩
          rw [hlen, List.take_length] at h2
          refine ⟨D, ds.map fun e => betD e lo hi, rfl, SqL.of ?_, ?_⟩
          · rw [h2, List.map_map]
            rfl
          · have e3 : rowB (.tuple ds) many lo hi = (ds.map fun e => betD e lo hi).all id := by
              show (true && (decide ((ds.length : Int) = many) && ds.all fun e => betD e lo hi)) = _
              rw [decide_eq_true e2, List.all_map]
              rfl
            rw [← e3]
            exact q _ (s1.trans s2)
      · have e2 : ¬ (ds.length : Int) = many := fun z => e1 (decide_eq_true (by rw [hlen, z]))
        have e3 : rowB (.tuple ds) many lo hi = false := by
          show (true && (decide ((ds.length : Int) = many) && ds.all fun e => betD e lo hi)) = false
          rw [decide_eq_false e2]
          rfl
        rw [← e3]
        exact q _ s1
    | non =>
      refine ⟨_, PSs.nox (pss_one (ps_ret (pe_and (pe_call GR hr (by rfl) gR FR.kp bR .nil pass0 (pa_cons (pv 0) pa_nil))
        (pe_and (pe_cmpR op_eq (pe_callB call_len_seq (by rfl) T.len PySem.boot_len (pa_cons (pv 0) pa_nil)) (pv 1) (nomark _))
        (pe_one (pe_callB (cr_all rfl) (by rfl) T.all (by decide +kernel) (pa_cons
          (pe_lc (own := [("part", 4)]) (g := gName 4) (tt := tYes) rfl scRowB.nd (pi_list (pv 0)) (blkOk_by (N := rbN) (sc := defScope sRowB) (by decide +kernel)) (fun _ _ _ _ _ => pg_name (i := 4) scRowB.nd rfl (Or.inl rfl)) (fun _ _ _ _ _ => pts_nil)
            (fun _ _ _ _ _ => pe_call GB hr (by rfl) gB FB.kp bB .nil pass0 (pa_cons (pv 4) (pa_cons (pv 2) (pa_cons (pv 3) pa_nil))))) pa_nil))))))), ?_⟩
      exact ⟨_, rfl, _, _, rfl, .non, fun H1 s1 => ⟨_, rfl, iteF (q _ s1)⟩⟩
    | bl b =>
      refine ⟨_, PSs.nox (pss_one (ps_ret (pe_and (pe_call GR hr (by rfl) gR FR.kp bR .nil pass0 (pa_cons (pv 0) pa_nil))
        (pe_and (pe_cmpR op_eq (pe_callB call_len_seq (by rfl) T.len PySem.boot_len (pa_cons (pv 0) pa_nil)) (pv 1) (nomark _))
        (pe_one (pe_callB (cr_all rfl) (by rfl) T.all (by decide +kernel) (pa_cons
          (pe_lc (own := [("part", 4)]) (g := gName 4) (tt := tYes) rfl scRowB.nd (pi_list (pv 0)) (blkOk_by (N := rbN) (sc := defScope sRowB) (by decide +kernel)) (fun _ _ _ _ _ => pg_name (i := 4) scRowB.nd rfl (Or.inl rfl)) (fun _ _ _ _ _ => pts_nil)
            (fun _ _ _ _ _ => pe_call GB hr (by rfl) gB FB.kp bB .nil pass0 (pa_cons (pv 4) (pa_cons (pv 2) (pa_cons (pv 3) pa_nil))))) pa_nil))))))), ?_⟩
      exact ⟨_, rfl, _, _, rfl, .bl b, fun H1 s1 => ⟨_, rfl, iteF (q _ s1)⟩⟩
    | int i =>
      refine ⟨_, PSs.nox (pss_one (ps_ret (pe_and (pe_call GR hr (by rfl) gR FR.kp bR .nil pass0 (pa_cons (pv 0) pa_nil))
        (pe_and (pe_cmpR op_eq (pe_callB call_len_seq (by rfl) T.len PySem.boot_len (pa_cons (pv 0) pa_nil)) (pv 1) (nomark _))
        (pe_one (pe_callB (cr_all rfl) (by rfl) T.all (by decide +kernel) (pa_cons
          (pe_lc (own := [("part", 4)]) (g := gName 4) (tt := tYes) rfl scRowB.nd (pi_list (pv 0)) (blkOk_by (N := rbN) (sc := defScope sRowB) (by decide +kernel)) (fun _ _ _ _ _ => pg_name (i := 4) scRowB.nd rfl (Or.inl rfl)) (fun _ _ _ _ _ => pts_nil)
            (fun _ _ _ _ _ => pe_call GB hr (by rfl) gB FB.kp bB .nil pass0 (pa_cons (pv 4) (pa_cons (pv 2) (pa_cons (pv 3) pa_nil))))) pa_nil))))))), ?_⟩
      exact ⟨_, rfl, _, _, rfl, .int i, fun H1 s1 => ⟨_, rfl, iteF (q _ s1)⟩⟩
    | str x =>
      refine ⟨_, PSs.nox (pss_one (ps_ret (pe_and (pe_call GR hr (by rfl) gR FR.kp bR .nil pass0 (pa_cons (pv 0) pa_nil))
        (pe_and (pe_cmpR op_eq (pe_callB call_len_seq (by rfl) T.len PySem.boot_len (pa_cons (pv 0) pa_nil)) (pv 1) (nomark _))
        (pe_one (pe_callB (cr_all rfl) (by rfl) T.all (by decide +kernel) (pa_cons
          (pe_lc (own := [("part", 4)]) (g := gName 4) (tt := tYes) rfl scRowB.nd (pi_list (pv 0)) (blkOk_by (N := rbN) (sc := defScope sRowB) (by decide +kernel)) (fun _ _ _ _ _ => pg_name (i := 4) scRowB.nd rfl (Or.inl rfl)) (fun _ _ _ _ _ => pts_nil)
            (fun _ _ _ _ _ => pe_call GB hr (by rfl) gB FB.kp bB .nil pass0 (pa_cons (pv 4) (pa_cons (pv 2) (pa_cons (pv 3) pa_nil))))) pa_nil))))))), ?_⟩
      exact ⟨_, rfl, _, _, rfl, .str x, fun H1 s1 => ⟨_, rfl, iteF (q _ s1)⟩⟩
end
end Ki
namespace Fi
open PySem PySem.Spec PyProof.Rows L2 Pen Dat
/-! ## What never changes: tuples, locked things, instances -/
def firm : HO → Bool
  | .tup _ => true
  | .frz _ _ => true
  | .ins _ _ _ => true
  | _ => false
def Firm (H H' : Hp) : Prop := ∀ b o, H b = some o → firm o = true → H' b = some o
theorem Firm.refl (H : Hp) : Firm H H := fun _ _ e _ => e
theorem Firm.trans {H H1 H2 : Hp} (a : Firm H H1) (b : Firm H1 H2) : Firm H H2 := fun c o e h => b c o (a c o e h) h
theorem Firm.of {H H' : Hp} (s : Same H H') : Firm H H' := fun b o e _ => s b o e
theorem Firm.upd {H : Hp} {a : Addr} {u o : HO} (h : H a = some u) (hu : firm u = false) : Firm H (upd H a o) := fun b z e hz => by
  rw [upd_ne (fun q => by rw [q, h] at e; cases e; rw [hu] at hz; cases hz)]
  exact e
theorem Firm.but {H H' : Hp} {p : Addr} {u : HO} (c : But p H H') (h : H p = some u) (hu : firm u = false) : Firm H H' := fun b z e hz =>
  c b z e fun q => by
    rw [q, h] at e
    cases e
    rw [hu] at hz
    cases hz
theorem Firm.pen {H H' : Hp} {p c : Addr} {m : Nat} (b : But p H H') (h : PenC H p c m) : Firm H H' := by
  obtain ⟨_, _, _, _, _, h1, _⟩ := h
  exact Firm.but b h1 rfl
/-! ### two lists, item by item -/
inductive All2 {α : Type} (R : V → α → Prop) : List V → List α → Prop
  | nil : All2 R [] []
  | cons {v : V} {x : α} {vs : List V} {xs : List α} : R v x → All2 R vs xs → All2 R (v :: vs) (x :: xs)
section
variable {α : Type} {R R' : V → α → Prop}
theorem All2.len : ∀ {vs : List V} {xs : List α}, All2 R vs xs → vs.length = xs.length
  | _, _, .nil => rfl
  | _, _, .cons _ h => congrArg Nat.succ h.len
theorem All2.imp (f : ∀ v x, R v x → R' v x) : ∀ {vs : List V} {xs : List α}, All2 R vs xs → All2 R' vs xs
  | _, _, .nil => .nil
  | _, _, .cons h t => .cons (f _ _ h) (t.imp f)
theorem All2.get : ∀ {vs : List V} {xs : List α}, All2 R vs xs → ∀ {i : Nat} {v : V}, vs[i]? = some v → ∃ x, xs[i]? = some x ∧ R v x
  | _, _, .nil, i, v, e => by simp at e
  | _, _, .cons (v := v0) (x := x0) h t, 0, v, e => by
    simp at e
    subst e
    exact ⟨x0, rfl, h⟩
  | _, _, .cons h t, i + 1, v, e => by
    simp at e
    obtain ⟨x, q1, q2⟩ := t.get e
    exact ⟨x, by simpa using q1, q2⟩
theorem All2.get' : ∀ {vs : List V} {xs : List α}, All2 R vs xs → ∀ {i : Nat} {x : α}, xs[i]? = some x → ∃ v, vs[i]? = some v ∧ R v x
  | _, _, .nil, i, v, e => by simp at e
  | _, _, .cons (v := v0) (x := x0) h t, 0, v, e => by
    simp at e
    subst e
    exact ⟨v0, rfl, h⟩
  | _, _, .cons h t, i + 1, v, e => by
    simp at e
    obtain ⟨x, q1, q2⟩ := t.get' e
    exact ⟨x, by simpa using q1, q2⟩
theorem All2.snoc {v : V} {x : α} (h : R v x) : ∀ {vs : List V} {xs : List α}, All2 R vs xs → All2 R (vs ++ [v]) (xs ++ [x])
  | _, _, .nil => .cons h .nil
  | _, _, .cons h1 t => .cons h1 (t.snoc h)
theorem All2.append : ∀ {vs ws : List V} {xs ys : List α}, All2 R vs xs → All2 R ws ys → All2 R (vs ++ ws) (xs ++ ys)
  | _, _, _, _, .nil, h => h
  | _, _, _, _, .cons h1 t, h => .cons h1 (t.append h)
theorem All2.take : ∀ {vs : List V} {xs : List α} (n : Nat), All2 R vs xs → All2 R (vs.take n) (xs.take n)
  | _, _, 0, _ => by
    rw [List.take_zero, List.take_zero]
    exact .nil
  | _, _, _ + 1, .nil => .nil
  | _, _, n + 1, .cons h t => .cons h (t.take n)
end
/-! ### pairs, rows of pairs, rows of ints -/
def Pt (K : PySem.W.Frag) (H : Hp) (v : V) (p : Int × Int) : Prop := ∃ q, v = .ref q ∧ SqT K H q [.int p.1, .int p.2]
def Pr (K : PySem.W.Frag) (H : Hp) (v : V) (p : Int × Int) : Prop := ∃ q, v = .ref q ∧ (SqL K H q [.int p.1, .int p.2] ∨ SqT K H q [.int p.1, .int p.2])
def Tu (K : PySem.W.Frag) (H : Hp) (v : V) (r : List Int) : Prop := ∃ q, v = .ref q ∧ H q = some (.tup (r.map V.int))
def GT (K : PySem.W.Frag) (H : Hp) (g : Addr) (gs : List (Int × Int)) : Prop := ∃ vs, SqT K H g vs ∧ All2 (Pt K H) vs gs
def RowG (K : PySem.W.Frag) (H : Hp) (v : V) (gs : List (Int × Int)) : Prop := ∃ r vs, v = .ref r ∧ (SqL K H r vs ∨ SqT K H r vs) ∧ All2 (Pr K H) vs gs
section
variable {K : PySem.W.Frag} {H H' : Hp}
theorem firm_seq {a : Addr} {xs : List V} (s : Firm H H') (h : SqT K H a xs) : SqT K H' a xs :=
  h.elim (fun h => .inl (h.elim (fun h => .inl (s _ _ h rfl)) fun ⟨o, h⟩ => .inr ⟨o, s _ _ h rfl⟩)) .inr
theorem Pt.firm {v : V} {p : Int × Int} (s : Firm H H') (h : Pt K H v p) : Pt K H' v p := by
  obtain ⟨q, e, h⟩ := h
  exact ⟨q, e, firm_seq s h⟩
theorem Tu.firm {v : V} {r : List Int} (s : Firm H H') (h : Tu K H v r) : Tu K H' v r := by
  obtain ⟨q, e, h⟩ := h
  exact ⟨q, e, s _ _ h rfl⟩
theorem GT.firm {g : Addr} {gs : List (Int × Int)} (s : Firm H H') (h : GT K H g gs) : GT K H' g gs := by
  obtain ⟨vs, h1, h2⟩ := h
  exact ⟨vs, firm_seq s h1, h2.imp fun _ _ q => q.firm s⟩
theorem Pr.same {v : V} {p : Int × Int} (s : Same H H') (h : Pr K H v p) : Pr K H' v p := by
  obtain ⟨q, e, h⟩ := h
  exact ⟨q, e, h.elim (fun h => .inl (s.seq h)) fun h => .inr (seqT_same s h)⟩
theorem RowG.same {v : V} {gs : List (Int × Int)} (s : Same H H') (h : RowG K H v gs) : RowG K H' v gs := by
  obtain ⟨r, vs, e, h1, h2⟩ := h
  exact ⟨r, vs, e, h1.elim (fun h => .inl (s.seq h)) fun h => .inr (seqT_same s h), h2.imp fun _ _ q => q.same s⟩
theorem Pt.pr {v : V} {p : Int × Int} (h : Pt K H v p) : Pr K H v p := by
  obtain ⟨q, e, h⟩ := h
  exact ⟨q, e, .inr h⟩
theorem GT.row {g : Addr} {gs : List (Int × Int)} (h : GT K H g gs) : RowG K H (.ref g) gs := by
  obtain ⟨vs, h1, h2⟩ := h
  exact ⟨g, vs, rfl, .inr h1, h2.imp fun _ _ q => q.pr⟩
/-- a row of pairs, as data -/
def pD (p : Int × Int) : PyData := .tuple [.int p.1, .int p.2]
def gD (gs : List (Int × Int)) : PyData := .tuple (gs.map pD)
theorem pt_dp {v : V} {p : Int × Int} (h : Pt K H v p) : Dp K H v (pD p) := by
  obtain ⟨q, rfl, h⟩ := h
  exact .tup h (.cons (.int _) (.cons (.int _) .nil))
theorem pts_dp : ∀ {vs : List V} {gs : List (Int × Int)}, All2 (Pt K H) vs gs → DpAll K H vs (gs.map pD)
  | _, _, .nil => .nil
  | _, _, .cons h t => .cons (pt_dp h) (pts_dp t)
theorem GT.dp {g : Addr} {gs : List (Int × Int)} (h : GT K H g gs) : Dp K H (.ref g) (gD gs) := by
  obtain ⟨vs, h1, h2⟩ := h
  exact .tup h1 (pts_dp h2)
theorem ints_dp : ∀ (r : List Int), DpAll K H (r.map V.int) (r.map PyData.int)
  | [] => .nil
  | _ :: r => .cons (.int _) (ints_dp r)
end
end Fi
namespace Gr
open PySem PySem.Spec PyProof.Rows L2 Pen Dat Ki Fi
/-! ## Graphs -/
structure Tx (K : PySem.W.Frag) (mg : Str → Option Value) (C : Addr) : Prop where
  ki : Ki.Tx mg
  cl : Cls K C
  nL : NoAttr K C "leaves"
  nG : NoAttr K C "gates"
  mgC : mg "Graph" = some (.ref C)
  cls : PySem.W.findIn K (.ref C) "__class__" = some (some (.builtin "object.__class__"))
  spc : PySem.W.specialIn K (.builtin "object.__class__") "__get__" = some (some (.builtin "getset_descriptor.__get__"))
  tak : PySem.W.takesIn K (.builtin "object.__class__") = some true
  met : ∀ {H : Hp} {a dx : Addr} {fs : List (Str × V)}, H a = some (.ins C dx fs) → TyOf K H (.ref a) (.ref C)
  own : PySem.W.kitOne K (.ref C) (.ref C) = some true
  tup : PySem.W.kitOne K (.type "tuple") (.ref C) = some false
def flds (n : Int) (g : Addr) : List (Str × V) := putF "gates" (.ref g) (putF "leaves" (.int n) [])
theorem kLG : ¬ (("leaves" : Str) = "gates") := by decide +kernel
theorem flds_eq (n : Int) (g : Addr) : flds n g = ([("leaves", V.int n), ("gates", V.ref g)] : List (Str × V)) := by
  show (if ("leaves" : Str) = "gates" then [(("leaves" : Str), V.ref g)] else (("leaves" : Str), V.int n) :: putF "gates" (V.ref g) []) = ([("leaves", V.int n), ("gates", V.ref g)] : List (Str × V))
  rw [if_neg kLG]
  all_goals rfl
theorem flds_L (n : Int) (g : Addr) : (flds n g).lookup ("leaves" : Str) = some (.int n) := by
  unfold flds
  rw [lookup_putF, if_neg kLG, lookup_putF, if_pos rfl]
theorem flds_G (n : Int) (g : Addr) : (flds n g).lookup ("gates" : Str) = some (.ref g) := by
  unfold flds
  rw [lookup_putF, if_pos rfl]
def GraphAt (K : PySem.W.Frag) (C : Addr) (H : Hp) (p : Addr) (n : Int) (gs : List (Int × Int)) : Prop := ∃ dx g, H p = some (.ins C dx (flds n g)) ∧ GT K H g gs
theorem GraphAt.firm {K : PySem.W.Frag} {C p : Addr} {H H' : Hp} {n : Int} {gs : List (Int × Int)} (s : Firm H H') (h : GraphAt K C H p n gs) : GraphAt K C H' p n gs := by
  obtain ⟨dx, g, h1, h2⟩ := h
  exact ⟨dx, g, s _ _ h1 rfl, h2.firm s⟩
def goB : Int → List PyData → Bool
  | _, [] => true
  | m, e :: r => rowB e 2 0 m && goB (m + 2) r
def gatesB (n : Int) (d : PyData) : Bool := isRowD d && goB (2 * n + 1) (rowsD d)
def within (a m : Int) : Bool := decide (0 ≤ a) && decide (a ≤ m)
def okG : Int → List (Int × Int) → Bool
  | _, [] => true
  | m, p :: r => (within p.1 m && within p.2 m) && okG (m + 2) r
theorem pr_dp {K : PySem.W.Frag} {H : Hp} {v : V} {p : Int × Int} (h : Pr K H v p) : ∃ e, Dp K H v e ∧ (rowsD e).length ≤ 1000 ∧ ∀ m, rowB e 2 0 m = (within p.1 m && within p.2 m) := by
  obtain ⟨q, rfl, h | h⟩ := h
  · exact ⟨_, .lst h (.cons (.int _) (.cons (.int _) .nil)), by show 2 ≤ 1000; decide, fun m => by show (true && (decide (((2 : Nat) : Int) = 2) && (within p.1 m && (within p.2 m && true)))) = _; rw [decide_eq_true (by rfl), Bool.and_true]; rfl⟩
  · exact ⟨_, .tup h (.cons (.int _) (.cons (.int _) .nil)), by show 2 ≤ 1000; decide, fun m => by show (true && (decide (((2 : Nat) : Int) = 2) && (within p.1 m && (within p.2 m && true)))) = _; rw [decide_eq_true (by rfl), Bool.and_true]; rfl⟩
theorem prs_dp {K : PySem.W.Frag} {H : Hp} : ∀ {vs : List V} {gs : List (Int × Int)}, All2 (Pr K H) vs gs → ∃ ds, DpAll K H vs ds ∧ ds.length = gs.length ∧ (∀ e ∈ ds, (rowsD e).length ≤ 1000) ∧ ∀ m, goB m ds = okG m gs
  | _, _, .nil => ⟨[], .nil, rfl, (fun e z => absurd z List.not_mem_nil), fun m => rfl⟩
  | _, _, .cons h t => by
    obtain ⟨e, e1, e2, e3⟩ := pr_dp h
    obtain ⟨ds, d1, d2, d3, d4⟩ := prs_dp t
    refine ⟨e :: ds, .cons e1 d1, congrArg Nat.succ d2, fun z hz => ?_, fun m => ?_⟩
    · rcases List.mem_cons.mp hz with rfl | hz
      · exact e2
      · exact d3 z hz
    · show (rowB e 2 0 m && goB (m + 2) ds) = _
      rw [e3, d4]
      rfl
theorem row_dp {K : PySem.W.Frag} {H : Hp} {v : V} {gs : List (Int × Int)} (h : RowG K H v gs) : ∃ d, Dp K H v d ∧ (rowsD d).length = gs.length ∧ (∀ e ∈ rowsD d, (rowsD e).length ≤ 1000) ∧ ∀ n, gatesB n d = okG (2 * n + 1) gs := by
  obtain ⟨r, vs, rfl, h1, h2⟩ := h
  obtain ⟨ds, d1, d2, d3, d4⟩ := prs_dp h2
  rcases h1 with h1 | h1
  · exact ⟨.list ds, .lst h1 d1, d2, d3, fun n => d4 _⟩
  · exact ⟨.tuple ds, .tup h1 d1, d2, d3, fun n => d4 _⟩
def spNeed : Sp := fun vs H Q _ => ∃ n : Int, vs = [.int n] ∧ n ≥ 0 ∧ Q .non H
def spGates (K : PySem.W.Frag) : Sp := fun vs H Q _ => ∃ (n : Int) (v : V) (d : PyData), vs = [.int n, v] ∧ Dp K H v d ∧ (rowsD d).length ≤ 1000 ∧ (∀ e ∈ rowsD d, (rowsD e).length ≤ 1000) ∧ ∀ H', Same H H' → Q (.bl (gatesB n d)) H'
def spInit (K : PySem.W.Frag) (C : Addr) : Sp := fun vs H Q _ => ∃ (p dx : Addr) (n : Int) (v : V) (gs : List (Int × Int)), vs = [.ref p, .int n, v] ∧ H p = some (.ins C dx []) ∧ n ≥ 0 ∧ RowG K H v gs ∧ gs.length ≤ 1000 ∧ okG (2 * n + 1) gs = true ∧
  ∀ H', (∀ b o, H b = some o → b ≠ p → H' b = some o) → GraphAt K C H' p n gs → Q .non H'
def spEqG (K : PySem.W.Frag) (C : Addr) : Sp := fun vs H Q _ => ∃ (p : Addr) (v : V) (n : Int) (gs : List (Int × Int)), vs = [.ref p, v] ∧ GraphAt K C H p n gs ∧
  ((∃ (q : Addr) (n' : Int) (gs' : List (Int × Int)), v = .ref q ∧ GraphAt K C H q n' gs' ∧ Q (.bl (decide (n = n') && PyData.eqv (gD gs) (gD gs'))) H) ∨ ∃ (t : Addr) (xs : List V), v = .ref t ∧ SqT K H t xs ∧ Q (.bl false) H)
theorem can_pD : ∀ gs : List (Int × Int), PyData.canLayAll0 (gs.map pD) = true
  | [] => rfl
  | _ :: r => can_pD r
theorem deep_pD : ∀ gs : List (Int × Int), PyData.depthAll (gs.map pD) ≤ 1
  | [] => Nat.zero_le _
  | p :: r => Nat.max_le.mpr ⟨Nat.le_refl _, deep_pD r⟩
theorem shaped_gD (gs : List (Int × Int)) : SeqAt.shaped (gD gs) = true := by
  have h1 := can_pD gs
  have h2 := deep_pD gs
  unfold SeqAt.shaped
  rw [Bool.and_eq_true]
  exact ⟨h1, decide_eq_true (by show PyData.depthAll (gs.map pD) + 1 ≤ 64; omega)⟩
def rTupOf (K : PySem.W.Frag) : List V → Hp → VK → Prop := fun xs H Q => ∃ p ys, xs = [V.ref p] ∧ ((SqL K H p ys ∧ ∀ l, H l = none → Q (.ref l) (upd H l (.tup ys))) ∨ (SqT K H p ys ∧ Q (.ref p) H))
section
variable {P : Program} {w : World} {K : PySem.W.Frag} {mg : Str → Option Value} {base : Heap} {f C : Addr} {fd : FuncData}
theorem start_int (n : Int) : 2 * n + 1 = 2 * n + 1 + 2 * ((0 : Nat) : Int) := by omega
theorem start_eq (n : Int) (a : Addr) : ([some (.int n), some (.ref a), some (.int (2 * n + 1)), none] : List (Option V)) = [some (.int n), some (.ref a), some (.int (2 * n + 1 + 2 * ((0 : Nat) : Int))), none] := by
  rw [← start_int]
theorem scNeed : FnScope ["leaves"] ["leaves"] (defScope sNeed) := ⟨rfl, rfl, rfl, by decide +kernel, rfl, by decide +kernel, by decide +kernel⟩
theorem scGates : FnScope ["leaves", "value", "most", "pair"] ["leaves", "value"] (defScope sGates) := ⟨rfl, rfl, rfl, by decide +kernel, rfl, by decide +kernel, by decide +kernel⟩
abbrev sInit : Stmt := inClass cGraph 0
abbrev sEq : Stmt := inClass cGraph 1
abbrev inN : List Str := ["self", "leaves", "gates", "pair"]
theorem scInit : FnScope inN ["self", "leaves", "gates"] (defScope sInit) := ⟨rfl, rfl, rfl, by decide +kernel, rfl, by decide +kernel, by decide +kernel⟩
theorem scEq : FnScope ["self", "other"] ["self", "other"] (defScope sEq) := ⟨rfl, rfl, rfl, by decide +kernel, rfl, by decide +kernel, by decide +kernel⟩
abbrev FnI (K : PySem.W.Frag) (f : Addr) (fd : FuncData) : Prop := FunD K "__init__" "Graph.__init__" (defArgs sInit) (defBody sInit) (defScope sInit) [] [] f fd
abbrev FnE (K : PySem.W.Frag) (f : Addr) (fd : FuncData) : Prop := FunD K "__eq__" "Graph.__eq__" (defArgs sEq) (defBody sEq) (defScope sEq) [] [] f fd
theorem ok_need {fF : Addr} {fdF : FuncData} (F : FnP K "need_leaves" sNeed f fd) (T : Ki.Tx mg) (FF : FnP K "is_from" sFrom fF fdF) (gF : mg "is_from" = some (.ref fF)) : FnOk P w K mg base CX0 2 f fd ["leaves"] spNeed := by
  have GF : FnOk P w K mg base CX0 1 fF fdF ["value", "least"] (spFrom K) := ok_from FF T
  have bF : Binds K fdF ["value", "least"] [] := FF.bindsN fun _ _ _ _ _ _ us hl => match us, hl with | [_, _], _ => rfl
  refine F.ok scNeed (fun vs H Q E h => ?_) (fun cdv A outer s H vs Q E hr h => ?_)
  · obtain ⟨n, rfl, _⟩ := h
    rfl
  · obtain ⟨n, rfl, hn, q⟩ := h
    refine ⟨_, PSs.nox (pss_one (ps_if (pt_not (pt_val (pe_call GF hr (by rfl) gF FF.kp bF .nil pass0 (pa_cons (pv 0) (pa_cons pe_int pa_nil))))) (pss_one ps_never) pss_nil)), ?_⟩
    refine ⟨_, rfl, _, _, .int n, rfl, .int n, _, rfl, ?_⟩
    exact iteNS hn q
theorem ok_gates {fR fB : Addr} {fdR fdB : FuncData} (F : FnP K "are_gates" sGates f fd) (T : Ki.Tx mg) (FR : FnP K "is_row" sRow fR fdR) (gR : mg "is_row" = some (.ref fR)) (FB : FnP K "is_row_between" sRowB fB fdB) (gB : mg "is_row_between" = some (.ref fB))
    {fW : Addr} {fdW : FuncData} (FW : FnP K "is_between" sBetween fW fdW) (gW : mg "is_between" = some (.ref fW)) : FnOk P w K mg base CX0 3 f fd ["leaves", "value"] (spGates K) := by
  have GR : FnOk P w K mg base CX0 1 fR fdR ["value"] (spRow K) := ok_row FR T
  have GB : FnOk P w K mg base CX0 2 fB fdB ["value", "many", "least", "most"] (spRowB K) := ok_rowB FB T FW gW FR gR
  have bR : Binds K fdR ["value"] [] := FR.bindsN fun _ _ _ _ _ _ us hl => match us, hl with | [_], _ => rfl
  have bB : Binds K fdB ["value", "many", "least", "most"] [] := FB.bindsN fun _ _ _ _ _ _ us hl => match us, hl with | [_, _, _, _], _ => rfl
  refine F.ok scGates (fun vs H Q E h => ?_) (fun cdv A outer s H vs Q E hr h => ?_)
  · obtain ⟨n, v, d, rfl, _⟩ := h
    rfl
  · obtain ⟨n, v, d, rfl, hd, hz, hzz, q⟩ := h
    have hr1 := hr.mono (j := 1) (by decide)
    cases hd with
    | lst hs ha =>
      rename_i a vs ds
      have hlen := dps_len ha
      refine ⟨_, PSs.nox (pss_cons (ps_if (pt_not (pt_val (pe_call GR hr1 (by rfl) gR FR.kp bR .nil pass0 (pa_cons (pv 1) pa_nil)))) (pss_one (ps_ret pe_bl)) pss_nil)
        (pss_cons (ps_set (i := 2) scGates.nd rfl (Or.inl rfl) (pe_op op_add (pe_op op_mul pe_int (pv 0)) pe_int))
        (pss_cons (ps_for PassesOwn.never rfl (pi_list (pv 1)) (pg_name (i := 3) scGates.nd rfl (Or.inl rfl))
          (pss_cons (ps_if (pt_not (pt_val (pe_call GB hr (by rfl) gB FB.kp bB .nil pass0 (pa_cons (pv 3) (pa_cons pe_int (pa_cons pe_int (pa_cons (pv 2) pa_nil))))))) (pss_one (ps_ret pe_bl)) pss_nil)
          (pss_one (ps_aug (i := 2) scGates.nd rfl (Or.inl rfl) pe_int ip_add))))
        (pss_one (ps_ret pe_bl))))), ?_⟩
      refine ⟨_, rfl, _, _, rfl, .lst hs ha, fun H1 s1 => ⟨_, rfl, iteF ?_⟩⟩
      refine ⟨_, rfl, _, _, rfl, rfl, .inl ⟨by decide, by decide⟩, _, _, rfl, rfl, ?_⟩
      refine ⟨_, rfl, a, rfl, ⟨_, s1.seq hs⟩, for_list (K := K) (a := a) (xs := vs) (fun i σ H2 => ∃ v : Option V, σ = [some (.int n), some (.ref a), some (.int (2 * n + 1 + 2 * i)), v] ∧ Same H1 H2 ∧ goB (2 * n + 1) ds = goB (2 * n + 1 + 2 * i) (ds.drop i))
        ⟨none, start_eq n a, Same.refl _, by rw [List.drop_zero]; exact congrArg (fun z => goB z ds) (start_int n)⟩ (fun i σ H2 _ ⟨_, _, s2, _⟩ => s2.seq (s1.seq hs)) ?_ ?_⟩
      · rintro i v σ H2 hi ⟨w0, rfl, s2, e2⟩
        obtain ⟨e, he, hv⟩ := dps_get ha hi
        have hm : e ∈ ds := List.mem_of_getElem? he
        have hdrop : ds.drop i = e :: ds.drop (i + 1) := by
          obtain ⟨hlt, e5⟩ := List.getElem?_eq_some_iff.mp he
          rw [← e5]
          exact List.drop_eq_getElem_cons hlt
        rw [hdrop] at e2
        refine ⟨_, rfl, _, rfl, _, _, _, _, e, rfl, dp_same (s1.trans s2) hv, hzz e hm, fun H3 s3 => ⟨_, rfl, ?_⟩⟩
        cases er : rowB e 2 0 (2 * n + 1 + 2 * i) with
        | false =>
          refine iteT ?_
          have e4 : gatesB n (.list ds) = false := by
            show (true && goB (2 * n + 1) ds) = false
            rw [e2]
            show (rowB e 2 0 (2 * n + 1 + 2 * i) && goB _ _) = false
            rw [er]
            rfl
          show Q (V.bl false) H3
          rw [← e4]
          exact q _ ((s1.trans s2).trans s3)
        | true =>
          refine iteF ?_
          refine ⟨_, rfl, _, _, rfl, rfl, some v, ?_, s2.trans s3, ?_⟩
          · show _ = _
            have e5 : 2 * n + 1 + 2 * (i : Int) + 2 = 2 * n + 1 + 2 * ((i + 1 : Nat) : Int) := by omega
            rw [← e5]
            rfl
          · rw [e2]
            show (rowB e 2 0 (2 * n + 1 + 2 * i) && goB _ _) = _
            rw [er]
            have e5 : 2 * n + 1 + 2 * (i : Int) + 2 = 2 * n + 1 + 2 * ((i + 1 : Nat) : Int) := by omega
            rw [← e5]
            rfl
      · rintro σ H2 ⟨w0, rfl, s2, e2⟩
        rw [hlen, List.drop_length] at e2
        have e4 : gatesB n (.list ds) = true := by
          show (true && goB (2 * n + 1) ds) = true
          rw [e2]
          rfl
        show Q (V.bl true) H2
        rw [← e4]
        exact q _ (s1.trans s2)
    | tup hs ha =>
      rename_i a vs ds
      have hlen := dps_len ha
      refine ⟨_, PSs.nox (pss_cons (ps_if (pt_not (pt_val (pe_call GR hr1 (by rfl) gR FR.kp bR .nil pass0 (pa_cons (pv 1) pa_nil)))) (pss_one (ps_ret pe_bl)) pss_nil)
        (pss_cons (ps_set (i := 2) scGates.nd rfl (Or.inl rfl) (pe_op op_add (pe_op op_mul pe_int (pv 0)) pe_int))
        (pss_cons (ps_for PassesOwn.never rfl (pi_tup (pv 1)) (pg_name (i := 3) scGates.nd rfl (Or.inl rfl))
          (pss_cons (ps_if (pt_not (pt_val (pe_call GB hr (by rfl) gB FB.kp bB .nil pass0 (pa_cons (pv 3) (pa_cons pe_int (pa_cons pe_int (pa_cons (pv 2) pa_nil))))))) (pss_one (ps_ret pe_bl)) pss_nil)
          (pss_one (ps_aug (i := 2) scGates.nd rfl (Or.inl rfl) pe_int ip_add))))
        (pss_one (ps_ret pe_bl))))), ?_⟩
      refine ⟨_, rfl, _, _, rfl, .tup hs ha, fun H1 s1 => ⟨_, rfl, iteF ?_⟩⟩
      refine ⟨_, rfl, _, _, rfl, rfl, .inl ⟨by decide, by decide⟩, _, _, rfl, rfl, ?_⟩
      refine ⟨_, rfl, a, rfl, ⟨_, seqT_same s1 hs⟩, for_tup (K := K) (a := a) (xs := vs) (fun i σ H2 => ∃ v : Option V, σ = [some (.int n), some (.ref a), some (.int (2 * n + 1 + 2 * i)), v] ∧ Same H1 H2 ∧ goB (2 * n + 1) ds = goB (2 * n + 1 + 2 * i) (ds.drop i))
        ⟨none, start_eq n a, Same.refl _, by rw [List.drop_zero]; exact congrArg (fun z => goB z ds) (start_int n)⟩ (fun i σ H2 _ ⟨_, _, s2, _⟩ => seqT_same s2 (seqT_same s1 hs)) ?_ ?_⟩
      · rintro i v σ H2 hi ⟨w0, rfl, s2, e2⟩
        obtain ⟨e, he, hv⟩ := dps_get ha hi
        have hm : e ∈ ds := List.mem_of_getElem? he
        have hdrop : ds.drop i = e :: ds.drop (i + 1) := by
          obtain ⟨hlt, e5⟩ := List.getElem?_eq_some_iff.mp he
          rw [← e5]
          exact List.drop_eq_getElem_cons hlt
        rw [hdrop] at e2
        refine ⟨_, rfl, _, rfl, _, _, _, _, e, rfl, dp_same (s1.trans s2) hv, hzz e hm, fun H3 s3 => ⟨_, rfl, ?_⟩⟩
        cases er : rowB e 2 0 (2 * n + 1 + 2 * i) with
        | false =>
          refine iteT ?_
          have e4 : gatesB n (.tuple ds) = false := by
            show (true && goB (2 * n + 1) ds) = false
            rw [e2]
            show (rowB e 2 0 (2 * n + 1 + 2 * i) && goB _ _) = false
            rw [er]
            rfl
          show Q (V.bl false) H3
          rw [← e4]
          exact q _ ((s1.trans s2).trans s3)
        | true =>
          refine iteF ?_
          refine ⟨_, rfl, _, _, rfl, rfl, some v, ?_, s2.trans s3, ?_⟩
          · show _ = _
            have e5 : 2 * n + 1 + 2 * (i : Int) + 2 = 2 * n + 1 + 2 * ((i + 1 : Nat) : Int) := by omega
            rw [← e5]
            rfl
          · rw [e2]
            show (rowB e 2 0 (2 * n + 1 + 2 * i) && goB _ _) = _
            rw [er]
            have e5 : 2 * n + 1 + 2 * (i : Int) + 2 = 2 * n + 1 + 2 * ((i + 1 : Nat) : Int) := by omega
            rw [← e5]
            rfl
      · rintro σ H2 ⟨w0, rfl, s2, e2⟩
        rw [hlen, List.drop_length] at e2
        have e4 : gatesB n (.tuple ds) = true := by
          show (true && goB (2 * n + 1) ds) = true
          rw [e2]
          rfl
        show Q (V.bl true) H2
        rw [← e4]
        exact q _ (s1.trans s2)
    | non =>
      refine ⟨_, PSs.nox (pss_cons (ps_if (pt_not (pt_val (pe_call GR hr1 (by rfl) gR FR.kp bR .nil pass0 (pa_cons (pv 1) pa_nil)))) (pss_one (ps_ret pe_bl)) pss_nil)
        (pss_cons (ps_set (i := 2) scGates.nd rfl (Or.inl rfl) (pe_op op_add (pe_op op_mul pe_int (pv 0)) pe_int))
        (pss_cons (ps_for PassesOwn.never rfl (pi_list (pv 1)) (pg_name (i := 3) scGates.nd rfl (Or.inl rfl))
          (pss_cons (ps_if (pt_not (pt_val (pe_call GB hr (by rfl) gB FB.kp bB .nil pass0 (pa_cons (pv 3) (pa_cons pe_int (pa_cons pe_int (pa_cons (pv 2) pa_nil))))))) (pss_one (ps_ret pe_bl)) pss_nil)
          (pss_one (ps_aug (i := 2) scGates.nd rfl (Or.inl rfl) pe_int ip_add))))
        (pss_one (ps_ret pe_bl))))), ?_⟩
      exact ⟨_, rfl, _, _, rfl, .non, fun H1 s1 => ⟨_, rfl, iteT (q _ s1)⟩⟩
    | bl b =>
      refine ⟨_, PSs.nox (pss_cons (ps_if (pt_not (pt_val (pe_call GR hr1 (by rfl) gR FR.kp bR .nil pass0 (pa_cons (pv 1) pa_nil)))) (pss_one (ps_ret pe_bl)) pss_nil)
        (pss_cons (ps_set (i := 2) scGates.nd rfl (Or.inl rfl) (pe_op op_add (pe_op op_mul pe_int (pv 0)) pe_int))
        (pss_cons (ps_for PassesOwn.never rfl (pi_list (pv 1)) (pg_name (i := 3) scGates.nd rfl (Or.inl rfl))
          (pss_cons (ps_if (pt_not (pt_val (pe_call GB hr (by rfl) gB FB.kp bB .nil pass0 (pa_cons (pv 3) (pa_cons pe_int (pa_cons pe_int (pa_cons (pv 2) pa_nil))))))) (pss_one (ps_ret pe_bl)) pss_nil)
          (pss_one (ps_aug (i := 2) scGates.nd rfl (Or.inl rfl) pe_int ip_add))))
        (pss_one (ps_ret pe_bl))))), ?_⟩
      exact ⟨_, rfl, _, _, rfl, .bl b, fun H1 s1 => ⟨_, rfl, iteT (q _ s1)⟩⟩
    | int i =>
      refine ⟨_, PSs.nox (pss_cons (ps_if (pt_not (pt_val (pe_call GR hr1 (by rfl) gR FR.kp bR .nil pass0 (pa_cons (pv 1) pa_nil)))) (pss_one (ps_ret pe_bl)) pss_nil)
        (pss_cons (ps_set (i := 2) scGates.nd rfl (Or.inl rfl) (pe_op op_add (pe_op op_mul pe_int (pv 0)) pe_int))
        (pss_cons (ps_for PassesOwn.never rfl (pi_list (pv 1)) (pg_name (i := 3) scGates.nd rfl (Or.inl rfl))
          (pss_cons (ps_if (pt_not (pt_val (pe_call GB hr (by rfl) gB FB.kp bB .nil pass0 (pa_cons (pv 3) (pa_cons pe_int (pa_cons pe_int (pa_cons (pv 2) pa_nil))))))) (pss_one (ps_ret pe_bl)) pss_nil)
          (pss_one (ps_aug (i := 2) scGates.nd rfl (Or.inl rfl) pe_int ip_add))))
        (pss_one (ps_ret pe_bl))))), ?_⟩
      exact ⟨_, rfl, _, _, rfl, .int i, fun H1 s1 => ⟨_, rfl, iteT (q _ s1)⟩⟩
    | str x =>
      refine ⟨_, PSs.nox (pss_cons (ps_if (pt_not (pt_val (pe_call GR hr1 (by rfl) gR FR.kp bR .nil pass0 (pa_cons (pv 1) pa_nil)))) (pss_one (ps_ret pe_bl)) pss_nil)
        (pss_cons (ps_set (i := 2) scGates.nd rfl (Or.inl rfl) (pe_op op_add (pe_op op_mul pe_int (pv 0)) pe_int))
        (pss_cons (ps_for PassesOwn.never rfl (pi_list (pv 1)) (pg_name (i := 3) scGates.nd rfl (Or.inl rfl))
          (pss_cons (ps_if (pt_not (pt_val (pe_call GB hr (by rfl) gB FB.kp bB .nil pass0 (pa_cons (pv 3) (pa_cons pe_int (pa_cons pe_int (pa_cons (pv 2) pa_nil))))))) (pss_one (ps_ret pe_bl)) pss_nil)
          (pss_one (ps_aug (i := 2) scGates.nd rfl (Or.inl rfl) pe_int ip_add))))
        (pss_one (ps_ret pe_bl))))), ?_⟩
      exact ⟨_, rfl, _, _, rfl, .str x, fun H1 s1 => ⟨_, rfl, iteT (q _ s1)⟩⟩
theorem ok_init {fN fA : Addr} {fdN fdA : FuncData} (F : FnI K f fd) (T : Tx K mg C) (GN : FnOk P w K mg base CX0 2 fN fdN ["leaves"] spNeed) (gN : mg "need_leaves" = some (.ref fN)) (kN : PySem.W.keepIn K (.ref fN) = true) (bN : Binds K fdN ["leaves"] [])
    (GA : FnOk P w K mg base CX0 3 fA fdA ["leaves", "value"] (spGates K)) (gA : mg "are_gates" = some (.ref fA)) (kA : PySem.W.keepIn K (.ref fA) = true) (bA : Binds K fdA ["leaves", "value"] []) : FnOk P w K mg base CX0 4 f fd ["self", "leaves", "gates"] (spInit K C) := by
  refine F.ok scInit (fun vs H Q E h => ?_) (fun cdv A outer s H vs Q E hr h => ?_)
  · obtain ⟨p, dx, n, v, gs, rfl, _⟩ := h
    rfl
  · obtain ⟨p, dx, n, v, gs, rfl, hp, hn, hv, hz, hok, q⟩ := h
    have hr2 := hr.mono (j := 2) (by decide)
    obtain ⟨d, d1, d2, d3, d4⟩ := row_dp hv
    obtain ⟨r, vs, rfl, hs, ha⟩ := id hv
    rcases hs with hs | hs
    · refine ⟨_, PSs.nox (pss_cons (ps_expr (pe_call GN hr2 (by rfl) gN kN bN .nil pass0 (pa_cons (pv 1) pa_nil)))
        (pss_cons (ps_if (pt_not (pt_val (pe_call GA hr (by rfl) gA kA bA .nil pass0 (pa_cons (pv 1) (pa_cons (pv 2) pa_nil))))) (pss_one ps_never) pss_nil)
        (pss_cons (ps_fld (pv 0) (pv 1) rfl)
        (pss_one (ps_fld (pv 0) (pe_callTy call_tuple_of (by rfl) T.ki.tuple (by decide +kernel) (pa_cons
          (pe_lc (own := [("pair", 3)]) (g := gName 3) (tt := tYes) rfl scInit.nd (pi_list (pv 2)) (blkOk_by (N := inN) (sc := defScope sInit) (by decide +kernel)) (fun _ _ _ _ _ => pg_name (i := 3) scInit.nd rfl (Or.inl rfl)) (fun _ _ _ _ _ => pts_nil)
            (fun _ _ _ _ _ => pe_callTy (T := "tuple") (r := rTupOf K) (by exact call_tuple_of) (by rfl) T.ki.tuple (by decide +kernel) (pa_cons (pv 3) pa_nil))) pa_nil)) rfl))))), ?_⟩
      refine ⟨_, rfl, n, rfl, hn, ?_⟩
      refine ⟨_, rfl, _, rfl, n, _, d, rfl, d1, by omega, d3, fun H1 s1 => ⟨_, rfl, ?_⟩⟩
      rw [d4, hok]
      refine iteF ?_
      have hp1 := s1 _ _ hp
      refine ⟨_, rfl, _, rfl, p, C, dx, _, rfl, hp1, T.cl, T.nL, (by show 0 < 1000; decide), ?_⟩
      have hrp : ∀ {b : Addr} {u : HO}, H b = some u → (∀ C dx fs, u ≠ .ins C dx fs) → (upd H1 p (.ins C dx (putF "leaves" (.int n) []))) b = some u := fun {b u} e ne => by
        rw [upd_ne (fun z => by rw [z, hp] at e; cases e; exact ne _ _ _ rfl)]
        exact s1 _ _ e
      have hs3 : SqL K (upd H1 p (.ins C dx (putF "leaves" (.int n) []))) r vs := by
        rcases hs with (h | ⟨o, h⟩) | h
        · exact .inl (.inl (hrp h (by intro C dx fs z; cases z)))
        · exact .inl (.inr ⟨o, hrp h (by intro C dx fs z; cases z)⟩)
        · exact .inr h
      have pr3 : ∀ {v : V} {z : Int × Int}, Pr K H v z → Pr K (upd H1 p (.ins C dx (putF "leaves" (.int n) []))) v z := by
        rintro v z ⟨q, e, h⟩
        refine ⟨q, e, ?_⟩
        rcases h with ((h | ⟨o, h⟩) | h) | ((h | ⟨o, h⟩) | h)
        · exact .inl (.inl (.inl (hrp h (by intro C dx fs z; cases z))))
        · exact .inl (.inl (.inr ⟨o, hrp h (by intro C dx fs z; cases z)⟩))
        · exact .inl (.inr h)
        · exact .inr (.inl (.inl (hrp h (by intro C dx fs z; cases z))))
        · exact .inr (.inl (.inr ⟨o, hrp h (by intro C dx fs z; cases z)⟩))
        · exact .inr (.inr h)
      have hp3 : (upd H1 p (.ins C dx (putF "leaves" (.int n) []))) p = some (.ins C dx (putF "leaves" (.int n) [])) := upd_same
      have out3 : ∀ b o, H b = some o → b ≠ p → (upd H1 p (.ins C dx (putF "leaves" (.int n) []))) b = some o := fun b o e ne => by
        rw [upd_ne ne]
        exact s1 _ _ e
      generalize (upd H1 p (.ins C dx (putF "leaves" (.int n) []))) = H3 at hs3 pr3 hp3 out3 ⊢
      refine ⟨_, rfl, r, rfl, ⟨_, hs3⟩, fun D nD => ?_⟩
      refine lc_list (K := K) (a := r) (xs := vs) (fun i H4 => Same H3 H4 ∧ ∃ ys, H4 D = some (.lst ys) ∧ All2 (Pt K H4) ys (gs.take i)) ⟨same_new nD, [], upd_same, .nil⟩ (fun i H4 _ ⟨s4, _⟩ => s4.seq hs3) ?_ ?_
      · rintro i v H4 hi ⟨s4, ys, h4, a4⟩
        obtain ⟨z, hz1, hz2⟩ := ha.get hi
        obtain ⟨q0, rfl, hq⟩ := (pr3 hz2).same s4
        have lys : ys.length < sizeLine := by
          rw [a4.len, List.length_take]
          exact Nat.lt_of_le_of_lt (Nat.min_le_right _ _) (Nat.lt_of_le_of_lt hz (by decide))
        have keep : ∀ {H5 : Hp} {zs : List V}, Same H4 H5 → Same H3 (upd H5 D (.lst zs)) := fun {H5 zs} s5 b o e => by
          rw [upd_ne (ne_of_none e nD)]
          exact s5 _ _ (s4 _ _ e)
        refine ⟨rfl, yes_of ?_⟩
        rcases hq with hq | hq
        · refine ⟨_, rfl, q0, _, rfl, .inl ⟨hq, fun l nl => ?_⟩⟩
          have s5 : Same H4 (upd H4 l (.tup [.int z.1, .int z.2])) := same_new nl
          refine ⟨_, s5 _ _ h4, lys, keep s5, _, upd_same, ?_⟩
          rw [take_more hz1]
          have fi : Firm (upd H4 l (.tup [.int z.1, .int z.2])) (upd (upd H4 l (.tup [.int z.1, .int z.2])) D (.lst (ys ++ [.ref l]))) := Firm.upd (s5 _ _ h4) rfl
          exact (a4.imp fun _ _ h => (h.firm (Firm.of s5)).firm fi).snoc ⟨l, rfl, firm_seq fi (SqT.of upd_same)⟩
        · refine ⟨_, rfl, q0, _, rfl, .inr ⟨hq, ?_⟩⟩
          refine ⟨_, h4, lys, keep (Same.refl _), _, upd_same, ?_⟩
          rw [take_more hz1]
          have fi : Firm H4 (upd H4 D (.lst (ys ++ [.ref q0]))) := Firm.upd h4 rfl
          exact (a4.imp fun _ _ h => h.firm fi).snoc ⟨q0, rfl, firm_seq fi hq⟩
      · rintro H4 ⟨s4, ys, h4, a4⟩
        rw [ha.len, List.take_length] at a4
        refine ⟨D, ys, rfl, .inl ⟨SqL.of h4, fun g ng => ?_⟩⟩
        have hp4 := s4 _ _ hp3
        have s5 : Same H4 (upd H4 g (.tup ys)) := same_new ng
        refine ⟨_, rfl, p, C, dx, _, rfl, s5 _ _ hp4, T.cl, T.nG, (by show 1 < 1000; decide), ?_⟩
        refine q _ (fun b o e ne => ?_) ⟨dx, g, upd_same, ys, ?_, ?_⟩
        · rw [upd_ne ne]
          exact s5 _ _ (s4 _ _ (out3 b o e ne))
        · have ngp : g ≠ p := fun e => by
            rw [e, hp4] at ng
            cases ng
          exact SqT.of (by rw [upd_ne ngp, upd_same])
        · refine a4.imp fun _ _ h => ?_
          obtain ⟨q1, e1, h1⟩ := h.firm (Firm.of s5)
          refine ⟨q1, e1, ?_⟩
          rcases h1 with (h | ⟨o, h⟩) | h
          · exact .inl (.inl (by rw [upd_ne (fun e => by rw [e, s5 _ _ hp4] at h; cases h)]; exact h))
          · exact .inl (.inr ⟨o, by rw [upd_ne (fun e => by rw [e, s5 _ _ hp4] at h; cases h)]; exact h⟩)
          · exact .inr h
    · refine ⟨_, PSs.nox (pss_cons (ps_expr (pe_call GN hr2 (by rfl) gN kN bN .nil pass0 (pa_cons (pv 1) pa_nil)))
        (pss_cons (ps_if (pt_not (pt_val (pe_call GA hr (by rfl) gA kA bA .nil pass0 (pa_cons (pv 1) (pa_cons (pv 2) pa_nil))))) (pss_one ps_never) pss_nil)
        (pss_cons (ps_fld (pv 0) (pv 1) rfl)
        (pss_one (ps_fld (pv 0) (pe_callTy call_tuple_of (by rfl) T.ki.tuple (by decide +kernel) (pa_cons
          (pe_lc (own := [("pair", 3)]) (g := gName 3) (tt := tYes) rfl scInit.nd (pi_tup (pv 2)) (blkOk_by (N := inN) (sc := defScope sInit) (by decide +kernel)) (fun _ _ _ _ _ => pg_name (i := 3) scInit.nd rfl (Or.inl rfl)) (fun _ _ _ _ _ => pts_nil)
            (fun _ _ _ _ _ => pe_callTy (T := "tuple") (r := rTupOf K) (by exact call_tuple_of) (by rfl) T.ki.tuple (by decide +kernel) (pa_cons (pv 3) pa_nil))) pa_nil)) rfl))))), ?_⟩
      refine ⟨_, rfl, n, rfl, hn, ?_⟩
      refine ⟨_, rfl, _, rfl, n, _, d, rfl, d1, by omega, d3, fun H1 s1 => ⟨_, rfl, ?_⟩⟩
      rw [d4, hok]
      refine iteF ?_
      have hp1 := s1 _ _ hp
      refine ⟨_, rfl, _, rfl, p, C, dx, _, rfl, hp1, T.cl, T.nL, (by show 0 < 1000; decide), ?_⟩
      have hrp : ∀ {b : Addr} {u : HO}, H b = some u → (∀ C dx fs, u ≠ .ins C dx fs) → (upd H1 p (.ins C dx (putF "leaves" (.int n) []))) b = some u := fun {b u} e ne => by
        rw [upd_ne (fun z => by rw [z, hp] at e; cases e; exact ne _ _ _ rfl)]
        exact s1 _ _ e
      have hs3 : SqT K (upd H1 p (.ins C dx (putF "leaves" (.int n) []))) r vs := by
        rcases hs with (h | ⟨o, h⟩) | h
        · exact .inl (.inl (hrp h (by intro C dx fs z; cases z)))
        · exact .inl (.inr ⟨o, hrp h (by intro C dx fs z; cases z)⟩)
        · exact .inr h
      have pr3 : ∀ {v : V} {z : Int × Int}, Pr K H v z → Pr K (upd H1 p (.ins C dx (putF "leaves" (.int n) []))) v z := by
        rintro v z ⟨q, e, h⟩
        refine ⟨q, e, ?_⟩
        rcases h with ((h | ⟨o, h⟩) | h) | ((h | ⟨o, h⟩) | h)
        · exact .inl (.inl (.inl (hrp h (by intro C dx fs z; cases z))))
        · exact .inl (.inl (.inr ⟨o, hrp h (by intro C dx fs z; cases z)⟩))
        · exact .inl (.inr h)
        · exact .inr (.inl (.inl (hrp h (by intro C dx fs z; cases z))))
        · exact .inr (.inl (.inr ⟨o, hrp h (by intro C dx fs z; cases z)⟩))
        · exact .inr (.inr h)
      have hp3 : (upd H1 p (.ins C dx (putF "leaves" (.int n) []))) p = some (.ins C dx (putF "leaves" (.int n) [])) := upd_same
      have out3 : ∀ b o, H b = some o → b ≠ p → (upd H1 p (.ins C dx (putF "leaves" (.int n) []))) b = some o := fun b o e ne => by
        rw [upd_ne ne]
        exact s1 _ _ e
      generalize (upd H1 p (.ins C dx (putF "leaves" (.int n) []))) = H3 at hs3 pr3 hp3 out3 ⊢
      refine ⟨_, rfl, r, rfl, ⟨_, hs3⟩, fun D nD => ?_⟩
      refine lc_tup (K := K) (a := r) (xs := vs) (fun i H4 => Same H3 H4 ∧ ∃ ys, H4 D = some (.lst ys) ∧ All2 (Pt K H4) ys (gs.take i)) ⟨same_new nD, [], upd_same, .nil⟩ (fun i H4 _ ⟨s4, _⟩ => seqT_same s4 hs3) ?_ ?_
      · rintro i v H4 hi ⟨s4, ys, h4, a4⟩
        obtain ⟨z, hz1, hz2⟩ := ha.get hi
        obtain ⟨q0, rfl, hq⟩ := (pr3 hz2).same s4
        have lys : ys.length < sizeLine := by
          rw [a4.len, List.length_take]
          exact Nat.lt_of_le_of_lt (Nat.min_le_right _ _) (Nat.lt_of_le_of_lt hz (by decide))
        have keep : ∀ {H5 : Hp} {zs : List V}, Same H4 H5 → Same H3 (upd H5 D (.lst zs)) := fun {H5 zs} s5 b o e => by
          rw [upd_ne (ne_of_none e nD)]
          exact s5 _ _ (s4 _ _ e)
        refine ⟨rfl, yes_of ?_⟩
        rcases hq with hq | hq
        · refine ⟨_, rfl, q0, _, rfl, .inl ⟨hq, fun l nl => ?_⟩⟩
          have s5 : Same H4 (upd H4 l (.tup [.int z.1, .int z.2])) := same_new nl
          refine ⟨_, s5 _ _ h4, lys, keep s5, _, upd_same, ?_⟩
          rw [take_more hz1]
          have fi : Firm (upd H4 l (.tup [.int z.1, .int z.2])) (upd (upd H4 l (.tup [.int z.1, .int z.2])) D (.lst (ys ++ [.ref l]))) := Firm.upd (s5 _ _ h4) rfl
          exact (a4.imp fun _ _ h => (h.firm (Firm.of s5)).firm fi).snoc ⟨l, rfl, firm_seq fi (SqT.of upd_same)⟩
        · refine ⟨_, rfl, q0, _, rfl, .inr ⟨hq, ?_⟩⟩
          refine ⟨_, h4, lys, keep (Same.refl _), _, upd_same, ?_⟩
          rw [take_more hz1]
          have fi : Firm H4 (upd H4 D (.lst (ys ++ [.ref q0]))) := Firm.upd h4 rfl
          exact (a4.imp fun _ _ h => h.firm fi).snoc ⟨q0, rfl, firm_seq fi hq⟩
      · rintro H4 ⟨s4, ys, h4, a4⟩
        rw [ha.len, List.take_length] at a4
        refine ⟨D, ys, rfl, .inl ⟨SqL.of h4, fun g ng => ?_⟩⟩
        have hp4 := s4 _ _ hp3
        have s5 : Same H4 (upd H4 g (.tup ys)) := same_new ng
        refine ⟨_, rfl, p, C, dx, _, rfl, s5 _ _ hp4, T.cl, T.nG, (by show 1 < 1000; decide), ?_⟩
        refine q _ (fun b o e ne => ?_) ⟨dx, g, upd_same, ys, ?_, ?_⟩
        · rw [upd_ne ne]
          exact s5 _ _ (s4 _ _ (out3 b o e ne))
        · have ngp : g ≠ p := fun e => by
            rw [e, hp4] at ng
            cases ng
          exact SqT.of (by rw [upd_ne ngp, upd_same])
        · refine a4.imp fun _ _ h => ?_
          obtain ⟨q1, e1, h1⟩ := h.firm (Firm.of s5)
          refine ⟨q1, e1, ?_⟩
          rcases h1 with (h | ⟨o, h⟩) | h
          · exact .inl (.inl (by rw [upd_ne (fun e => by rw [e, s5 _ _ hp4] at h; cases h)]; exact h))
          · exact .inl (.inr ⟨o, by rw [upd_ne (fun e => by rw [e, s5 _ _ hp4] at h; cases h)]; exact h⟩)
          · exact .inr h
theorem ok_eq (F : FnE K f fd) (T : Tx K mg C) : FnOk P w K mg base CX0 1 f fd ["self", "other"] (spEqG K C) := by
  refine F.ok scEq (fun vs H Q E h => ?_) (fun cdv A outer s H vs Q E hr h => ?_)
  · obtain ⟨p, v, n, gs, rfl, _⟩ := h
    rfl
  · obtain ⟨p, v, n, gs, rfl, hp, q⟩ := h
    obtain ⟨dx, g, h1, h2⟩ := hp
    refine ⟨_, PSs.nox (pss_one (ps_ret (pe_and (pe_callB call_isi (by rfl) T.ki.isi (by decide +kernel) (pa_cons (pv 1) (pa_cons (pe_glob (v := V.ref C) (by rfl) T.mgC rfl) pa_nil)))
      (pe_and (pe_cmpR op_eq (pe_fld (pv 0) rfl) (pe_fld (pv 1) rfl) (nomark _)) (pe_one (pe_cmpR (op_eqD hr.units) (pe_fld (pv 0) rfl) (pe_fld (pv 1) rfl) (nomark _))))))), ?_⟩
    rcases q with ⟨q, n', gs', rfl, hq, k⟩ | ⟨t, xs, rfl, ht, k⟩
    · obtain ⟨dy, g', e1, e2⟩ := hq
      refine ⟨_, rfl, _, _, _, _, _, rfl, .own _, .base (T.met e1), T.own, _, rfl, iteT ?_⟩
      refine ⟨_, rfl, p, C, dx, _, _, rfl, h1, T.cl, T.nL, flds_L _ _, _, rfl, q, C, dy, _, _, rfl, e1, T.cl, T.nL, flds_L _ _, rfl, _, rfl, ite2 (fun c => ?_) (fun c => ?_)⟩
      · refine ⟨_, rfl, p, C, dx, _, _, rfl, h1, T.cl, T.nG, flds_G _ _, _, rfl, q, C, dy, _, _, rfl, e1, T.cl, T.nG, flds_G _ _, _, _, h2.dp, e2.dp, ?_, ?_, ?_⟩
        · exact shaped_gD gs
        · exact shaped_gD gs'
        · have e : n = n' := V.int.inj (of_decide_eq_true c)
          rw [decide_eq_true e] at k
          exact k
      · have e : ¬ n = n' := fun z => c (decide_eq_true (congrArg V.int z))
        rw [decide_eq_false e] at k
        exact k
    · exact ⟨_, rfl, _, _, _, _, _, rfl, .own _, ty_tup ht, T.tup, _, rfl, iteF k⟩
end
end Gr
namespace No
open PySem PySem.Spec PyProof.Rows L2 Pen Dat Ki Fi Gr
/-! ## Values of nodes and literals -/
/-- abs, as its rule tells it -/
def ab (z : Int) : Int := if z < 0 then -z else z
def lit (f : List Int) (a : Int) : Int := ab (f.getD (a / 2).toNat 0 - a % 2)
def step (f : List Int) (p : Int × Int) : List Int := f ++ [lit f p.1 * lit f p.2]
def vals (bs : List Int) (gs : List (Int × Int)) : List Int := gs.foldl step (0 :: bs)
def B01 (f : List Int) : Prop := ∀ z ∈ f, z = 0 ∨ z = 1
theorem getD_01 {f : List Int} (h : B01 f) (j : Nat) : f.getD j 0 = 0 ∨ f.getD j 0 = 1 := by
  rw [List.getD_eq_getElem?_getD]
  cases e : f[j]? with
  | none => exact .inl rfl
  | some z => exact h z (List.mem_of_getElem? e)
theorem lit_01 {f : List Int} (h : B01 f) (a : Int) : lit f a = 0 ∨ lit f a = 1 := by
  have h1 := getD_01 h (a / 2).toNat
  have h2 : a % 2 = 0 ∨ a % 2 = 1 := by omega
  unfold lit ab
  rcases h1 with e1 | e1 <;> rcases h2 with e2 | e2 <;> rw [e1, e2] <;> decide
theorem mul_01 {x y : Int} (hx : x = 0 ∨ x = 1) (hy : y = 0 ∨ y = 1) : x * y = 0 ∨ x * y = 1 := by
  rcases hx with rfl | rfl <;> rcases hy with rfl | rfl <;> decide
theorem step_01 {f : List Int} (h : B01 f) (p : Int × Int) : B01 (step f p) := fun z hz => by
  rcases List.mem_append.mp hz with q | q
  · exact h z q
  · rw [List.mem_singleton.mp q]
    exact mul_01 (lit_01 h _) (lit_01 h _)
theorem foldl_len : ∀ (gs : List (Int × Int)) (f : List Int), (gs.foldl step f).length = f.length + gs.length
  | [], f => rfl
  | p :: r, f => by
    show (r.foldl step (step f p)).length = _
    rw [foldl_len r]
    unfold step
    rw [List.length_append]
    show f.length + 1 + r.length = f.length + (r.length + 1)
    omega
theorem foldl_01 : ∀ (gs : List (Int × Int)) {f : List Int}, B01 f → B01 (gs.foldl step f)
  | [], _, h => h
  | p :: r, _, h => foldl_01 r (step_01 h p)
theorem vals_take (bs : List Int) {gs : List (Int × Int)} {i : Nat} {p : Int × Int} (h : gs[i]? = some p) : vals bs (gs.take (i + 1)) = step (vals bs (gs.take i)) p := by
  unfold vals
  rw [take_more h, List.foldl_append]
  rfl
theorem vals_len (bs : List Int) (gs : List (Int × Int)) : (vals bs gs).length = bs.length + 1 + gs.length := by
  unfold vals
  rw [foldl_len]
  rfl
theorem vals_01 {bs : List Int} (gs : List (Int × Int)) (h : B01 bs) : B01 (vals bs gs) :=
  foldl_01 gs fun z hz => by
    rcases List.mem_cons.mp hz with rfl | hz
    · exact .inl rfl
    · exact h z hz
/-- the literals of gate i are of nodes ahead -/
theorem okG_at : ∀ {gs : List (Int × Int)} {m : Int} {i : Nat} {p : Int × Int}, okG m gs = true → gs[i]? = some p → (0 ≤ p.1 ∧ p.1 ≤ m + 2 * i) ∧ 0 ≤ p.2 ∧ p.2 ≤ m + 2 * i
  | [], _, _, _, _, e => by simp at e
  | q :: r, m, 0, p, h, e => by
    simp at e
    subst e
    unfold okG within at h
    simp only [Bool.and_eq_true, decide_eq_true_eq] at h
    obtain ⟨⟨⟨a, b⟩, c, d⟩, _⟩ := h
    exact ⟨⟨a, by omega⟩, c, by omega⟩
  | q :: r, m, i + 1, p, h, e => by
    simp at e
    unfold okG at h
    rw [Bool.and_eq_true] at h
    obtain ⟨⟨a, b⟩, c, d⟩ := okG_at h.2 e
    exact ⟨⟨a, by omega⟩, c, by omega⟩
theorem half_lt {a m : Int} (h0 : 0 ≤ a) (h : a ≤ 2 * m + 1) : (a / 2).toNat < (m + 1).toNat := by omega
/-- x ^ (a & 1), x a bit -/
theorem flip_bit {x a : Int} (hx : x = 0 ∨ x = 1) : Builtin.bitXor x (Builtin.bitAnd a 1) = ab (x - a % 2) := by
  have e := bitAnd_m1 a
  rw [e]
  have h2 : a % 2 = 0 ∨ a % 2 = 1 := by omega
  rcases hx with rfl | rfl <;> rcases h2 with e2 | e2 <;> rw [e2] <;> decide
theorem and_bits {x y : Int} (hx : x = 0 ∨ x = 1) (hy : y = 0 ∨ y = 1) : Builtin.bitAnd x y = x * y := by
  rcases hx with rfl | rfl <;> rcases hy with rfl | rfl <;> decide
theorem getD_of {f : List Int} {j : Nat} (h : j < f.length) : (f.map V.int)[j]? = some (.int (f.getD j 0)) := by
  rw [List.getElem?_map, List.getD_eq_getElem?_getD, List.getElem?_eq_getElem h]
  rfl
/-- a row of ints, list or tuple -/
def SeqI (K : PySem.W.Frag) (H : Hp) (v : V) (bs : List Int) : Prop := ∃ r, v = .ref r ∧ (SqL K H r (bs.map V.int) ∨ SqT K H r (bs.map V.int))
theorem SeqI.same {K : PySem.W.Frag} {H H' : Hp} {v : V} {bs : List Int} (s : Same H H') (h : SeqI K H v bs) : SeqI K H' v bs := by
  obtain ⟨r, e, h⟩ := h
  exact ⟨r, e, h.elim (fun h => .inl (s.seq h)) fun h => .inr (seqT_same s h)⟩
theorem bet_all {bs : List Int} (h : B01 bs) : ((bs.map PyData.int).all fun e => betD e 0 1) = true := by
  rw [List.all_map, List.all_eq_true]
  intro z hz
  rcases h z hz with rfl | rfl <;> rfl
theorem seqI_dp {K : PySem.W.Frag} {H : Hp} {v : V} {bs : List Int} (h : SeqI K H v bs) (hb : B01 bs) : ∃ d, Dp K H v d ∧ (rowsD d).length = bs.length ∧ rowB d (bs.length : Int) 0 1 = true := by
  have e : ∀ l : List PyData, l = bs.map PyData.int → (true && (decide (((l.length : Nat) : Int) = bs.length) && l.all fun e => betD e 0 1)) = true := by
    rintro l rfl
    rw [bet_all hb, List.length_map, decide_eq_true rfl]
    rfl
  obtain ⟨r, rfl, h | h⟩ := h
  · exact ⟨_, .lst h (ints_dp bs), List.length_map .., e _ rfl⟩
  · exact ⟨_, .tup h (ints_dp bs), List.length_map .., e _ rfl⟩
end No
namespace Lf
open PySem PySem.Spec PyProof.Rows L2 Pen Dat Ki Fi Gr No
/-! ## The law's own functions -/
structure Tx (mg : Str → Option Value) : Prop where
  pen : Pen.Txt mg
  abs : mg "abs" = none
  range : mg "range" = none
  tuple : mg "tuple" = none
def longer (rs : List (List Int)) : List (List Int) := rs.flatMap fun r => [r ++ [0], r ++ [1]]
def rowsM : Nat → List (List Int)
  | 0 => [[]]
  | n + 1 => longer (rowsM n)
theorem longer_cons (r : List Int) (rs : List (List Int)) : longer (r :: rs) = (r ++ [0]) :: (r ++ [1]) :: longer rs := rfl
theorem longer_app (rs ts : List (List Int)) : longer (rs ++ ts) = longer rs ++ longer ts := List.flatMap_append
theorem longer_len : ∀ rs : List (List Int), (longer rs).length = 2 * rs.length
  | [] => rfl
  | r :: rs => by
    rw [longer_cons, List.length_cons, List.length_cons, longer_len rs, List.length_cons]
    omega
theorem longer_mem : ∀ {rs : List (List Int)} {n : Nat}, (∀ r ∈ rs, r.length = n ∧ B01 r) → ∀ r ∈ longer rs, r.length = n + 1 ∧ B01 r
  | [], _, _, r, h => by cases h
  | t :: rs, n, hr, r, h => by
    have ht := hr t List.mem_cons_self
    rw [longer_cons] at h
    have one : ∀ z : Int, (z = 0 ∨ z = 1) → (t ++ [z]).length = n + 1 ∧ B01 (t ++ [z]) := fun z hz => ⟨by rw [List.length_append, ht.1]; rfl, fun y hy => by
      rcases List.mem_append.mp hy with q | q
      · exact ht.2 y q
      · rw [List.mem_singleton.mp q]
        exact hz⟩
    rcases List.mem_cons.mp h with rfl | h
    · exact one 0 (.inl rfl)
    · rcases List.mem_cons.mp h with rfl | h
      · exact one 1 (.inr rfl)
      · exact longer_mem (fun r hr2 => hr r (List.mem_cons_of_mem _ hr2)) r h
theorem rowsM_mem : ∀ (n : Nat), ∀ r ∈ rowsM n, r.length = n ∧ B01 r
  | 0, r, h => by
    rw [List.mem_singleton.mp h]
    exact ⟨rfl, fun z hz => by cases hz⟩
  | n + 1, r, h => longer_mem (rowsM_mem n) r h
theorem rowsM_len : ∀ n : Nat, (rowsM n).length = 2 ^ n
  | 0 => rfl
  | n + 1 => by
    show (longer (rowsM n)).length = _
    rw [longer_len, rowsM_len n, Nat.pow_succ, Nat.mul_comm]
theorem okG_snoc : ∀ {gs : List (Int × Int)} {m : Int} {p : Int × Int}, okG m gs = true → 0 ≤ p.1 → p.1 ≤ m + 2 * gs.length → 0 ≤ p.2 → p.2 ≤ m + 2 * gs.length → okG m (gs ++ [p]) = true
  | [], m, p, _, a, b, c, d => by
    show ((within p.1 m && within p.2 m) && true) = true
    unfold within
    have b' : p.1 ≤ m := by simpa using b
    have d' : p.2 ≤ m := by simpa using d
    rw [decide_eq_true a, decide_eq_true b', decide_eq_true c, decide_eq_true d']
    rfl
  | q :: r, m, p, h, a, b, c, d => by
    unfold okG at h
    rw [Bool.and_eq_true] at h
    show ((within q.1 m && within q.2 m) && okG (m + 2) (r ++ [p])) = true
    rw [h.1, okG_snoc h.2 a (by rw [List.length_cons] at b; omega) c (by rw [List.length_cons] at d; omega)]
    rfl
def spBit (K : PySem.W.Frag) : Sp := fun vs H Q _ => ∃ (l : Addr) (xs : List Int) (a : Int), vs = [.ref l, .int a] ∧ SqL K H l (xs.map V.int) ∧ 0 ≤ a ∧ (a / 2).toNat < xs.length ∧ Q (.int (lit xs a)) H
def spValues (K : PySem.W.Frag) : Sp := fun vs H Q _ => ∃ (u : V) (g r : Addr) (gs : List (Int × Int)) (bs : List Int), vs = [u, .ref g, .ref r] ∧ GT K H g gs ∧ SqT K H r (bs.map V.int) ∧ B01 bs ∧ okG (2 * bs.length + 1) gs = true ∧ bs.length ≤ 500 ∧ gs.length ≤ 500 ∧
  ∀ (H' : Hp) (l : Addr), Same H H' → H l = none → H' l = some (.lst ((vals bs gs).map V.int)) → Q (.ref l) H'
def spDrawn (K : PySem.W.Frag) : Sp := fun vs H Q _ => ∃ (p c : Addr) (k : Nat) (n m : Int), vs = [.ref p, .int n, .int m] ∧ PenC H p c k ∧ k ≤ 100000000000 ∧ 0 ≤ n ∧ n ≤ 100 ∧ 0 ≤ m ∧ m ≤ 100 ∧
  ∀ (H' : Hp) (g : Addr) (gs : List (Int × Int)), PenC H' p c (k + 2 * m.toNat) → But p H H' → GT K H' g gs → okG (2 * n + 1) gs = true → gs.length = m.toNat → Q (.ref g) H'
def spLonger (K : PySem.W.Frag) : Sp := fun vs H Q _ => ∃ (l : Addr) (ws : List V) (rs : List (List Int)), vs = [.ref l, .int 2] ∧ SqL K H l ws ∧ All2 (Tu K H) ws rs ∧ rs.length ≤ 2100 ∧ (∀ r ∈ rs, r.length ≤ 100) ∧
  ∀ (H' : Hp) (l' : Addr) (zs : List V), Same H H' → H' l' = some (.lst zs) → All2 (Tu K H') zs (longer rs) → Q (.ref l') H'
def spRows (K : PySem.W.Frag) : Sp := fun vs H Q _ => ∃ (m : Int), vs = [.int m] ∧ 0 ≤ m ∧ m ≤ 11 ∧
  ∀ (H' : Hp) (l : Addr) (ws : List V), Same H H' → H' l = some (.lst ws) → All2 (Tu K H') ws (rowsM m.toNat) → Q (.ref l) H'
section
variable {P : Program} {w : World} {K : PySem.W.Frag} {mg : Str → Option Value} {base : Heap} {f C : Addr} {fd : FuncData}
abbrev vaN : List Str := ["_law_leaves", "_law_gates", "_law_bits", "_law_found", "_law_one", "_law_two"]
abbrev drN : List Str := ["_law_pen_here", "_law_leaves", "_law_many", "_law_gates", "_law_k", "_law_ahead"]
abbrev loN : List Str := ["_law_rows_here", "_law_many", "_law_found", "_law_row", "_law_number"]
theorem scBit : FnScope ["_law_found", "_law_literal"] ["_law_found", "_law_literal"] (defScope sBit) := ⟨rfl, rfl, rfl, by decide +kernel, rfl, by decide +kernel, by decide +kernel⟩
theorem scValues : FnScope vaN ["_law_leaves", "_law_gates", "_law_bits"] (defScope sValues) := ⟨rfl, rfl, rfl, by decide +kernel, rfl, by decide +kernel, by decide +kernel⟩
theorem scDrawn : FnScope drN ["_law_pen_here", "_law_leaves", "_law_many"] (defScope sDrawn) := ⟨rfl, rfl, rfl, by decide +kernel, rfl, by decide +kernel, by decide +kernel⟩
theorem scLonger : FnScope loN ["_law_rows_here", "_law_many"] (defScope sLonger) := ⟨rfl, rfl, rfl, by decide +kernel, rfl, by decide +kernel, by decide +kernel⟩
theorem scRows : FnScope ["_law_many", "_law_rows_here", "_law_k"] ["_law_many"] (defScope sRows) := ⟨rfl, rfl, rfl, by decide +kernel, rfl, by decide +kernel, by decide +kernel⟩
theorem ok_bit (F : FnP K "_law_bit" sBit f fd) (T : Tx mg) : FnOk P w K mg base CX0 1 f fd ["_law_found", "_law_literal"] (spBit K) := by
  refine F.ok scBit (fun vs H Q E h => ?_) (fun cdv A outer s H vs Q E hr h => ?_)
  · obtain ⟨l, xs, a, rfl, _⟩ := h
    rfl
  · obtain ⟨l, xs, a, rfl, hl, ha, hz, q⟩ := h
    refine ⟨_, PSs.nox (pss_one (ps_ret (pe_callB call_abs (by rfl) T.abs (by decide +kernel) (pa_cons (pe_op op_sub (pe_ix ix_list (pv 0) (pe_op op_fdiv (pv 1) pe_int) (fun _ _ => rfl))
      (pe_op op_mod (pe_callTy call_int1 (by rfl) T.pen.int (by decide +kernel) (pa_cons (pv 1) pa_nil)) pe_int)) pa_nil)))), ?_⟩
    have e : a / 2 = (((a / 2).toNat : Nat) : Int) := by omega
    exact ⟨_, rfl, _, rfl, _, _, rfl, rfl, ⟨by decide, by decide⟩, l, _, _, _, rfl, rfl, hl, at_of e (getD_of hz), _, rfl, .inl ⟨_, rfl, _, _, rfl, rfl, (by show (0 : Int) < 2; decide), _, _, rfl, rfl, _, rfl, q⟩⟩
theorem ok_values {fB : Addr} {fdB : FuncData} (F : FnP K "_law_values" sValues f fd) (T : Tx mg) (FB : FnP K "_law_bit" sBit fB fdB) (gB : mg "_law_bit" = some (.ref fB)) : FnOk P w K mg base CX0 2 f fd ["_law_leaves", "_law_gates", "_law_bits"] (spValues K) := by
  have GB : FnOk P w K mg base CX0 1 fB fdB ["_law_found", "_law_literal"] (spBit K) := ok_bit FB T
  have bB : Binds K fdB ["_law_found", "_law_literal"] [] := FB.bindsN fun _ _ _ _ _ _ us hl => match us, hl with | [_, _], _ => rfl
  refine F.ok scValues (fun vs H Q E h => ?_) (fun cdv A outer s H vs Q E hr h => ?_)
  · obtain ⟨u, g, r, gs, bs, rfl, _⟩ := h
    rfl
  · obtain ⟨u, g, r, gs, bs, rfl, hG, hB, hb, hok, hz1, hz2, q⟩ := h
    obtain ⟨ps, hg, ha⟩ := id hG
    refine ⟨_, PSs.nox (pss_cons (ps_set (i := 3) scValues.nd rfl (Or.inl rfl) (pe_op op_cat (pe_lst (pa_cons pe_int pa_nil)) (pe_callTy call_list_of (by rfl) T.pen.list (by decide +kernel) (pa_cons (pv 2) pa_nil))))
      (pss_cons (ps_for PassesOwn.never rfl (pi_tup (pv 1)) (pg_tup rfl (pgs_cons (pg_name (i := 4) scValues.nd rfl (Or.inl rfl)) (pgs_cons (pg_name (i := 5) scValues.nd rfl (Or.inl rfl)) pgs_nil)))
        (pss_one (ps_expr (pe_bm PySem.F.plainAttrs_list PySem.F.slot_list_append PySem.F.type_list_append mt_append (pv 3) (pa_cons (pe_op op_mul
          (pe_call GB hr (by rfl) gB FB.kp bB .nil pass0 (pa_cons (pv 3) (pa_cons (pv 4) pa_nil)))
          (pe_call GB hr (by rfl) gB FB.kp bB .nil pass0 (pa_cons (pv 3) (pa_cons (pv 5) pa_nil)))) pa_nil)))))
      (pss_one (ps_ret (pv 3))))), ?_⟩
    refine ⟨(by show 1 ≤ sizeLine; decide), fun l1 n1 => ?_⟩
    have s1 : Same H (upd H l1 (.lst [.int 0])) := same_new n1
    refine ⟨_, rfl, r, _, rfl, .inr (seqT_same s1 hB), fun l2 n2 => ?_⟩
    have s2 := same_new (u := .lst (bs.map V.int)) n2
    refine ⟨_, _, _, _, rfl, rfl, s2 _ _ upd_same, upd_same, ?_, fun l n3 => ?_⟩
    · rw [List.length_map]
      show 1 + bs.length ≤ sizeLine
      exact Nat.le_trans (by omega : 1 + bs.length ≤ 501) (by decide)
    have s3 := same_new (u := .lst ([V.int 0] ++ bs.map V.int)) n3
    have s123 := s1.trans (s2.trans s3)
    have nl : H l = none := (s1.trans s2).free n3
    generalize hH : upd _ l _ = H1 at s123
    have h1 : H1 l = some (.lst ((vals bs []).map V.int)) := by
      rw [← hH, upd_same]
      rfl
    clear hH s3 n3
    refine ⟨_, rfl, g, rfl, ⟨_, seqT_same s123 hg⟩, for_tup (K := K) (a := g) (xs := ps)
      (fun i σ H2 => ∃ x y : Option V, σ = [some u, some (.ref g), some (.ref r), some (.ref l), x, y] ∧ Same H H2 ∧ H2 l = some (.lst ((vals bs (gs.take i)).map V.int)))
      ⟨none, none, rfl, s123, h1⟩ (fun i σ H2 _ ⟨_, _, _, z, _⟩ => seqT_same z hg) ?_ ?_⟩
    · rintro i x σ H2 hi ⟨y, y', rfl, z2, h2⟩
      obtain ⟨z, hz, hx⟩ := ha.get hi
      obtain ⟨q0, rfl, hq⟩ := hx
      have hi2 : i < gs.length := (List.getElem?_eq_some_iff.mp hz).1
      obtain ⟨⟨a0, a1⟩, b0, b1⟩ := okG_at hok hz
      have lv : (vals bs (gs.take i)).length = bs.length + 1 + i := by
        rw [vals_len, List.length_take, Nat.min_eq_left (Nat.le_of_lt hi2)]
      have v01 := vals_01 (gs.take i) hb
      have f1 := lit_01 v01 z.1
      refine ⟨q0, _, rfl, seqT_same z2 hq, rfl, _, _, rfl, _, _, rfl, rfl, ?_⟩
      refine ⟨_, rfl, .inl ⟨rfl, _, SqL.of h2⟩, _, rfl, _, rfl, l, _, z.1, rfl, SqL.of h2, a0, by omega, _, rfl, _, rfl, l, _, z.2, rfl, SqL.of h2, b0, by omega, _, _, rfl, rfl, .inl ?_, l, _, _, rfl, rfl, h2, ?_, ?_⟩
      · rcases f1 with e | e <;> rw [e] <;> exact ⟨by decide, by decide⟩
      · rw [List.length_map, lv]
        exact Nat.lt_of_lt_of_le (by omega : bs.length + 1 + i < 1002) (by decide)
      · refine ⟨_, _, rfl, fun b o e => ?_, ?_⟩
        · rw [upd_ne (ne_of_none e nl)]
          exact z2 _ _ e
        · rw [upd_same, vals_take bs hz]
          unfold No.step
          rw [List.map_append]
          rfl
    · rintro σ H2 ⟨y, y', rfl, z2, h2⟩
      rw [ha.len, List.take_length] at h2
      exact ⟨_, rfl, q _ l z2 nl h2⟩
theorem ok_drawn {fD : Addr} {fdD : FuncData} (F : FnP K "_law_drawn_gates" sDrawn f fd) (T : Tx mg) (FD : FnP K "_law_draw" sDraw fD fdD) (gD : mg "_law_draw" = some (.ref fD)) : FnOk P w K mg base CX0 2 f fd ["_law_pen_here", "_law_leaves", "_law_many"] (spDrawn K) := by
  have GD : FnOk P w K mg base CX0 1 fD fdD ["_law_pen_here", "_law_many"] spDraw := ok_draw FD T.pen
  have bD : Binds K fdD ["_law_pen_here", "_law_many"] [] := FD.bindsN fun _ _ _ _ _ _ us hl => match us, hl with | [_, _], _ => rfl
  refine F.ok scDrawn (fun vs H Q E h => ?_) (fun cdv A outer s H vs Q E hr h => ?_)
  · obtain ⟨p, c, k, n, m, rfl, _⟩ := h
    rfl
  · obtain ⟨p, c, k, n, m, rfl, hP, hk, n0, n1, m0, m1, q⟩ := h
    refine ⟨_, PSs.nox (pss_cons (ps_set (i := 3) scDrawn.nd rfl (Or.inl rfl) (pe_lst pa_nil))
      (pss_cons (ps_for PassesOwn.never rfl (pi_range1 (by rfl) T.range (pa_cons (pv 2) pa_nil)) (pg_name (i := 4) scDrawn.nd rfl (Or.inl rfl))
        (pss_cons (ps_set (i := 5) scDrawn.nd rfl (Or.inl rfl) (pe_op op_mul pe_int (pe_op op_add (pe_op op_add pe_int (pv 1)) (pv 4))))
        (pss_one (ps_expr (pe_bm PySem.F.plainAttrs_list PySem.F.slot_list_append PySem.F.type_list_append mt_append (pv 3) (pa_cons (pe_tup (pa_cons
          (pe_call GD hr (by rfl) gD FD.kp bD .nil pass0 (pa_cons (pv 0) (pa_cons (pv 5) pa_nil))) (pa_cons
          (pe_call GD hr (by rfl) gD FD.kp bD .nil pass0 (pa_cons (pv 0) (pa_cons (pv 5) pa_nil))) pa_nil))) pa_nil))))))
      (pss_one (ps_ret (pe_callTy call_tuple_of (by rfl) T.tuple (by decide +kernel) (pa_cons (pv 3) pa_nil)))))), ?_⟩
    refine ⟨(by show 0 ≤ sizeLine; decide), fun l nl => ?_⟩
    obtain ⟨lp, lc⟩ := hP.free nl
    have sl := same_new (u := .lst []) nl
    refine ⟨_, rfl, m, rfl, ?_, ?_, for_range (lo := 0) (n := m.toNat)
      (fun i σ H2 => ∃ (x y : Option V) (ys : List V) (gs : List (Int × Int)), σ = [some (.ref p), some (.int n), some (.int m), some (.ref l), x, y] ∧ PenC H2 p c (k + 2 * i) ∧ (∀ b o, H b = some o → b ≠ p → H2 b = some o) ∧
        H2 l = some (.lst ys) ∧ All2 (Pt K H2) ys gs ∧ okG (2 * n + 1) gs = true ∧ gs.length = i)
      ⟨none, none, [], [], rfl, hP.same sl, fun b o e _ => sl _ _ e, upd_same, .nil, rfl, rfl⟩ ?_ ?_⟩
    · omega
    · omega
    · rintro i σ H2 hi ⟨x, y, ys, gs, rfl, hP2, keep, h2, ha, hok, hlen⟩
      have him : (i : Int) < m := by omega
      refine ⟨_, rfl, _, _, rfl, rfl, _, rfl, _, _, rfl, rfl, _, _, rfl, rfl, .inl ⟨by decide, by decide⟩, ?_⟩
      refine ⟨_, rfl, .inl ⟨rfl, _, SqL.of h2⟩, _, rfl, _, rfl, p, c, k + 2 * i, _, rfl, hP2, by omega, by omega, by omega, fun r1 H3 r10 r11 P3 B3 => ?_⟩
      refine ⟨_, rfl, _, rfl, p, c, k + 2 * i + 1, _, rfl, P3, by omega, by omega, by omega, fun r2 H4 r20 r21 P4 B4 => ?_⟩
      refine ⟨(by show 2 ≤ sizeLine; decide), fun t nt => ?_⟩
      have st := same_new (u := .tup [V.int r1, V.int r2]) nt
      have h4 : H4 l = some (.lst ys) := B4 _ _ (B3 _ _ h2 lp) lp
      have f34 : Firm H2 H4 := (Firm.pen B3 hP2).trans (Firm.pen B4 P3)
      refine ⟨l, _, _, rfl, rfl, st _ _ h4, ?_, ?_⟩
      · rw [ha.len, hlen]
        exact Nat.lt_of_lt_of_le (by omega : i < 101) (by decide)
      · have fl : Firm (upd H4 t (.tup [V.int r1, V.int r2])) (upd (upd H4 t (.tup [V.int r1, V.int r2])) l (.lst (ys ++ [.ref t]))) := Firm.upd (st _ _ h4) rfl
        refine ⟨_, _, ys ++ [.ref t], gs ++ [(r1, r2)], rfl, ?_, fun b o e ne => ?_, upd_same, ?_, ?_, ?_⟩
        · have z := (P4.same st).upd (o := .lst (ys ++ [.ref t])) lp lc
          rw [show k + 2 * (i + 1) = k + 2 * i + 1 + 1 by omega]
          exact z
        · rw [upd_ne (ne_of_none e nl)]
          exact st _ _ (B4 _ _ (B3 _ _ (keep b o e ne) ne) ne)
        · exact (ha.imp fun _ _ h => ((h.firm f34).firm (Firm.of st)).firm fl).snoc ⟨t, rfl, firm_seq fl (SqT.of upd_same)⟩
        · exact okG_snoc hok r10 (by show r1 ≤ _; rw [hlen]; omega) r20 (by show r2 ≤ _; rw [hlen]; omega)
        · rw [List.length_append, hlen]
          rfl
    · rintro σ H2 ⟨x, y, ys, gs, rfl, hP2, keep, h2, ha, hok, hlen⟩
      refine ⟨_, rfl, l, _, rfl, .inl ⟨SqL.of h2, fun g ng => ?_⟩⟩
      have sg := same_new (u := .tup ys) ng
      exact q _ g gs (hP2.same sg) (fun b o e ne => sg _ _ (keep b o e ne)) ⟨ys, SqT.of upd_same, ha.imp fun _ _ h => h.firm (Firm.of sg)⟩ hok hlen
theorem ok_longer (F : FnP K "_law_longer" sLonger f fd) (T : Tx mg) : FnOk P w K mg base CX0 1 f fd ["_law_rows_here", "_law_many"] (spLonger K) := by
  refine F.ok scLonger (fun vs H Q E h => ?_) (fun cdv A outer s H vs Q E hr h => ?_)
  · obtain ⟨l, ws, rs, rfl, _⟩ := h
    rfl
  · obtain ⟨l, ws, rs, rfl, hl, ha, hzn, hz2, q⟩ := h
    refine ⟨_, PSs.nox (pss_cons (ps_set (i := 2) scLonger.nd rfl (Or.inl rfl) (pe_lst pa_nil))
      (pss_cons (ps_for PassesOwn.never rfl (pi_list (pv 0)) (pg_name (i := 3) scLonger.nd rfl (Or.inr rfl))
        (pss_one (ps_set (i := 2) scLonger.nd rfl (Or.inl rfl) (pe_op op_cat (pv 2) (pe_lc (own := [("_law_number", 4)]) (g := gName 4) (tt := tYes) rfl scLonger.nd (pi_range1 (by rfl) T.range (pa_cons (pv 1) pa_nil)) (blkOk_by (N := loN) (sc := defScope sLonger) (by decide +kernel))
          (fun _ _ _ _ _ => pg_name (i := 4) scLonger.nd rfl (Or.inl rfl)) (fun _ _ _ _ _ => pts_nil) (fun _ _ _ _ _ => pe_op (r := rCatA K) (by exact op_catA) (pv 3) (pe_tup (pa_cons (pv 4) pa_nil))))))))
      (pss_one (ps_ret (pv 2))))), ?_⟩
    refine ⟨(by show 0 ≤ sizeLine; decide), fun l0 n0 => ?_⟩
    have s0 := same_new (u := .lst []) n0
    refine ⟨_, rfl, l, rfl, ⟨_, s0.seq hl⟩, for_list (K := K) (a := l) (xs := ws)
      (fun i σ H2 => ∃ (x : Option V) (t : Addr) (zs : List V), σ = [some (.ref l), some (.int 2), some (.ref t), x, none] ∧ Same H H2 ∧ H2 t = some (.lst zs) ∧ All2 (Tu K H2) zs (longer (rs.take i)))
      ⟨none, l0, [], rfl, s0, upd_same, .nil⟩ (fun i σ H2 _ ⟨_, _, _, _, z, _⟩ => z.seq hl) ?_ ?_⟩
    · rintro i x σ H2 hi ⟨y, t, zs, rfl, s2, h2, hz⟩
      obtain ⟨r, hr1, hr2⟩ := ha.get hi
      obtain ⟨q0, rfl, hq⟩ := hr2
      have hq2 : SqT K H2 q0 (r.map V.int) := SqT.of (s2 _ _ hq)
      refine ⟨_, rfl, _, rfl, 2, rfl, by decide, by decide, fun D nD => ?_⟩
      refine lc_range (lo := 0) (n := 2) (fun j H3 => Same H2 H3 ∧ ∃ us, H3 D = some (.lst us) ∧ All2 (Tu K H3) us ((List.range j).map fun (k : Nat) => r ++ [0 + (k : Int)])) ⟨same_new nD, [], upd_same, .nil⟩ ?_ ?_
      · rintro j H3 hj ⟨s3, us, h3, h3a⟩
        have ul : us.length < sizeLine := by
          rw [h3a.len, List.length_map, List.length_range]
          exact Nat.lt_trans hj (by decide)
        have fin : ∀ (t2 : Addr) (H4 : Hp), Same H3 H4 → H4 t2 = some (.tup ((r ++ [0 + (j : Int)]).map V.int)) → ∃ acc, H4 D = some (.lst acc) ∧ acc.length < sizeLine ∧ Same H2 (upd H4 D (.lst (acc ++ [.ref t2]))) ∧
            ∃ us, (upd H4 D (.lst (acc ++ [.ref t2]))) D = some (.lst us) ∧ All2 (Tu K (upd H4 D (.lst (acc ++ [.ref t2])))) us ((List.range (j + 1)).map fun (k : Nat) => r ++ [0 + (k : Int)]) := fun t2 H4 s4 ht => by
          have fi : Firm H4 (upd H4 D (.lst (us ++ [.ref t2]))) := Firm.upd (s4 _ _ h3) rfl
          refine ⟨us, s4 _ _ h3, ul, fun b o e => ?_, us ++ [.ref t2], upd_same, ?_⟩
          · rw [upd_ne (ne_of_none e nD)]
            exact s4 _ _ (s3 _ _ e)
          · rw [List.range_succ, List.map_append]
            exact (h3a.imp fun _ _ h => (h.firm (Firm.of s4)).firm fi).snoc ⟨t2, rfl, fi _ _ ht rfl⟩
        refine ⟨rfl, yes_of ?_⟩
        refine ⟨_, rfl, _, rfl, (by show 1 ≤ sizeLine; decide), fun t1 nt1 => ?_⟩
        have s1 := same_new (u := .tup [V.int (0 + (j : Int))]) nt1
        have hr3 := hz2 r (List.mem_of_getElem? hr1)
        refine ⟨q0, t1, _, _, rfl, rfl, seqT_same (s3.trans s1) hq2, SqT.of upd_same, ?_, fun e => ?_, fun _ e => ?_, fun e _ t2 nt2 => ?_⟩
        · rw [List.length_map]
          exact Nat.le_trans (by show r.length + 1 ≤ 101; omega) (by decide)
        · have er : r = [] := List.map_eq_nil_iff.mp e
          exact fin t1 _ s1 (by rw [er]; exact upd_same)
        · cases e
        · have s2' := same_new (u := .tup (r.map V.int ++ [V.int (0 + (j : Int))])) nt2
          exact fin t2 _ (s1.trans s2') (by rw [List.map_append]; exact upd_same)
      · rintro H3 ⟨s3, us, h3, h3a⟩
        have hu2 : us.length = 2 := by
          rw [h3a.len]
          rfl
        have hzl := hz.len
        have tl : (rs.take i).length ≤ 2100 := by
          rw [List.length_take]
          exact Nat.le_trans (Nat.min_le_right _ _) hzn
        refine ⟨t, D, zs, us, rfl, rfl, s3 _ _ h2, h3, ?_, fun t2 nt2 => ?_⟩
        · rw [hzl, longer_len, hu2]
          exact Nat.le_trans (by omega : 2 * (rs.take i).length + 2 ≤ 4202) (by decide)
        · have s4 := same_new (u := .lst (zs ++ us)) nt2
          refine ⟨_, t2, zs ++ us, rfl, s2.trans (s3.trans s4), upd_same, ?_⟩
          rw [take_more hr1, longer_app]
          exact (hz.imp fun _ _ h => h.firm (Firm.of (s3.trans s4))).append (h3a.imp fun _ _ h => h.firm (Firm.of s4))
    · rintro σ H2 ⟨y, t, zs, rfl, s2, h2, hz⟩
      rw [ha.len, List.take_length] at hz
      exact ⟨_, rfl, q _ t zs s2 h2 hz⟩
theorem ok_rows {fL : Addr} {fdL : FuncData} (F : FnP K "_law_rows" sRows f fd) (T : Tx mg) (FL : FnP K "_law_longer" sLonger fL fdL) (gL : mg "_law_longer" = some (.ref fL)) : FnOk P w K mg base CX0 2 f fd ["_law_many"] (spRows K) := by
  have GL : FnOk P w K mg base CX0 1 fL fdL ["_law_rows_here", "_law_many"] (spLonger K) := ok_longer FL T
  have bL : Binds K fdL ["_law_rows_here", "_law_many"] [] := FL.bindsN fun _ _ _ _ _ _ us hl => match us, hl with | [_, _], _ => rfl
  refine F.ok scRows (fun vs H Q E h => ?_) (fun cdv A outer s H vs Q E hr h => ?_)
  · obtain ⟨m, rfl, _⟩ := h
    rfl
  · obtain ⟨m, rfl, m0, m1, q⟩ := h
    refine ⟨_, PSs.nox (pss_cons (ps_set (i := 1) scRows.nd rfl (Or.inl rfl) (pe_lst (pa_cons (pe_tup pa_nil) pa_nil)))
      (pss_cons (ps_for PassesOwn.never rfl (pi_range1 (by rfl) T.range (pa_cons (pv 0) pa_nil)) (pg_name (i := 2) scRows.nd rfl (Or.inl rfl))
        (pss_one (ps_set (i := 1) scRows.nd rfl (Or.inl rfl) (pe_call GL hr (by rfl) gL FL.kp bL .nil pass0 (pa_cons (pv 1) (pa_cons pe_int pa_nil))))))
      (pss_one (ps_ret (pv 1))))), ?_⟩
    refine ⟨(by show 0 ≤ sizeLine; decide), fun t nt => ⟨(by show 1 ≤ sizeLine; decide), fun l nl => ?_⟩⟩
    have s1 := same_new (u := .tup []) nt
    have s2 := same_new (u := .lst [.ref t]) nl
    refine ⟨_, rfl, m, rfl, ?_, ?_, for_range (lo := 0) (n := m.toNat)
      (fun i σ H2 => ∃ (x : Option V) (l : Addr) (zs : List V), σ = [some (.int m), some (.ref l), x] ∧ Same H H2 ∧ H2 l = some (.lst zs) ∧ All2 (Tu K H2) zs (rowsM i))
      ⟨none, l, [.ref t], rfl, s1.trans s2, upd_same, .cons ⟨t, rfl, s2 _ _ upd_same⟩ .nil⟩ ?_ ?_⟩
    · omega
    · omega
    · rintro i σ H2 hi ⟨x, l, zs, rfl, s3, h3, ha⟩
      have hi7 : i < 11 := by omega
      have hpow : (rowsM i).length ≤ 2100 := by
        rw [rowsM_len]
        exact Nat.le_trans (Nat.pow_le_pow_right (by decide) (by omega : i ≤ 10)) (by decide)
      refine ⟨_, rfl, l, zs, rowsM i, rfl, SqL.of h3, ha, hpow, fun r hr => ?_, fun H4 l' ws s4 h4 ha4 => ?_⟩
      · rw [(rowsM_mem i r hr).1]
        omega
      · exact ⟨_, l', ws, rfl, s3.trans s4, h4, ha4⟩
    · rintro σ H2 ⟨x, l, zs, rfl, s3, h3, ha⟩
      exact ⟨_, rfl, q _ l zs s3 h3 ha⟩
end
end Lf
namespace Rp
open PySem PySem.Spec PyProof.Rows L2 Fi
/-! ## What may be handed to repr -/
structure ROk (d : PyData) : Prop where
  show_ : d.showable = true
  dict : d.hasDict = false
  deep : d.depth ≤ 60
  long : d.shown.length ≤ sizeLine
def Small (i : Int) : Prop := 0 ≤ i ∧ i < 1000
theorem log_small : ∀ n : Nat, n < 1000 → n.log2 < 10 := by decide +kernel
theorem abs_small {i : Int} (h : Small i) : i.natAbs < 1000 := by
  obtain ⟨a, b⟩ := h
  omega
theorem show_small {i : Int} (h : Small i) : (PyData.int i).showable = true := by
  have := log_small _ (abs_small h)
  exact decide_eq_true (Nat.lt_trans this (by decide))
theorem weigh_small {i : Int} (h : Small i) : (PyData.int i).weight ≤ 10 := by
  have := log_small _ (abs_small h)
  show (if i == 0 then 0 else i.natAbs.log2 + 1) ≤ 10
  split <;> omega
theorem short_small {i : Int} (h : Small i) : (PyData.int i).intsShort 13 = true := by
  have := abs_small h
  exact decide_eq_true (PyData.shown_int_le (Nat.lt_trans this (by decide)))
theorem ints_all : ∀ {ns : List Int}, (∀ z ∈ ns, Small z) → PyData.showableAll (ns.map .int) = true ∧ PyData.hasDictAll (ns.map .int) = false ∧ PyData.depthAll (ns.map .int) = 0 ∧ PyData.canLayAll0 (ns.map .int) = true ∧
    PyData.intsShortAll 13 (ns.map .int) = true ∧ PyData.weightAll (ns.map .int) ≤ 11 * ns.length
  | [], _ => ⟨rfl, rfl, rfl, rfl, rfl, Nat.zero_le _⟩
  | z :: r, h => by
    have hz := h z List.mem_cons_self
    obtain ⟨a, b, c, d, e, g⟩ := ints_all (ns := r) fun y hy => h y (List.mem_cons_of_mem _ hy)
    refine ⟨?_, b, ?_, d, ?_, ?_⟩
    · show ((PyData.int z).showable && PyData.showableAll (r.map .int)) = true
      rw [show_small hz, a]
      rfl
    · show max 0 (PyData.depthAll (r.map .int)) = 0
      rw [c]
      rfl
    · show ((PyData.int z).intsShort 13 && PyData.intsShortAll 13 (r.map .int)) = true
      rw [short_small hz, e]
      rfl
    · show (PyData.int z).weight + 1 + PyData.weightAll (r.map .int) ≤ 11 * (r.length + 1)
      have := weigh_small hz
      omega
theorem row_ok {ns : List Int} (h : ∀ z ∈ ns, Small z) (hz : ns.length ≤ 1000) : ROk (.tuple (ns.map .int)) := by
  obtain ⟨a, b, c, d, e, g⟩ := ints_all h
  refine ⟨a, b, by show PyData.depthAll (ns.map .int) + 1 ≤ 60; omega, PyData.shown_fits_of_layable0 (B := 13) (by decide) (by decide) ?_ e⟩
  show ((PyData.canLayAll0 (ns.map .int) && decide (PyData.depthAll (ns.map .int) + 1 ≤ 64)) && decide (PyData.weightAll (ns.map .int) ≤ 2 ^ 20)) = true
  rw [d, decide_eq_true (by omega), decide_eq_true (Nat.le_trans g (Nat.le_trans (Nat.mul_le_mul_left 11 hz) (by decide)))]
  rfl
def SmallP (p : Int × Int) : Prop := Small p.1 ∧ Small p.2
theorem pairs_all : ∀ {gs : List (Int × Int)}, (∀ p ∈ gs, SmallP p) → PyData.showableAll (gs.map pD) = true ∧ PyData.hasDictAll (gs.map pD) = false ∧ PyData.depthAll (gs.map pD) ≤ 1 ∧ PyData.canLayAll0 (gs.map pD) = true ∧
    PyData.intsShortAll 13 (gs.map pD) = true ∧ PyData.weightAll (gs.map pD) ≤ 30 * gs.length
  | [], _ => ⟨rfl, rfl, Nat.zero_le _, rfl, rfl, Nat.zero_le _⟩
  | p :: r, h => by
    obtain ⟨p1, p2⟩ := h p List.mem_cons_self
    obtain ⟨a, b, c, d, e, g⟩ := pairs_all (gs := r) fun y hy => h y (List.mem_cons_of_mem _ hy)
    refine ⟨?_, b, ?_, d, ?_, ?_⟩
    · show (((PyData.int p.1).showable && ((PyData.int p.2).showable && true)) && PyData.showableAll (r.map pD)) = true
      rw [show_small p1, show_small p2, a]
      rfl
    · show max 1 (PyData.depthAll (r.map pD)) ≤ 1
      exact Nat.max_le.mpr ⟨Nat.le_refl _, c⟩
    · show (((PyData.int p.1).intsShort 13 && ((PyData.int p.2).intsShort 13 && true)) && PyData.intsShortAll 13 (r.map pD)) = true
      rw [short_small p1, short_small p2, e]
      rfl
    · show ((PyData.int p.1).weight + 1 + ((PyData.int p.2).weight + 1 + 0)) + 1 + PyData.weightAll (r.map pD) ≤ 30 * (r.length + 1)
      have h1 := weigh_small p1
      have h2 := weigh_small p2
      omega
theorem gates_ok {gs : List (Int × Int)} (h : ∀ p ∈ gs, SmallP p) (hz : gs.length ≤ 1000) : ROk (gD gs) := by
  obtain ⟨a, b, c, d, e, g⟩ := pairs_all h
  refine ⟨a, b, by show PyData.depthAll (gs.map pD) + 1 ≤ 60; omega, PyData.shown_fits_of_layable0 (B := 13) (by decide) (by decide) ?_ e⟩
  show ((PyData.canLayAll0 (gs.map pD) && decide (PyData.depthAll (gs.map pD) + 1 ≤ 64)) && decide (PyData.weightAll (gs.map pD) ≤ 2 ^ 20)) = true
  rw [d, decide_eq_true (by omega), decide_eq_true (Nat.le_trans g (Nat.le_trans (Nat.mul_le_mul_left 30 hz) (by decide)))]
  rfl
theorem shaped_ints {ns : List Int} (h : ∀ z ∈ ns, Small z) : SeqAt.shaped (.list (ns.map .int)) = true ∧ SeqAt.shaped (.tuple (ns.map .int)) = true := by
  obtain ⟨a, b, c, d, e, g⟩ := ints_all h
  have k : (PyData.canLayAll0 (ns.map .int) && decide (PyData.depthAll (ns.map .int) + 1 ≤ 64)) = true := by
    rw [d, decide_eq_true (by omega)]
    rfl
  exact ⟨k, k⟩
theorem eqv_len : ∀ (xs ys : List PyData), PyData.eqvAll xs ys = true → xs.length = ys.length
  | [], [], _ => rfl
  | [], _ :: _, h => by
    unfold PyData.eqvAll at h
    cases h
  | _ :: _, [], h => by
    unfold PyData.eqvAll at h
    cases h
  | x :: xs, y :: ys, h => by
    unfold PyData.eqvAll at h
    exact congrArg Nat.succ (eqv_len xs ys (Bool.and_eq_true_iff.mp h).2)
theorem eqv_self (gs : List (Int × Int)) : PyData.eqv (gD gs) (gD gs) = true := SeqAt.eqv_refl _ (Gr.can_pD gs)
theorem eqv_cut {gs hs : List (Int × Int)} (h : gs.length ≠ hs.length) : PyData.eqv (gD gs) (gD hs) = false := by
  cases e : PyData.eqv (gD gs) (gD hs) with
  | false => rfl
  | true =>
    have e' : PyData.eqvAll (gs.map pD) (hs.map pD) = true := by
      unfold gD PyData.eqv at e
      exact e
    have := eqv_len _ _ e'
    rw [List.length_map, List.length_map] at this
    exact absurd this h
end Rp
namespace Cm
open PySem PySem.Spec PyProof.Rows L2 Fi No
/-! ## Clauses, as mathematics -/
def fl (l : Int) : Int := l + 1 - 2 * (l % 2)
def sgn (l : Int) : Int := if l % 2 = 1 then -(l / 2) else l / 2
def bad (ls : List Int) : Bool := ls.any (fun l => l == 1) || ls.any fun l => ls.any fun m => m == fl l
def Asc (cl : List Int) : Prop := cl.Pairwise fun a b => a.natAbs < b.natAbs
def IsCl (ls cl : List Int) : Prop := Asc cl ∧ ∀ z, z ∈ cl ↔ ∃ l ∈ ls, 1 < l ∧ z = sgn l
theorem asc_ext : ∀ {xs ys : List Int}, Asc xs → Asc ys → (∀ z, z ∈ xs ↔ z ∈ ys) → xs = ys
  | [], [], _, _, _ => rfl
  | [], y :: _, _, _, h => absurd ((h y).mpr List.mem_cons_self) List.not_mem_nil
  | x :: _, [], _, _, h => absurd ((h x).mp List.mem_cons_self) List.not_mem_nil
  | x :: xs, y :: ys, hx, hy, h => by
    unfold Asc at hx hy
    rw [List.pairwise_cons] at hx hy
    have e : x = y := by
      rcases List.mem_cons.mp ((h x).mp List.mem_cons_self) with e | m1
      · exact e
      · rcases List.mem_cons.mp ((h y).mpr List.mem_cons_self) with e | m2
        · exact e.symm
        · have a := hx.1 y m2
          have b := hy.1 x m1
          omega
    subst e
    refine congrArg (x :: ·) (asc_ext hx.2 hy.2 fun z => ⟨fun m => ?_, fun m => ?_⟩)
    · rcases List.mem_cons.mp ((h z).mp (List.mem_cons_of_mem _ m)) with e | m'
      · have := hx.1 z m
        rw [e] at this
        exact absurd this (Nat.lt_irrefl _)
      · exact m'
    · rcases List.mem_cons.mp ((h z).mpr (List.mem_cons_of_mem _ m)) with e | m'
      · have := hy.1 z m
        rw [e] at this
        exact absurd this (Nat.lt_irrefl _)
      · exact m'
theorem isCl_uniq {ls c1 c2 : List Int} (h1 : IsCl ls c1) (h2 : IsCl ls c2) : c1 = c2 := asc_ext h1.1 h2.1 fun z => (h1.2 z).trans (h2.2 z).symm
theorem not_bad {ls : List Int} (h : bad ls = false) : ¬ (1 : Int) ∈ ls ∧ ∀ l ∈ ls, ¬ fl l ∈ ls := by
  unfold bad at h
  rw [Bool.or_eq_false_iff, List.any_eq_false, List.any_eq_false] at h
  refine ⟨fun m => h.1 1 m (by rfl), fun l m m2 => ?_⟩
  have z := h.2 l m
  rw [Bool.not_eq_true, List.any_eq_false] at z
  exact z _ m2 (by simp)
theorem is_bad {ls : List Int} (h : bad ls = true) : (1 : Int) ∈ ls ∨ ∃ l ∈ ls, fl l ∈ ls := by
  unfold bad at h
  rw [Bool.or_eq_true, List.any_eq_true, List.any_eq_true] at h
  rcases h with ⟨l, m, e⟩ | ⟨l, m, e⟩
  · rw [beq_iff_eq] at e
    subst e
    exact .inl m
  · obtain ⟨k, mk, ek⟩ := List.any_eq_true.mp e
    rw [beq_iff_eq] at ek
    subst ek
    exact .inr ⟨l, m, mk⟩
theorem bad_of {ls : List Int} (h : (1 : Int) ∈ ls ∨ ∃ l ∈ ls, fl l ∈ ls) : bad ls = true := by
  cases e : bad ls with
  | true => rfl
  | false =>
    obtain ⟨a, b⟩ := not_bad e
    rcases h with h | ⟨l, m, m2⟩
    · exact absurd h a
    · exact absurd m2 (b l m)
theorem sgn_abs {l : Int} (h : 0 ≤ l) : (sgn l).natAbs = (l / 2).toNat := by
  unfold sgn
  split <;> omega
/-- literals in order, none the opposite of another one: their clause -/
theorem isCl_map {ls ns : List Int} (h0 : ∀ l ∈ ls, 0 ≤ l) (hb : bad ls = false) (hn : ns.Pairwise (· < ·)) (hm : ∀ l, l ∈ ns ↔ l ∈ ls ∧ 1 < l) : IsCl ls (ns.map sgn) := by
  obtain ⟨b1, b2⟩ := not_bad hb
  refine ⟨?_, fun z => ⟨fun h => ?_, ?_⟩⟩
  · unfold Asc
    rw [List.pairwise_map]
    refine hn.imp_of_mem fun {a b} ma mb hab => ?_
    have a0 := (hm a).mp ma
    have c0 := (hm b).mp mb
    rw [sgn_abs (h0 a a0.1), sgn_abs (h0 b c0.1)]
    have ne : ¬ b = fl a := fun e => b2 a a0.1 (e ▸ c0.1)
    unfold fl at ne
    have := a0.2
    omega
  · obtain ⟨l, m, rfl⟩ := List.mem_map.mp h
    exact ⟨l, ((hm l).mp m).1, ((hm l).mp m).2, rfl⟩
  · rintro ⟨l, m, h1, rfl⟩
    exact List.mem_map.mpr ⟨l, (hm l).mpr ⟨m, h1⟩, rfl⟩
/-- nodes in order, each with its sign: the same clause -/
theorem isCl_nodes {ls ns : List Int} (h0 : ∀ l ∈ ls, 0 ≤ l) (hb : bad ls = false) (hn : ns.Pairwise (· < ·)) (hm : ∀ n, n ∈ ns ↔ ∃ l ∈ ls, 1 < l ∧ n = l / 2) :
    IsCl ls (ns.map fun n => if 2 * n ∈ ls then n else -n) := by
  obtain ⟨b1, b2⟩ := not_bad hb
  have val : ∀ l ∈ ls, 1 < l → (if 2 * (l / 2) ∈ ls then l / 2 else -(l / 2)) = sgn l := fun l m h1 => by
    unfold sgn
    by_cases e : l % 2 = 1
    · rw [if_pos e, if_neg]
      intro m2
      refine b2 l m ?_
      have : fl l = 2 * (l / 2) := by
        unfold fl
        omega
      rw [this]
      exact m2
    · rw [if_neg e, if_pos]
      have : 2 * (l / 2) = l := by omega
      rw [this]
      exact m
  refine ⟨?_, fun z => ⟨fun h => ?_, ?_⟩⟩
  · unfold Asc
    rw [List.pairwise_map]
    refine hn.imp_of_mem fun {a b} ma mb hab => ?_
    obtain ⟨l, ml, hl, rfl⟩ := (hm a).mp ma
    obtain ⟨k, mk, hk, rfl⟩ := (hm b).mp mb
    rw [val l ml hl, val k mk hk, sgn_abs (h0 l ml), sgn_abs (h0 k mk)]
    omega
  · obtain ⟨n, m, rfl⟩ := List.mem_map.mp h
    obtain ⟨l, ml, hl, rfl⟩ := (hm n).mp m
    exact ⟨l, ml, hl, val l ml hl⟩
  · rintro ⟨l, m, h1, rfl⟩
    exact List.mem_map.mpr ⟨l / 2, (hm _).mpr ⟨l, m, h1, rfl⟩, val l m h1⟩
def bnd (ls : List Int) : Nat := ls.foldr (fun l b => max l.toNat b) 0 + 1
theorem bnd_lt : ∀ {ls : List Int} {l : Int}, l ∈ ls → l.toNat < bnd ls
  | k :: r, l, h => by
    unfold bnd
    rw [List.foldr_cons]
    rcases List.mem_cons.mp h with rfl | h
    · have := Nat.le_max_left l.toNat (r.foldr (fun l b => max l.toNat b) 0)
      omega
    · have z := bnd_lt h
      unfold bnd at z
      have := Nat.le_max_right k.toNat (r.foldr (fun l b => max l.toNat b) 0)
      omega
def clL (ls : List Int) : List Int := (((List.range (bnd ls)).map fun (l : Nat) => (l : Int)).filter fun l => decide (l ∈ ls ∧ 1 < l)).map sgn
theorem isCl_clL {ls : List Int} (h0 : ∀ l ∈ ls, 0 ≤ l) (hb : bad ls = false) : IsCl ls (clL ls) := by
  refine isCl_map h0 hb (List.Pairwise.filter _ ?_) fun l => ?_
  · rw [List.pairwise_map]
    exact (List.pairwise_lt_range).imp fun h => by omega
  · rw [List.mem_filter, List.mem_map, decide_eq_true_eq]
    refine ⟨fun h => h.2, fun h => ⟨⟨l.toNat, List.mem_range.mpr (bnd_lt h.1), ?_⟩, h⟩⟩
    have := h0 l h.1
    omega
def clM (ls : List Int) : Option (List Int) := if bad ls then none else some (clL ls)
/-! ### what they say -/
def satB (as cl : List Int) : Bool := cl.any fun z => decide (as.getD (z.natAbs - 1) 0 = if z > 0 then 1 else 0)
def litv (as : List Int) (l : Int) : Int := lit (0 :: as) l
theorem litv_01 {as : List Int} (h : B01 as) (l : Int) : litv as l = 0 ∨ litv as l = 1 := lit_01 (fun z hz => by
  rcases List.mem_cons.mp hz with rfl | hz
  · exact .inl rfl
  · exact h z hz) l
theorem getD_tail (as : List Int) {k : Nat} (h : 0 < k) : (0 :: as).getD k 0 = as.getD (k - 1) 0 := by
  obtain ⟨j, rfl⟩ := Nat.exists_eq_succ_of_ne_zero (Nat.pos_iff_ne_zero.mp h)
  rw [List.getD_eq_getElem?_getD, List.getD_eq_getElem?_getD]
  rfl
theorem sgn_lit {as : List Int} (h : B01 as) {l : Int} (h1 : 1 < l) : (as.getD ((sgn l).natAbs - 1) 0 = if sgn l > 0 then 1 else 0) ↔ litv as l = 1 := by
  have g := getD_tail as (k := (l / 2).toNat) (by omega)
  have b := getD_01 h ((l / 2).toNat - 1)
  rw [sgn_abs (by omega)]
  unfold litv lit ab
  rw [g]
  generalize as.getD ((l / 2).toNat - 1) 0 = x at b
  unfold sgn
  by_cases e : l % 2 = 1
  · rw [if_pos e, if_neg (by omega), e]
    rcases b with rfl | rfl <;> decide
  · have e0 : l % 2 = 0 := by omega
    rw [if_neg e, if_pos (by omega), e0]
    rcases b with rfl | rfl <;> decide
theorem litv_zero (as : List Int) : litv as 0 = 0 := rfl
theorem litv_one (as : List Int) : litv as 1 = 1 := rfl
theorem litv_fl {as : List Int} (h : B01 as) {l : Int} (h0 : 0 ≤ l) : litv as (fl l) = 1 - litv as l := by
  have e : fl l / 2 = l / 2 := by
    unfold fl
    omega
  have b : (0 :: as).getD (l / 2).toNat 0 = 0 ∨ (0 :: as).getD (l / 2).toNat 0 = 1 := getD_01 (fun z hz => by
    rcases List.mem_cons.mp hz with rfl | hz
    · exact .inl rfl
    · exact h z hz) _
  unfold litv lit ab
  rw [e]
  have m : l % 2 = 0 ∨ l % 2 = 1 := by omega
  have m2 : fl l % 2 = 1 - l % 2 := by
    unfold fl
    omega
  rw [m2]
  rcases b with b | b <;> rcases m with m | m <;> rw [b, m] <;> decide
theorem sat_cl {as ls cl : List Int} (h : B01 as) (h0 : ∀ l ∈ ls, 0 ≤ l) (h1 : ¬ (1 : Int) ∈ ls) (hc : IsCl ls cl) : satB as cl = true ↔ ∃ l ∈ ls, litv as l = 1 := by
  unfold satB
  rw [List.any_eq_true]
  constructor
  · rintro ⟨z, hz, e⟩
    obtain ⟨l, ml, hl, rfl⟩ := (hc.2 z).mp hz
    exact ⟨l, ml, (sgn_lit h hl).mp (of_decide_eq_true e)⟩
  · rintro ⟨l, ml, e⟩
    have l0 := h0 l ml
    have l1 : 1 < l := by
      rcases Int.lt_trichotomy l 1 with q | q | q
      · have : l = 0 := by omega
        rw [this, litv_zero] at e
        cases e
      · rw [q] at ml
        exact absurd ml h1
      · exact q
    exact ⟨sgn l, (hc.2 _).mpr ⟨l, ml, l1, rfl⟩, decide_eq_true ((sgn_lit h l1).mpr e)⟩
theorem sat_bad {as ls : List Int} (h : B01 as) (h0 : ∀ l ∈ ls, 0 ≤ l) (hb : bad ls = true) : ∃ l ∈ ls, litv as l = 1 := by
  rcases is_bad hb with m | ⟨l, m, m2⟩
  · exact ⟨1, m, litv_one as⟩
  · rcases litv_01 h l with e | e
    · refine ⟨fl l, m2, ?_⟩
      rw [litv_fl h (h0 l m), e]
      rfl
    · exact ⟨l, m, e⟩
/-- a row of literals, as the clause of it says -/
def holds (as ls : List Int) : Prop := match clM ls with
  | none => True
  | some cl => satB as cl = true
theorem holds_iff {as ls : List Int} (h : B01 as) (h0 : ∀ l ∈ ls, 0 ≤ l) : holds as ls ↔ ∃ l ∈ ls, litv as l = 1 := by
  unfold holds clM
  cases e : bad ls with
  | true => exact ⟨fun _ => sat_bad h h0 e, fun _ => trivial⟩
  | false => exact sat_cl h h0 (not_bad e).1 (isCl_clL h0 e)
def three (g : Int) (p : Int × Int) : List (List Int) := [[p.1, g + 1], [p.2, g + 1], [fl p.1, fl p.2, g]]
def clauses (n : Nat) : List (Int × Int) → List (List Int)
  | [] => []
  | p :: r => (three (2 * ((n : Int) + 1)) p).filterMap clM ++ clauses (n + 1) r
theorem gate_iff {as : List Int} {g : Int} {p : Int × Int} (h : B01 as) (h1 : 0 ≤ p.1) (h2 : 0 ≤ p.2) (hg : 0 ≤ g) (he : g % 2 = 0) :
    (∀ cl ∈ (three g p).filterMap clM, satB as cl = true) ↔ litv as g = litv as p.1 * litv as p.2 := by
  have tr : (∀ cl ∈ (three g p).filterMap clM, satB as cl = true) ↔ ∀ ls ∈ three g p, holds as ls := by
    constructor
    · intro q ls m
      unfold holds
      cases e : clM ls with
      | none => exact trivial
      | some cl => exact q cl (List.mem_filterMap.mpr ⟨ls, m, e⟩)
    · intro q cl m
      obtain ⟨ls, m1, e⟩ := List.mem_filterMap.mp m
      have z := q ls m1
      unfold holds at z
      rw [e] at z
      exact z
  have f1 : 0 ≤ fl p.1 := by
    unfold fl
    omega
  have f2 : 0 ≤ fl p.2 := by
    unfold fl
    omega
  have eg : g + 1 = fl g := by
    unfold fl
    omega
  have nn1 : ∀ l ∈ [p.1, g + 1], 0 ≤ l := fun l m => by
    rcases List.mem_cons.mp m with rfl | m
    · exact h1
    · rw [List.mem_singleton.mp m]
      omega
  have nn2 : ∀ l ∈ [p.2, g + 1], 0 ≤ l := fun l m => by
    rcases List.mem_cons.mp m with rfl | m
    · exact h2
    · rw [List.mem_singleton.mp m]
      omega
  have nn3 : ∀ l ∈ [fl p.1, fl p.2, g], 0 ≤ l := fun l m => by
    rcases List.mem_cons.mp m with rfl | m
    · exact f1
    · rcases List.mem_cons.mp m with rfl | m
      · exact f2
      · rw [List.mem_singleton.mp m]
        exact hg
  have k1 := holds_iff h nn1
  have k2 := holds_iff h nn2
  have k3 := holds_iff h nn3
  simp only [List.mem_cons, List.not_mem_nil, or_false, exists_eq_or_imp, exists_eq_left] at k1 k2 k3
  rw [tr]
  simp only [three, List.mem_cons, List.not_mem_nil, or_false, forall_eq_or_imp, forall_eq]
  rw [k1, k2, k3, eg, litv_fl h hg, litv_fl h h1, litv_fl h h2]
  rcases litv_01 h p.1 with a | a <;> rcases litv_01 h p.2 with b | b <;> rcases litv_01 h g with c | c <;> rw [a, b, c] <;> decide
end Cm
namespace Cn
open PySem PySem.Spec PyProof.Rows L2 Fi Gr No Lf Cm
/-! ## Just one assignment, and all rows of bits -/
def fits (as : List Int) (n : Nat) (gs : List (Int × Int)) : Prop := ∀ cl ∈ clauses n gs, satB as cl = true
theorem foldl_pre : ∀ (gs : List (Int × Int)) (f : List Int), (gs.foldl No.step f).take f.length = f
  | [], f => List.take_length
  | p :: r, f => by
    show (r.foldl No.step (No.step f p)).take f.length = f
    have e := foldl_pre r (No.step f p)
    have hl : f.length ≤ (No.step f p).length := by
      unfold No.step
      rw [List.length_append]
      exact Nat.le_add_right _ _
    have e2 : ((r.foldl No.step (No.step f p)).take (No.step f p).length).take f.length = (No.step f p).take f.length := by rw [e]
    rw [List.take_take, Nat.min_eq_left hl] at e2
    rw [e2]
    unfold No.step
    exact List.take_left
theorem getD_take {f : List Int} {j k : Nat} (h : j < k) : (f.take k).getD j 0 = f.getD j 0 := by
  rw [List.getD_eq_getElem?_getD, List.getD_eq_getElem?_getD, List.getElem?_take_of_lt h]
theorem lit_take {f : List Int} {a : Int} {k : Nat} (h0 : 0 ≤ a) (h : (a / 2).toNat < k) : lit (f.take k) a = lit f a := by
  unfold lit
  rw [getD_take h]
theorem take_snoc {as : List Int} {n : Nat} (h : n < as.length) : as.take (n + 1) = as.take n ++ [as.getD n 0] := by
  rw [List.take_succ, List.getD_eq_getElem?_getD, List.getElem?_eq_getElem h]
  rfl
theorem fits_iff : ∀ (gs : List (Int × Int)) (n : Nat) (as : List Int), B01 as → as.length = n + gs.length → okG (2 * (n : Int) + 1) gs = true → (fits as n gs ↔ 0 :: as = gs.foldl No.step (0 :: as.take n))
  | [], n, as, _, hl, _ => by
    have e : as.take n = as := List.take_of_length_le (by simp at hl; omega)
    refine ⟨fun _ => ?_, fun _ cl m => by cases m⟩
    show 0 :: as = 0 :: as.take n
    rw [e]
  | p :: r, n, as, hb, hl, hok => by
    have hl' : as.length = n + 1 + r.length := by
      rw [hl, List.length_cons]
      omega
    have hn : n < as.length := by omega
    obtain ⟨⟨a0, a1⟩, b0, b1⟩ := okG_at (i := 0) (p := p) hok rfl
    have hok2 : okG (2 * ((n + 1 : Nat) : Int) + 1) r = true := by
      unfold okG at hok
      rw [Bool.and_eq_true] at hok
      rw [show 2 * ((n + 1 : Nat) : Int) + 1 = 2 * (n : Int) + 1 + 2 by omega]
      exact hok.2
    have ih := fits_iff r (n + 1) as hb hl' hok2
    have gate := gate_iff (as := as) (g := 2 * ((n : Int) + 1)) (p := p) hb a0 b0 (by omega) (by omega)
    have split : fits as n (p :: r) ↔ litv as (2 * ((n : Int) + 1)) = litv as p.1 * litv as p.2 ∧ fits as (n + 1) r := by
      rw [← gate]
      have ec : clauses n (p :: r) = (three (2 * ((n : Int) + 1)) p).filterMap clM ++ clauses (n + 1) r := rfl
      unfold fits
      rw [ec]
      constructor
      · exact fun h => ⟨fun cl m => h cl (List.mem_append_left _ m), fun cl m => h cl (List.mem_append_right _ m)⟩
      · rintro ⟨h1, h2⟩ cl m
        rcases List.mem_append.mp m with m | m
        · exact h1 cl m
        · exact h2 cl m
    have lg : litv as (2 * ((n : Int) + 1)) = as.getD n 0 := by
      unfold litv lit
      have e1 : (2 * ((n : Int) + 1) / 2).toNat = n + 1 := by omega
      have e2 : 2 * ((n : Int) + 1) % 2 = 0 := by omega
      rw [e1, e2, getD_tail as (by omega : 0 < n + 1)]
      show ab (as.getD n 0 - 0) = _
      rcases getD_01 hb n with q | q <;> rw [q] <;> rfl
    have st : No.step (0 :: as.take n) p = 0 :: as.take n ++ [litv as p.1 * litv as p.2] := by
      unfold No.step
      have e : (0 :: as.take n) = (0 :: as).take (n + 1) := rfl
      rw [e, lit_take a0 (by omega), lit_take b0 (by omega)]
      rfl
    have goal : (p :: r).foldl No.step (0 :: as.take n) = r.foldl No.step (0 :: as.take n ++ [litv as p.1 * litv as p.2]) := by
      show r.foldl No.step (No.step (0 :: as.take n) p) = _
      rw [st]
    have tk := take_snoc hn
    rw [split, goal, lg, ih, tk]
    constructor
    · rintro ⟨e1, e2⟩
      rw [e1] at e2
      exact e2
    · intro e2
      have pre := foldl_pre r (0 :: as.take n ++ [litv as p.1 * litv as p.2])
      rw [← e2] at pre
      have ln : (0 :: as.take n ++ [litv as p.1 * litv as p.2]).length = n + 2 := by
        rw [List.length_append, List.length_cons, List.length_take, Nat.min_eq_left (Nat.le_of_lt hn)]
        rfl
      rw [ln] at pre
      have pre2 : (0 :: as).take (n + 2) = 0 :: as.take n ++ [as.getD n 0] := by
        show 0 :: as.take (n + 1) = _
        rw [tk]
        rfl
      rw [pre2] at pre
      have e1 : as.getD n 0 = litv as p.1 * litv as p.2 := by
        have z := List.append_inj_right' pre rfl
        exact List.head_eq_of_cons_eq z
      refine ⟨e1, ?_⟩
      rw [e1]
      exact e2
/-- the one assignment that has these bits -/
def whole (bs : List Int) (gs : List (Int × Int)) : List Int := (vals bs gs).drop 1
theorem vals_head (bs : List Int) (gs : List (Int × Int)) : vals bs gs = 0 :: whole bs gs := by
  have e := foldl_pre gs (0 :: bs)
  unfold whole
  cases h : vals bs gs with
  | nil =>
    have z := vals_len bs gs
    rw [h] at z
    have z2 : 0 = bs.length + 1 + gs.length := z
    omega
  | cons x r =>
    unfold vals at h
    rw [h] at e
    have : x = 0 := List.head_eq_of_cons_eq e
    rw [this]
    rfl
theorem whole_len (bs : List Int) (gs : List (Int × Int)) : (whole bs gs).length = bs.length + gs.length := by
  unfold whole
  rw [List.length_drop, vals_len]
  omega
theorem whole_01 {bs : List Int} (gs : List (Int × Int)) (h : B01 bs) : B01 (whole bs gs) := fun z hz => vals_01 gs h z (List.mem_of_mem_drop hz)
theorem whole_take (bs : List Int) (gs : List (Int × Int)) : (whole bs gs).take bs.length = bs := by
  have e := foldl_pre gs (0 :: bs)
  have v := vals_head bs gs
  unfold vals at v
  rw [v] at e
  exact List.tail_eq_of_cons_eq e
theorem fits_whole {as bs : List Int} {gs : List (Int × Int)} (hb : B01 as) (hl : as.length = bs.length + gs.length) (hok : okG (2 * (bs.length : Int) + 1) gs = true) : (fits as bs.length gs ∧ as.take bs.length = bs) ↔ as = whole bs gs := by
  rw [fits_iff gs bs.length as hb hl hok]
  constructor
  · rintro ⟨e1, e2⟩
    rw [e2] at e1
    have v := vals_head bs gs
    unfold vals at v
    rw [v] at e1
    exact List.tail_eq_of_cons_eq e1
  · intro e
    have t : as.take bs.length = bs := by
      rw [e]
      exact whole_take bs gs
    refine ⟨?_, t⟩
    rw [t]
    have v := vals_head bs gs
    unfold vals at v
    rw [v, e]
/-! ### all rows of so many bits -/
theorem longer_in : ∀ {rs : List (List Int)} {t : List Int}, t ∈ longer rs ↔ ∃ r ∈ rs, t = r ++ [0] ∨ t = r ++ [1]
  | [], t => ⟨fun h => absurd h List.not_mem_nil, fun ⟨_, h, _⟩ => absurd h List.not_mem_nil⟩
  | r :: rs, t => by
    rw [longer_cons, List.mem_cons, List.mem_cons, longer_in]
    constructor
    · rintro (h | h | ⟨s, m, h⟩)
      · exact ⟨r, List.mem_cons_self, .inl h⟩
      · exact ⟨r, List.mem_cons_self, .inr h⟩
      · exact ⟨s, List.mem_cons_of_mem _ m, h⟩
    · rintro ⟨s, m, h⟩
      rcases List.mem_cons.mp m with rfl | m
      · rcases h with h | h
        · exact .inl h
        · exact .inr (.inl h)
      · exact .inr (.inr ⟨s, m, h⟩)
theorem longer_nd : ∀ {rs : List (List Int)}, rs.Nodup → (longer rs).Nodup
  | [], _ => List.nodup_nil
  | r :: rs, h => by
    rw [List.nodup_cons] at h
    rw [longer_cons, List.nodup_cons, List.nodup_cons, List.mem_cons, longer_in, longer_in]
    have no : ∀ z : Int, ¬ ∃ s ∈ rs, r ++ [z] = s ++ [0] ∨ r ++ [z] = s ++ [1] := fun z ⟨s, m, e⟩ => by
      have : r = s := by
        rcases e with e | e <;> exact List.append_inj_left' e rfl
      rw [this] at h
      exact h.1 m
    refine ⟨fun e => ?_, no 1, longer_nd h.2⟩
    rcases e with e | e
    · have z := List.append_inj_right' e rfl
      cases z
    · exact no 0 e
theorem rowsM_nd : ∀ n : Nat, (rowsM n).Nodup
  | 0 => by
    show [([] : List Int)].Nodup
    rw [List.nodup_cons]
    exact ⟨List.not_mem_nil, List.nodup_nil⟩
  | n + 1 => longer_nd (rowsM_nd n)
theorem rowsM_all : ∀ (n : Nat) (r : List Int), r.length = n → B01 r → r ∈ rowsM n
  | 0, r, h, _ => by
    rw [List.length_eq_zero_iff.mp h]
    exact List.mem_cons_self
  | n + 1, r, h, hb => by
    show r ∈ longer (rowsM n)
    have hne : r ≠ [] := fun e => by
      rw [e] at h
      cases h
    have e := List.dropLast_concat_getLast hne
    have hd : B01 r.dropLast := fun z hz => hb z (List.dropLast_subset r hz)
    have hl := hb _ (List.getLast_mem hne)
    have hm := rowsM_all n r.dropLast (by rw [List.length_dropLast, h]; rfl) hd
    rw [longer_in]
    refine ⟨r.dropLast, hm, ?_⟩
    rcases hl with q | q
    · rw [q] at e
      exact .inl e.symm
    · rw [q] at e
      exact .inr e.symm
theorem filter_one {p : List Int → Bool} {w : List Int} : ∀ {l : List (List Int)}, l.Nodup → w ∈ l → (∀ r ∈ l, p r = true ↔ r = w) → l.filter p = [w]
  | [], _, h, _ => by cases h
  | r :: l, nd, h, hp => by
    rw [List.nodup_cons] at nd
    by_cases e : r = w
    · rw [List.filter_cons_of_pos ((hp r List.mem_cons_self).mpr e), e]
      have none : l.filter p = [] := by
        rw [List.filter_eq_nil_iff]
        intro s m q
        have := (hp s (List.mem_cons_of_mem _ m)).mp q
        rw [this, ← e] at m
        exact nd.1 m
      rw [none]
    · have hr : ¬ p r = true := fun q => e ((hp r List.mem_cons_self).mp q)
      rw [List.filter_cons_of_neg hr]
      rcases List.mem_cons.mp h with q | q
      · exact absurd q.symm e
      · exact filter_one nd.2 q fun s m => hp s (List.mem_cons_of_mem _ m)
end Cn
namespace Cp
open PySem PySem.Spec PyProof.Rows L2 Pen Dat Ki Fi Gr No Cm
/-! ## Clauses, by the program -/
structure Tx (mg : Str → Option Value) : Prop where
  abs : mg "abs" = none
  tuple : mg "tuple" = none
  list : mg "list" = none
  sorted : mg "sorted" = none
def spSat (K : PySem.W.Frag) : Sp := fun vs H Q _ => ∃ (v : V) (c : Addr) (as cl : List Int), vs = [v, .ref c] ∧ SeqI K H v as ∧ SqT K H c (cl.map V.int) ∧ (∀ z ∈ cl, z ≠ 0 ∧ z.natAbs ≤ as.length) ∧ Q (.bl (satB as cl)) H
def spCl (K : PySem.W.Frag) : Sp := fun vs H Q _ => ∃ (v : V) (ls : List Int), vs = [v] ∧ SeqI K H v ls ∧ (∀ l ∈ ls, 0 ≤ l) ∧ ls.length ≤ 500 ∧ (bad ls = true → ∀ H', Same H H' → Q .non H') ∧
  (bad ls = false → ∀ (H' : Hp) (t : Addr) (cl : List Int), Same H H' → IsCl ls cl → H' t = some (.tup (cl.map V.int)) → Q (.ref t) H')
theorem xor_one {l : Int} (h : 0 ≤ l) : Builtin.bitXor l 1 = fl l := by
  obtain ⟨n, rfl⟩ := Int.eq_ofNat_of_zero_le h
  rw [Bits.bitXor_pp h (by decide)]
  have z := Bits.nat_xor_add_and n 1
  rw [Nat.and_one_is_mod] at z
  unfold fl
  have e : ((n : Int)).toNat = n := Int.toNat_natCast n
  have e1 : (1 : Int).toNat = 1 := rfl
  rw [e, e1]
  omega
theorem sat_more {as cl : List Int} {i : Nat} {z : Int} (h : cl[i]? = some z) (e : as.getD (z.natAbs - 1) 0 = if z > 0 then 1 else 0) : satB as cl = true := List.any_eq_true.mpr ⟨z, List.mem_of_getElem? h, decide_eq_true e⟩
theorem bad_snoc {ls : List Int} {l : Int} (h0 : ∀ a ∈ ls, 0 ≤ a) (l0 : 0 ≤ l) (nb : bad ls = false) (n1 : l ≠ 1) (n2 : ¬ fl l ∈ ls) : bad (ls ++ [l]) = false := by
  obtain ⟨b1, b2⟩ := not_bad nb
  cases e : bad (ls ++ [l]) with
  | false => rfl
  | true =>
    exfalso
    rcases is_bad e with m | ⟨a, m, m2⟩
    · rcases List.mem_append.mp m with m | m
      · exact b1 m
      · exact n1 (List.mem_singleton.mp m).symm
    · rcases List.mem_append.mp m with m | m
      · rcases List.mem_append.mp m2 with m2 | m2
        · exact b2 a m m2
        · have z := List.mem_singleton.mp m2
          have a0 := h0 a m
          have : fl l = a := by
            rw [← z]
            unfold fl
            omega
          exact n2 (this ▸ m)
      · have z := List.mem_singleton.mp m
        subst z
        rcases List.mem_append.mp m2 with m2 | m2
        · exact n2 m2
        · have z := List.mem_singleton.mp m2
          unfold fl at z
          omega
/-- an int as a test -/
theorem pt_int {X : Cx} {e : Expr} {ta : TE} (ha : PE X e ta) (he : ∀ whole, isTrue e X.env whole = (do let v ← whole; standAt e.pos; holding [v] (truthy v))) : PT X e (fun σ H Q => ta σ H fun x H' => ∃ i : Int, x = .int i ∧ Q (i != 0) H') := by
  refine ⟨fun pins s σ H Q I h => isTrue_plain (thn (ha.run pins s σ H _ I h) fun v s1 z => ?_) (he _)⟩
  obtain ⟨x, H1, I1, r1, i, rfl, q⟩ := z
  exact tru_ok pins s1 σ H1 (.int i) v Q I1 r1 ⟨_, rfl, q⟩
theorem keys_put_old {kvs : List (Key × V)} {k : Key} {v : V} (h : k ∈ kvs.map (·.1)) : (putK kvs k v).map (·.1) = kvs.map (·.1) := by
  have e : (valV kvs k).isSome = true := by
    cases z : valV kvs k with
    | some u => rfl
    | none => exact absurd h (valV_not z)
  rw [← valV_any] at e
  unfold putK
  rw [if_pos e, List.map_map]
  refine List.map_congr_left fun p _ => ?_
  show (if p.1 = k then (p.1, v) else p).1 = p.1
  split <;> rfl
section
variable {P : Program} {w : World} {K : PySem.W.Frag} {mg : Str → Option Value} {base : Heap} {f C : Addr} {fd : FuncData}
theorem scSat : FnScope ["assignment", "clause", "literal"] ["assignment", "clause"] (defScope sSat) := ⟨rfl, rfl, rfl, by decide +kernel, rfl, by decide +kernel, by decide +kernel⟩
abbrev clN : List Str := ["literals", "standing", "literal"]
theorem scCl : FnScope clN ["literals"] (defScope sCl) := ⟨rfl, rfl, rfl, by decide +kernel, rfl, by decide +kernel, by decide +kernel⟩
theorem ok_sat (F : FnP K "satisfies" sSat f fd) (T : Tx mg) : FnOk P w K mg base CX0 1 f fd ["assignment", "clause"] (spSat K) := by
  refine F.ok scSat (fun vs H Q E h => ?_) (fun cdv A outer s H vs Q E hr h => ?_)
  · obtain ⟨v, c, as, cl, rfl, _⟩ := h
    rfl
  · obtain ⟨v, c, as, cl, rfl, hv, hc, hz, q⟩ := h
    obtain ⟨r, rfl, hr1 | hr1⟩ := hv
    · refine ⟨_, PSs.nox (pss_cons (ps_for PassesOwn.never rfl (pi_tup (pv 1)) (pg_name (i := 2) scSat.nd rfl (Or.inl rfl))
        (pss_one (ps_if (pt_cmpR op_eq (pe_ix ix_list (pv 0) (pe_op op_sub (pe_callB call_abs (by rfl) T.abs (by decide +kernel) (pa_cons (pv 2) pa_nil)) pe_int) (fun _ _ => rfl)) (pe_ifExp (pt_cmpR op_gt (pv 2) pe_int (nomark _)) pe_int pe_int) (nomark _))
          (pss_one (ps_ret pe_bl)) pss_nil)))
        (pss_one (ps_ret pe_bl))), ?_⟩
      refine ⟨_, rfl, c, rfl, ⟨_, hc⟩, for_tup (K := K) (a := c) (xs := cl.map V.int) (fun i σ H2 => ∃ x : Option V, σ = [some (.ref r), some (.ref c), x] ∧ H2 = H ∧ satB as (cl.take i) = false)
        ⟨none, rfl, rfl, rfl⟩ (fun i σ H2 _ ⟨_, _, e, _⟩ => by rw [e]; exact hc) ?_ ?_⟩
      · rintro i y σ H2 hi ⟨x, rfl, rfl, hs⟩
        obtain ⟨z, rfl⟩ := int_item hi
        have hi2 : cl[i]? = some z := by
          rw [List.getElem?_map] at hi
          cases e : cl[i]? with
          | none =>
            rw [e] at hi
            cases hi
          | some u =>
            rw [e] at hi
            exact congrArg some (V.int.inj (Option.some.inj hi))
        obtain ⟨z0, z1⟩ := hz z (List.mem_of_getElem? hi2)
        have ej : (if z < 0 then -z else z) - 1 = ((z.natAbs - 1 : Nat) : Int) := by
          split <;> omega
        have e2 : satB as (cl.take (i + 1)) = decide (as.getD (z.natAbs - 1) 0 = if z > 0 then 1 else 0) := by
          unfold satB at hs ⊢
          rw [take_more hi2, List.any_append, hs]
          simp
        have hj : z.natAbs - 1 < as.length := by omega
        refine ⟨_, rfl, _, rfl, _, rfl, _, _, rfl, rfl, r, _, _, _, rfl, rfl, hr1, at_of ej (getD_of hj), _, rfl, _, _, rfl, rfl, _, rfl, ite2 (fun c1 => ?_) (fun c1 => ?_)⟩
        all_goals
          refine ⟨rfl, _, rfl, ite2 (fun c2 => ?_) (fun c2 => ?_)⟩
        · have c1 := of_decide_eq_true c1
          have c2 := V.int.inj (of_decide_eq_true c2)
          have e3 : satB as cl = true := sat_more hi2 (by rw [if_pos c1]; exact c2)
          show Q (.bl true) H2
          rw [← e3]
          exact q
        · have c1 := of_decide_eq_true c1
          refine ⟨_, rfl, rfl, ?_⟩
          rw [e2, if_pos c1]
          exact decide_eq_false fun e => c2 (decide_eq_true (congrArg V.int e))
        · have c1 : ¬ z > 0 := fun e => c1 (decide_eq_true e)
          have c2 := V.int.inj (of_decide_eq_true c2)
          have e3 : satB as cl = true := sat_more hi2 (by rw [if_neg c1]; exact c2)
          show Q (.bl true) H2
          rw [← e3]
          exact q
        · have c1 : ¬ z > 0 := fun e => c1 (decide_eq_true e)
          refine ⟨_, rfl, rfl, ?_⟩
          rw [e2, if_neg c1]
          exact decide_eq_false fun e => c2 (decide_eq_true (congrArg V.int e))
      · rintro σ H2 ⟨x, rfl, rfl, hs⟩
        rw [List.length_map, List.take_length] at hs
        show Q (.bl false) H2
        rw [← hs]
        exact q
    · refine ⟨_, PSs.nox (pss_cons (ps_for PassesOwn.never rfl (pi_tup (pv 1)) (pg_name (i := 2) scSat.nd rfl (Or.inl rfl))
        (pss_one (ps_if (pt_cmpR op_eq (pe_ix ix_tup (pv 0) (pe_op op_sub (pe_callB call_abs (by rfl) T.abs (by decide +kernel) (pa_cons (pv 2) pa_nil)) pe_int) (fun _ _ => rfl)) (pe_ifExp (pt_cmpR op_gt (pv 2) pe_int (nomark _)) pe_int pe_int) (nomark _))
          (pss_one (ps_ret pe_bl)) pss_nil)))
        (pss_one (ps_ret pe_bl))), ?_⟩
      refine ⟨_, rfl, c, rfl, ⟨_, hc⟩, for_tup (K := K) (a := c) (xs := cl.map V.int) (fun i σ H2 => ∃ x : Option V, σ = [some (.ref r), some (.ref c), x] ∧ H2 = H ∧ satB as (cl.take i) = false)
        ⟨none, rfl, rfl, rfl⟩ (fun i σ H2 _ ⟨_, _, e, _⟩ => by rw [e]; exact hc) ?_ ?_⟩
      · rintro i y σ H2 hi ⟨x, rfl, rfl, hs⟩
        obtain ⟨z, rfl⟩ := int_item hi
        have hi2 : cl[i]? = some z := by
          rw [List.getElem?_map] at hi
          cases e : cl[i]? with
          | none =>
            rw [e] at hi
            cases hi
          | some u =>
            rw [e] at hi
            exact congrArg some (V.int.inj (Option.some.inj hi))
        obtain ⟨z0, z1⟩ := hz z (List.mem_of_getElem? hi2)
        have ej : (if z < 0 then -z else z) - 1 = ((z.natAbs - 1 : Nat) : Int) := by
          split <;> omega
        have e2 : satB as (cl.take (i + 1)) = decide (as.getD (z.natAbs - 1) 0 = if z > 0 then 1 else 0) := by
          unfold satB at hs ⊢
          rw [take_more hi2, List.any_append, hs]
          simp
        have hj : z.natAbs - 1 < as.length := by omega
        refine ⟨_, rfl, _, rfl, _, rfl, _, _, rfl, rfl, r, _, _, _, rfl, rfl, hr1, at_of ej (getD_of hj), _, rfl, _, _, rfl, rfl, _, rfl, ite2 (fun c1 => ?_) (fun c1 => ?_)⟩
        all_goals
          refine ⟨rfl, _, rfl, ite2 (fun c2 => ?_) (fun c2 => ?_)⟩
        · have c1 := of_decide_eq_true c1
          have c2 := V.int.inj (of_decide_eq_true c2)
          have e3 : satB as cl = true := sat_more hi2 (by rw [if_pos c1]; exact c2)
          show Q (.bl true) H2
          rw [← e3]
          exact q
        · have c1 := of_decide_eq_true c1
          refine ⟨_, rfl, rfl, ?_⟩
          rw [e2, if_pos c1]
          exact decide_eq_false fun e => c2 (decide_eq_true (congrArg V.int e))
        · have c1 : ¬ z > 0 := fun e => c1 (decide_eq_true e)
          have c2 := V.int.inj (of_decide_eq_true c2)
          have e3 : satB as cl = true := sat_more hi2 (by rw [if_neg c1]; exact c2)
          show Q (.bl true) H2
          rw [← e3]
          exact q
        · have c1 : ¬ z > 0 := fun e => c1 (decide_eq_true e)
          refine ⟨_, rfl, rfl, ?_⟩
          rw [e2, if_neg c1]
          exact decide_eq_false fun e => c2 (decide_eq_true (congrArg V.int e))
      · rintro σ H2 ⟨x, rfl, rfl, hs⟩
        rw [List.length_map, List.take_length] at hs
        show Q (.bl false) H2
        rw [← hs]
        exact q
theorem ok_cl (F : FnP K "clause_of" sCl f fd) (T : Tx mg) : FnOk P w K mg base CX0 1 f fd ["literals"] (spCl K) := by
  refine F.ok scCl (fun vs H Q E h => ?_) (fun cdv A outer s H vs Q E hr h => ?_)
  · obtain ⟨v, ls, rfl, _⟩ := h
    rfl
  · obtain ⟨v, ls, rfl, hv, h0, hz, q1, q2⟩ := h
    have hu := hu_of hr
    obtain ⟨r, rfl, hr1 | hr1⟩ := hv
    · refine ⟨_, PSs.nox (pss_cons (ps_set (i := 1) scCl.nd rfl (Or.inl rfl) pe_dnewK)
        (pss_cons (ps_for PassesOwn.never rfl (pi_list (pv 0)) (pg_name (i := 2) scCl.nd rfl (Or.inl rfl))
          (pss_cons (ps_if (PW.pt (pw_or (pt_cmpR op_eq (pv 2) pe_int (nomark _)) (pw_or1 (pt_cmp (pc_din hu (pe_op op_xor (pv 2) pe_int) (pv 1)))))) (pss_one (ps_ret pe_non)) pss_nil)
          (pss_one (ps_if (pt_cmpR op_ne (pv 2) pe_int (nomark _)) (pss_one (ps_dput hu (pv 1) (pv 2) pe_bl rfl)) pss_nil))))
        (pss_one (ps_ret (pe_callTy call_tuple_of (by rfl) T.tuple (by decide +kernel) (pa_cons
          (pe_lc (own := [("literal", 2)]) (g := gName 2) (tt := tYes) rfl scCl.nd (pi_list (pe_callB cr_sortedI (by rfl) T.sorted (by decide +kernel) (pa_cons (pe_callTy (call_list_dK rfl) (by rfl) T.list (by decide +kernel) (pa_cons (pv 1) pa_nil)) pa_nil)))
            (blkOk_by (N := clN) (sc := defScope sCl) (by decide +kernel)) (fun _ _ _ _ _ => pg_name (i := 2) scCl.nd rfl (Or.inl rfl)) (fun _ _ _ _ _ => pts_nil)
            (fun _ _ _ _ _ => pe_ifExp (pt_int (pe_op op_and (pv 2) pe_int) (by intro _; rfl)) (pe_un un_neg (pe_op op_shr (pv 2) pe_int)) (pe_op op_shr (pv 2) pe_int))) pa_nil)))))), ?_⟩
      intro D nD
      have sD := same_new (u := .dK []) nD
      refine ⟨_, rfl, r, rfl, ⟨_, sD.seq hr1⟩, for_list (K := K) (a := r) (xs := ls.map V.int) (fun i σ H2 => ∃ (x : Option V) (kvs : List (Key × V)) (ks : List Int), σ = [some (.ref r), some (.ref D), x] ∧ Same H H2 ∧ H2 D = some (.dK kvs) ∧
          kvs.map (·.1) = ks.map Sum.inl ∧ ks.Nodup ∧ ks.length ≤ i ∧ (∀ l, l ∈ ks ↔ l ∈ ls.take i ∧ l ≠ 0) ∧ bad (ls.take i) = false)
        ⟨none, [], [], rfl, sD, upd_same, rfl, List.nodup_nil, Nat.le_refl _, fun l => by simp, rfl⟩ (fun i σ H2 _ ⟨_, _, _, _, s2, _⟩ => s2.seq hr1) ?_ ?_⟩
      · rintro i y σ H2 hi ⟨x, kvs, ks, rfl, s2, h2, ek, nd, kl, mem, nb⟩
        have hil : i < ls.length := by
          have z := (List.getElem?_eq_some_iff.mp hi).1
          rwa [List.length_map] at z
        obtain ⟨l, rfl, hl⟩ : ∃ l, y = V.int l ∧ ls[i]? = some l := by
          rw [List.getElem?_map] at hi
          cases e : ls[i]? with
          | none =>
            rw [e] at hi
            cases hi
          | some u =>
            rw [e] at hi
            exact ⟨u, (Option.some.inj hi).symm, rfl⟩
        have ml := List.mem_of_getElem? hl
        have l0 := h0 l ml
        have sub : ∀ a, a ∈ ls.take i → a ∈ ls := fun a m => List.mem_of_mem_take m
        refine ⟨_, rfl, rfl, _, rfl, ite2 (fun c1 => ?_) (fun c1 => ?_)⟩
        · have e1 : l = 1 := V.int.inj (of_decide_eq_true c1)
          exact q1 (bad_of (.inl (e1 ▸ ml))) _ s2
        · have ne1 : l ≠ 1 := fun e => c1 (decide_eq_true (congrArg V.int e))
          refine ⟨_, rfl, _, _, rfl, rfl, _, rfl, D, _, rfl, DGet.k (k := Sum.inl _) h2, _, rfl, ?_⟩
          rw [xor_one l0]
          have inK : ∀ a : Int, (Sum.inl a : Key) ∈ kvs.map (·.1) ↔ a ∈ ks := fun a => by
            rw [ek, List.mem_map]
            exact ⟨fun ⟨b, m, e⟩ => Sum.inl.inj e ▸ m, fun m => ⟨a, m, rfl⟩⟩
          cases e : valV kvs (Sum.inl (fl l) : Key) with
          | some u =>
            refine iteT ?_
            have m2 := (mem _).mp ((inK _).mp (valV_in e))
            exact q1 (bad_of (.inr ⟨l, ml, sub _ m2.1⟩)) _ s2
          | none =>
            refine iteF ?_
            have no : ¬ fl l ∈ ks := fun m => valV_not e ((inK _).mpr m)
            have nb2 : bad (ls.take (i + 1)) = false := by
              rw [take_more hl]
              exact bad_snoc (fun a m => h0 a (sub a m)) l0 nb ne1 fun m => no ((mem _).mpr ⟨m, fun z => ne1 (by unfold fl at z; omega)⟩)
            refine ⟨_, rfl, rfl, _, rfl, ite2 (fun c2 => ?_) (fun c2 => ?_)⟩
            · have ne0 : l ≠ 0 := fun e => by
                rw [e] at c2
                cases c2
              refine ⟨_, rfl, _, rfl, D, _, rfl, DPut.k (k := Sum.inl l) h2 ?_, ?_⟩
              · have z : kvs.length = ks.length := by
                  have z := congrArg List.length ek
                  rwa [List.length_map, List.length_map] at z
                rw [z]
                exact Nat.lt_of_le_of_lt (Nat.le_trans kl (Nat.le_trans (Nat.le_of_lt hil) hz)) (by decide)
              · by_cases hk : l ∈ ks
                · have hkk := (inK l).mpr hk
                  refine ⟨_, putK kvs (Sum.inl l) (.bl true), ks, rfl, fun b o z => by rw [upd_ne (ne_of_none z nD)]; exact s2 _ _ z, upd_same, ?_, nd, Nat.le_succ_of_le kl, fun a => ?_, nb2⟩
                  · rw [keys_put_old hkk, ek]
                  · rw [take_more hl, List.mem_append, List.mem_singleton, mem]
                    exact ⟨fun ⟨a1, a2⟩ => ⟨.inl a1, a2⟩, fun ⟨a1, a2⟩ => ⟨a1.elim id fun z => z ▸ ((mem l).mp hk).1, a2⟩⟩
                · have hkk : valV kvs (Sum.inl l : Key) = none := by
                    cases ev : valV kvs (Sum.inl l : Key) with
                    | none => rfl
                    | some u => exact absurd ((inK l).mp (valV_in ev)) hk
                  refine ⟨_, putK kvs (Sum.inl l) (.bl true), ks ++ [l], rfl, fun b o z => by rw [upd_ne (ne_of_none z nD)]; exact s2 _ _ z, upd_same, ?_, ?_, ?_, fun a => ?_, nb2⟩
                  · rw [putK_new _ hkk, List.map_append, ek, List.map_append]
                    rfl
                  · rw [List.nodup_append]
                    exact ⟨nd, (by rw [List.nodup_cons]; exact ⟨List.not_mem_nil, List.nodup_nil⟩), fun a ma b mb e => hk (by rw [List.mem_singleton.mp mb] at e; exact e ▸ ma)⟩
                  · rw [List.length_append]
                    exact Nat.succ_le_succ kl
                  · rw [take_more hl, List.mem_append, List.mem_append, List.mem_singleton, mem]
                    exact ⟨fun z => z.elim (fun ⟨a1, a2⟩ => ⟨.inl a1, a2⟩) fun z => ⟨.inr z, z ▸ ne0⟩, fun ⟨a1, a2⟩ => a1.elim (fun z => .inl ⟨z, a2⟩) .inr⟩
            · have e0 : l = 0 := by
                rcases Decidable.em (l = 0) with z | z
                · exact z
                · exact absurd (by rw [decide_eq_false (fun y => z (V.int.inj y))]; rfl) c2
              refine ⟨_, kvs, ks, rfl, s2, h2, ek, nd, Nat.le_succ_of_le kl, fun a => ?_, nb2⟩
              rw [take_more hl, List.mem_append, List.mem_singleton, mem]
              exact ⟨fun ⟨a1, a2⟩ => ⟨.inl a1, a2⟩, fun ⟨a1, a2⟩ => ⟨a1.elim id fun z => absurd (z.trans e0) a2, a2⟩⟩
      · rintro σ H2 ⟨x, kvs, ks, rfl, s2, h2, ek, nd, kl, mem, nb⟩
        rw [List.length_map, List.take_length] at mem nb
        refine ⟨_, rfl, D, _, rfl, h2, fun l1 n1 => ?_⟩
        have s3 := same_new (u := .lst (kvs.map fun kv => kV kv.1)) n1
        have keys : (kvs.map fun kv => kV kv.1) = ks.map V.int := by
          have z := congrArg (List.map kV) ek
          rw [List.map_map, List.map_map] at z
          exact z
        refine ⟨l1, ks, rfl, SqL.of (by rw [upd_same, keys]), fun ns l2 perm sorted n2 => ?_⟩
        have s4 := same_new (u := .lst (ns.map V.int)) n2
        have nds : ns.Nodup := perm.nodup_iff.mpr nd
        have asc : ns.Pairwise (· < ·) := (sorted.and nds).imp fun ⟨a, b⟩ => by omega
        have hm : ∀ l, l ∈ ns ↔ l ∈ ls ∧ 1 < l := fun l => by
          rw [perm.mem_iff, mem]
          have b1 := (not_bad nb).1
          exact ⟨fun ⟨m, z⟩ => ⟨m, by have := h0 l m; rcases Int.lt_trichotomy l 1 with t | t | t; omega; exact absurd (t ▸ m) b1; exact t⟩, fun ⟨m, z⟩ => ⟨m, by omega⟩⟩
        have isC := isCl_map h0 nb asc hm
        have nl : ns.length ≤ 1000 := by
          rw [perm.length_eq]
          rw [List.length_map] at kl
          omega
        refine ⟨l2, rfl, ⟨_, SqL.of upd_same⟩, fun E2 nE => ?_⟩
        refine lc_list (K := K) (a := l2) (xs := ns.map V.int) (fun i H5 => Same (upd (upd H2 l1 (.lst (kvs.map fun kv => kV kv.1))) l2 (.lst (ns.map V.int))) H5 ∧ H5 E2 = some (.lst (((ns.take i).map sgn).map V.int))) ⟨same_new nE, by rw [upd_same]; rfl⟩
          (fun i H5 _ ⟨s5, _⟩ => SqL.of (s5 _ _ upd_same)) ?_ ?_
        · rintro i y H5 hi ⟨s5, h5⟩
          obtain ⟨l, rfl, hl⟩ : ∃ l, y = V.int l ∧ ns[i]? = some l := by
            rw [List.getElem?_map] at hi
            cases e : ns[i]? with
            | none =>
              rw [e] at hi
              cases hi
            | some u =>
              rw [e] at hi
              exact ⟨u, (Option.some.inj hi).symm, rfl⟩
          have fin : ∃ acc, H5 E2 = some (.lst acc) ∧ acc.length < sizeLine ∧ Same (upd (upd H2 l1 (.lst (kvs.map fun kv => kV kv.1))) l2 (.lst (ns.map V.int))) (upd H5 E2 (.lst (acc ++ [.int (sgn l)]))) ∧
              (upd H5 E2 (.lst (acc ++ [.int (sgn l)]))) E2 = some (.lst (((ns.take (i + 1)).map sgn).map V.int)) := by
            refine ⟨_, h5, ?_, fun b o z => ?_, ?_⟩
            · rw [List.length_map, List.length_map, List.length_take]
              exact Nat.lt_of_le_of_lt (Nat.min_le_right _ _) (Nat.lt_of_le_of_lt nl (by decide))
            · rw [upd_ne (ne_of_none z nE)]
              exact s5 _ _ z
            · rw [upd_same, take_more hl, List.map_append, List.map_append]
              rfl
          refine ⟨rfl, yes_of ?_⟩
          refine ⟨_, rfl, _, _, rfl, rfl, _, rfl, ?_⟩
          rw [bitAnd_m1]
          by_cases e : l % 2 = 1
          · have es : sgn l = -(l / 2) := by
              unfold sgn
              rw [if_pos e]
            rw [es] at fin
            rw [e]
            refine iteT ?_
            exact ⟨_, rfl, _, _, rfl, rfl, (by show (0 : Int) ≤ 1; decide), _, rfl, fin⟩
          · have es : sgn l = l / 2 := by
              unfold sgn
              rw [if_neg e]
            have e0 : l % 2 = 0 := by omega
            rw [es] at fin
            rw [e0]
            refine iteF ?_
            exact ⟨_, rfl, _, _, rfl, rfl, (by show (0 : Int) ≤ 1; decide), fin⟩
        · rintro H5 ⟨s5, h5⟩
          rw [List.length_map, List.take_length] at h5
          refine ⟨E2, _, rfl, .inl ⟨SqL.of h5, fun t nt => ?_⟩⟩
          exact q2 nb _ t _ (s2.trans (s3.trans (s4.trans (s5.trans (same_new nt))))) isC upd_same
    · refine ⟨_, PSs.nox (pss_cons (ps_set (i := 1) scCl.nd rfl (Or.inl rfl) pe_dnewK)
        (pss_cons (ps_for PassesOwn.never rfl (pi_tup (pv 0)) (pg_name (i := 2) scCl.nd rfl (Or.inl rfl))
          (pss_cons (ps_if (PW.pt (pw_or (pt_cmpR op_eq (pv 2) pe_int (nomark _)) (pw_or1 (pt_cmp (pc_din hu (pe_op op_xor (pv 2) pe_int) (pv 1)))))) (pss_one (ps_ret pe_non)) pss_nil)
          (pss_one (ps_if (pt_cmpR op_ne (pv 2) pe_int (nomark _)) (pss_one (ps_dput hu (pv 1) (pv 2) pe_bl rfl)) pss_nil))))
        (pss_one (ps_ret (pe_callTy call_tuple_of (by rfl) T.tuple (by decide +kernel) (pa_cons
          (pe_lc (own := [("literal", 2)]) (g := gName 2) (tt := tYes) rfl scCl.nd (pi_list (pe_callB cr_sortedI (by rfl) T.sorted (by decide +kernel) (pa_cons (pe_callTy (call_list_dK rfl) (by rfl) T.list (by decide +kernel) (pa_cons (pv 1) pa_nil)) pa_nil)))
            (blkOk_by (N := clN) (sc := defScope sCl) (by decide +kernel)) (fun _ _ _ _ _ => pg_name (i := 2) scCl.nd rfl (Or.inl rfl)) (fun _ _ _ _ _ => pts_nil)
            (fun _ _ _ _ _ => pe_ifExp (pt_int (pe_op op_and (pv 2) pe_int) (by intro _; rfl)) (pe_un un_neg (pe_op op_shr (pv 2) pe_int)) (pe_op op_shr (pv 2) pe_int))) pa_nil)))))), ?_⟩
      intro D nD
      have sD := same_new (u := .dK []) nD
      refine ⟨_, rfl, r, rfl, ⟨_, seqT_same sD hr1⟩, for_tup (K := K) (a := r) (xs := ls.map V.int) (fun i σ H2 => ∃ (x : Option V) (kvs : List (Key × V)) (ks : List Int), σ = [some (.ref r), some (.ref D), x] ∧ Same H H2 ∧ H2 D = some (.dK kvs) ∧
          kvs.map (·.1) = ks.map Sum.inl ∧ ks.Nodup ∧ ks.length ≤ i ∧ (∀ l, l ∈ ks ↔ l ∈ ls.take i ∧ l ≠ 0) ∧ bad (ls.take i) = false)
        ⟨none, [], [], rfl, sD, upd_same, rfl, List.nodup_nil, Nat.le_refl _, fun l => by simp, rfl⟩ (fun i σ H2 _ ⟨_, _, _, _, s2, _⟩ => seqT_same s2 hr1) ?_ ?_⟩
      · rintro i y σ H2 hi ⟨x, kvs, ks, rfl, s2, h2, ek, nd, kl, mem, nb⟩
        have hil : i < ls.length := by
          have z := (List.getElem?_eq_some_iff.mp hi).1
          rwa [List.length_map] at z
        obtain ⟨l, rfl, hl⟩ : ∃ l, y = V.int l ∧ ls[i]? = some l := by
          rw [List.getElem?_map] at hi
          cases e : ls[i]? with
          | none =>
            rw [e] at hi
            cases hi
          | some u =>
            rw [e] at hi
            exact ⟨u, (Option.some.inj hi).symm, rfl⟩
        have ml := List.mem_of_getElem? hl
        have l0 := h0 l ml
        have sub : ∀ a, a ∈ ls.take i → a ∈ ls := fun a m => List.mem_of_mem_take m
        refine ⟨_, rfl, rfl, _, rfl, ite2 (fun c1 => ?_) (fun c1 => ?_)⟩
        · have e1 : l = 1 := V.int.inj (of_decide_eq_true c1)
          exact q1 (bad_of (.inl (e1 ▸ ml))) _ s2
        · have ne1 : l ≠ 1 := fun e => c1 (decide_eq_true (congrArg V.int e))
          refine ⟨_, rfl, _, _, rfl, rfl, _, rfl, D, _, rfl, DGet.k (k := Sum.inl _) h2, _, rfl, ?_⟩
          rw [xor_one l0]
          have inK : ∀ a : Int, (Sum.inl a : Key) ∈ kvs.map (·.1) ↔ a ∈ ks := fun a => by
            rw [ek, List.mem_map]
            exact ⟨fun ⟨b, m, e⟩ => Sum.inl.inj e ▸ m, fun m => ⟨a, m, rfl⟩⟩
          cases e : valV kvs (Sum.inl (fl l) : Key) with
          | some u =>
            refine iteT ?_
            have m2 := (mem _).mp ((inK _).mp (valV_in e))
            exact q1 (bad_of (.inr ⟨l, ml, sub _ m2.1⟩)) _ s2
          | none =>
            refine iteF ?_
            have no : ¬ fl l ∈ ks := fun m => valV_not e ((inK _).mpr m)
            have nb2 : bad (ls.take (i + 1)) = false := by
              rw [take_more hl]
              exact bad_snoc (fun a m => h0 a (sub a m)) l0 nb ne1 fun m => no ((mem _).mpr ⟨m, fun z => ne1 (by unfold fl at z; omega)⟩)
            refine ⟨_, rfl, rfl, _, rfl, ite2 (fun c2 => ?_) (fun c2 => ?_)⟩
            · have ne0 : l ≠ 0 := fun e => by
                rw [e] at c2
                cases c2
              refine ⟨_, rfl, _, rfl, D, _, rfl, DPut.k (k := Sum.inl l) h2 ?_, ?_⟩
              · have z : kvs.length = ks.length := by
                  have z := congrArg List.length ek
                  rwa [List.length_map, List.length_map] at z
                rw [z]
                exact Nat.lt_of_le_of_lt (Nat.le_trans kl (Nat.le_trans (Nat.le_of_lt hil) hz)) (by decide)
              · by_cases hk : l ∈ ks
                · have hkk := (inK l).mpr hk
                  refine ⟨_, putK kvs (Sum.inl l) (.bl true), ks, rfl, fun b o z => by rw [upd_ne (ne_of_none z nD)]; exact s2 _ _ z, upd_same, ?_, nd, Nat.le_succ_of_le kl, fun a => ?_, nb2⟩
                  · rw [keys_put_old hkk, ek]
                  · rw [take_more hl, List.mem_append, List.mem_singleton, mem]
                    exact ⟨fun ⟨a1, a2⟩ => ⟨.inl a1, a2⟩, fun ⟨a1, a2⟩ => ⟨a1.elim id fun z => z ▸ ((mem l).mp hk).1, a2⟩⟩
                · have hkk : valV kvs (Sum.inl l : Key) = none := by
                    cases ev : valV kvs (Sum.inl l : Key) with
                    | none => rfl
                    | some u => exact absurd ((inK l).mp (valV_in ev)) hk
                  refine ⟨_, putK kvs (Sum.inl l) (.bl true), ks ++ [l], rfl, fun b o z => by rw [upd_ne (ne_of_none z nD)]; exact s2 _ _ z, upd_same, ?_, ?_, ?_, fun a => ?_, nb2⟩
                  · rw [putK_new _ hkk, List.map_append, ek, List.map_append]
                    rfl
                  · rw [List.nodup_append]
                    exact ⟨nd, (by rw [List.nodup_cons]; exact ⟨List.not_mem_nil, List.nodup_nil⟩), fun a ma b mb e => hk (by rw [List.mem_singleton.mp mb] at e; exact e ▸ ma)⟩
                  · rw [List.length_append]
                    exact Nat.succ_le_succ kl
                  · rw [take_more hl, List.mem_append, List.mem_append, List.mem_singleton, mem]
                    exact ⟨fun z => z.elim (fun ⟨a1, a2⟩ => ⟨.inl a1, a2⟩) fun z => ⟨.inr z, z ▸ ne0⟩, fun ⟨a1, a2⟩ => a1.elim (fun z => .inl ⟨z, a2⟩) .inr⟩
            · have e0 : l = 0 := by
                rcases Decidable.em (l = 0) with z | z
                · exact z
                · exact absurd (by rw [decide_eq_false (fun y => z (V.int.inj y))]; rfl) c2
              refine ⟨_, kvs, ks, rfl, s2, h2, ek, nd, Nat.le_succ_of_le kl, fun a => ?_, nb2⟩
              rw [take_more hl, List.mem_append, List.mem_singleton, mem]
              exact ⟨fun ⟨a1, a2⟩ => ⟨.inl a1, a2⟩, fun ⟨a1, a2⟩ => ⟨a1.elim id fun z => absurd (z.trans e0) a2, a2⟩⟩
      · rintro σ H2 ⟨x, kvs, ks, rfl, s2, h2, ek, nd, kl, mem, nb⟩
        rw [List.length_map, List.take_length] at mem nb
        refine ⟨_, rfl, D, _, rfl, h2, fun l1 n1 => ?_⟩
        have s3 := same_new (u := .lst (kvs.map fun kv => kV kv.1)) n1
        have keys : (kvs.map fun kv => kV kv.1) = ks.map V.int := by
          have z := congrArg (List.map kV) ek
          rw [List.map_map, List.map_map] at z
          exact z
        refine ⟨l1, ks, rfl, SqL.of (by rw [upd_same, keys]), fun ns l2 perm sorted n2 => ?_⟩
        have s4 := same_new (u := .lst (ns.map V.int)) n2
        have nds : ns.Nodup := perm.nodup_iff.mpr nd
        have asc : ns.Pairwise (· < ·) := (sorted.and nds).imp fun ⟨a, b⟩ => by omega
        have hm : ∀ l, l ∈ ns ↔ l ∈ ls ∧ 1 < l := fun l => by
          rw [perm.mem_iff, mem]
          have b1 := (not_bad nb).1
          exact ⟨fun ⟨m, z⟩ => ⟨m, by have := h0 l m; rcases Int.lt_trichotomy l 1 with t | t | t; omega; exact absurd (t ▸ m) b1; exact t⟩, fun ⟨m, z⟩ => ⟨m, by omega⟩⟩
        have isC := isCl_map h0 nb asc hm
        have nl : ns.length ≤ 1000 := by
          rw [perm.length_eq]
          rw [List.length_map] at kl
          omega
        refine ⟨l2, rfl, ⟨_, SqL.of upd_same⟩, fun E2 nE => ?_⟩
        refine lc_list (K := K) (a := l2) (xs := ns.map V.int) (fun i H5 => Same (upd (upd H2 l1 (.lst (kvs.map fun kv => kV kv.1))) l2 (.lst (ns.map V.int))) H5 ∧ H5 E2 = some (.lst (((ns.take i).map sgn).map V.int))) ⟨same_new nE, by rw [upd_same]; rfl⟩
          (fun i H5 _ ⟨s5, _⟩ => SqL.of (s5 _ _ upd_same)) ?_ ?_
        · rintro i y H5 hi ⟨s5, h5⟩
          obtain ⟨l, rfl, hl⟩ : ∃ l, y = V.int l ∧ ns[i]? = some l := by
            rw [List.getElem?_map] at hi
            cases e : ns[i]? with
            | none =>
              rw [e] at hi
              cases hi
            | some u =>
              rw [e] at hi
              exact ⟨u, (Option.some.inj hi).symm, rfl⟩
          have fin : ∃ acc, H5 E2 = some (.lst acc) ∧ acc.length < sizeLine ∧ Same (upd (upd H2 l1 (.lst (kvs.map fun kv => kV kv.1))) l2 (.lst (ns.map V.int))) (upd H5 E2 (.lst (acc ++ [.int (sgn l)]))) ∧
              (upd H5 E2 (.lst (acc ++ [.int (sgn l)]))) E2 = some (.lst (((ns.take (i + 1)).map sgn).map V.int)) := by
            refine ⟨_, h5, ?_, fun b o z => ?_, ?_⟩
            · rw [List.length_map, List.length_map, List.length_take]
              exact Nat.lt_of_le_of_lt (Nat.min_le_right _ _) (Nat.lt_of_le_of_lt nl (by decide))
            · rw [upd_ne (ne_of_none z nE)]
              exact s5 _ _ z
            · rw [upd_same, take_more hl, List.map_append, List.map_append]
              rfl
          refine ⟨rfl, yes_of ?_⟩
          refine ⟨_, rfl, _, _, rfl, rfl, _, rfl, ?_⟩
          rw [bitAnd_m1]
          by_cases e : l % 2 = 1
          · have es : sgn l = -(l / 2) := by
              unfold sgn
              rw [if_pos e]
            rw [es] at fin
            rw [e]
            refine iteT ?_
            exact ⟨_, rfl, _, _, rfl, rfl, (by show (0 : Int) ≤ 1; decide), _, rfl, fin⟩
          · have es : sgn l = l / 2 := by
              unfold sgn
              rw [if_neg e]
            have e0 : l % 2 = 0 := by omega
            rw [es] at fin
            rw [e0]
            refine iteF ?_
            exact ⟨_, rfl, _, _, rfl, rfl, (by show (0 : Int) ≤ 1; decide), fin⟩
        · rintro H5 ⟨s5, h5⟩
          rw [List.length_map, List.take_length] at h5
          refine ⟨E2, _, rfl, .inl ⟨SqL.of h5, fun t nt => ?_⟩⟩
          exact q2 nb _ t _ (s2.trans (s3.trans (s4.trans (s5.trans (same_new nt))))) isC upd_same
end
end Cp
namespace Cq
open PySem PySem.Spec PyProof.Rows L2 Pen Dat Ki Fi Gr No Cm Cp
theorem clauses_snoc : ∀ (gs : List (Int × Int)) (n : Nat) (p : Int × Int), clauses n (gs ++ [p]) = clauses n gs ++ (three (2 * (((n + gs.length : Nat) : Int) + 1)) p).filterMap clM
  | [], n, p => by
    show (three (2 * ((n : Int) + 1)) p).filterMap clM ++ [] = _
    rw [List.append_nil]
    rfl
  | q :: r, n, p => by
    show (three (2 * ((n : Int) + 1)) q).filterMap clM ++ clauses (n + 1) (r ++ [p]) = _
    rw [clauses_snoc r (n + 1) p]
    have e : n + 1 + r.length = n + (q :: r).length := by
      rw [List.length_cons]
      omega
    rw [e, ← List.append_assoc]
    rfl
theorem clauses_take {gs : List (Int × Int)} (n : Nat) {i : Nat} {p : Int × Int} (h : gs[i]? = some p) : clauses n (gs.take (i + 1)) = clauses n (gs.take i) ++ (three (2 * (((n + i : Nat) : Int) + 1)) p).filterMap clM := by
  have hi := (List.getElem?_eq_some_iff.mp h).1
  rw [take_more h, clauses_snoc, List.length_take, Nat.min_eq_left (Nat.le_of_lt hi)]
theorem filterMap_take {α β : Type} {f : α → Option β} {xs : List α} {j : Nat} {x : α} (h : xs[j]? = some x) : (xs.take (j + 1)).filterMap f = (xs.take j).filterMap f ++ (f x).toList := by
  rw [take_more h, List.filterMap_append]
  cases e : f x with
  | none => rw [List.filterMap_cons_none e]; rfl
  | some y => rw [List.filterMap_cons_some e]; rfl
theorem three_ok {g : Int} {p : Int × Int} (hg : 0 ≤ g) (h1 : 0 ≤ p.1) (h2 : 0 ≤ p.2) : ∀ ls ∈ three g p, (∀ l ∈ ls, 0 ≤ l) ∧ ls.length ≤ 500 := by
  intro ls m
  unfold three at m
  simp only [List.mem_cons, List.not_mem_nil, or_false] at m
  rcases m with rfl | rfl | rfl
  all_goals
    refine ⟨fun l hl => ?_, by simp⟩
    simp only [List.mem_cons, List.not_mem_nil, or_false] at hl
    first
      | omega
      | (unfold fl at hl; omega)
def spCls (K : PySem.W.Frag) (C : Addr) : Sp := fun vs H Q _ => ∃ (p : Addr) (n : Nat) (gs : List (Int × Int)), vs = [.ref p] ∧ GraphAt K C H p n gs ∧ okG (2 * (n : Int) + 1) gs = true ∧ gs.length ≤ 200 ∧
  ∀ (H' : Hp) (t : Addr) (ws : List V), Same H H' → H' t = some (.tup ws) → All2 (Tu K H') ws (clauses n gs) → Q (.ref t) H'
section
variable {P : Program} {w : World} {K : PySem.W.Frag} {mg : Str → Option Value} {base : Heap} {f C : Addr} {fd : FuncData}
abbrev cqN : List Str := ["graph", "told", "gate", "one", "other", "literals", "clause"]
theorem scCls : FnScope cqN ["graph"] (defScope sCls) := ⟨rfl, rfl, rfl, by decide +kernel, rfl, by decide +kernel, by decide +kernel⟩
theorem three_len (g : Int) (p : Int × Int) (j : Nat) : (((three g p).take j).filterMap clM).length ≤ 3 := by
  refine Nat.le_trans (List.length_filterMap_le _ _) ?_
  rw [List.length_take]
  exact Nat.min_le_right _ _
theorem clauses_len : ∀ (gs : List (Int × Int)) (n : Nat), (clauses n gs).length ≤ 3 * gs.length
  | [], _ => Nat.zero_le _
  | p :: r, n => by
    show ((three (2 * ((n : Int) + 1)) p).filterMap clM ++ clauses (n + 1) r).length ≤ _
    rw [List.length_append, List.length_cons]
    have a := clauses_len r (n + 1)
    have b : ((three (2 * ((n : Int) + 1)) p).filterMap clM).length ≤ 3 := List.length_filterMap_le _ _
    omega
theorem ok_cls {fC : Addr} {fdC : FuncData} (F : FnP K "clauses_of" sCls f fd) (T : Gr.Tx K mg C) (FC : FnP K "clause_of" sCl fC fdC) (gC : mg "clause_of" = some (.ref fC)) (TC : Cp.Tx mg) : FnOk P w K mg base CX0 2 f fd ["graph"] (spCls K C) := by
  have GC : FnOk P w K mg base CX0 1 fC fdC ["literals"] (spCl K) := ok_cl FC TC
  have bC : Binds K fdC ["literals"] [] := FC.bindsN fun _ _ _ _ _ _ us hl => match us, hl with | [_], _ => rfl
  refine F.ok scCls (fun vs H Q E h => ?_) (fun cdv A outer s H vs Q E hr h => ?_)
  · obtain ⟨p, n, gs, rfl, _⟩ := h
    rfl
  · obtain ⟨p, n, gs, rfl, hG, hok, hz, q⟩ := h
    obtain ⟨dx, g, h1, hg2⟩ := hG
    obtain ⟨ps, hg, ha⟩ := id hg2
    refine ⟨_, PSs.nox (pss_cons (ps_set (i := 1) scCls.nd rfl (Or.inl rfl) (pe_lst pa_nil))
      (pss_cons (ps_set (i := 2) scCls.nd rfl (Or.inl rfl) (pe_op op_mul pe_int (pe_op op_add (pe_fld (pv 0) rfl) pe_int)))
      (pss_cons (ps_for PassesOwn.never rfl (pi_tup (pe_fld (pv 0) rfl)) (pg_tup rfl (pgs_cons (pg_name (i := 3) scCls.nd rfl (Or.inl rfl)) (pgs_cons (pg_name (i := 4) scCls.nd rfl (Or.inl rfl)) pgs_nil)))
        (pss_cons (ps_for PassesOwn.never rfl (pi_tup (pe_tup (pa_cons (pe_tup (pa_cons (pv 3) (pa_cons (pe_op op_xor (pv 2) pe_int) pa_nil))) (pa_cons (pe_tup (pa_cons (pv 4) (pa_cons (pe_op op_xor (pv 2) pe_int) pa_nil)))
            (pa_cons (pe_tup (pa_cons (pe_op op_xor (pv 3) pe_int) (pa_cons (pe_op op_xor (pv 4) pe_int) (pa_cons (pv 2) pa_nil)))) pa_nil))))) (pg_name (i := 5) scCls.nd rfl (Or.inl rfl))
          (pss_cons (ps_set (i := 6) scCls.nd rfl (Or.inl rfl) (pe_call GC hr (by rfl) gC FC.kp bC .nil pass0 (pa_cons (pv 5) pa_nil)))
          (pss_one (ps_if (pt_cmpR op_notN (pv 6) pe_non (nomark _)) (pss_one (ps_expr (pe_bm PySem.F.plainAttrs_list PySem.F.slot_list_append PySem.F.type_list_append mt_append (pv 1) (pa_cons (pv 6) pa_nil)))) pss_nil))))
        (pss_one (ps_aug (i := 2) scCls.nd rfl (Or.inl rfl) pe_int ip_add))))
      (pss_one (ps_ret (pe_callTy call_tuple_of (by rfl) T.ki.tuple (by decide +kernel) (pa_cons (pv 1) pa_nil))))))), ?_⟩
    refine ⟨(by show 0 ≤ sizeLine; decide), fun D nD => ?_⟩
    have sD := same_new (u := .lst []) nD
    refine ⟨_, rfl, p, C, dx, _, _, rfl, sD _ _ h1, T.cl, T.nL, flds_L _ _, _, _, rfl, rfl, _, _, rfl, rfl, .inl ⟨by decide, by decide⟩, ?_⟩
    refine ⟨_, rfl, p, C, dx, _, _, rfl, sD _ _ h1, T.cl, T.nG, flds_G _ _, g, rfl, ⟨_, seqT_same sD hg⟩, for_tup (K := K) (a := g) (xs := ps)
      (fun i σ H2 => ∃ y3 y4 y5 y6 : Option V, σ = [some (.ref p), some (.ref D), some (.int (2 * ((n : Int) + 1) + 2 * i)), y3, y4, y5, y6] ∧ Same H H2 ∧ ∃ ws, H2 D = some (.lst ws) ∧ All2 (Tu K H2) ws (clauses n (gs.take i)))
      ⟨none, none, none, none, by show _ = _; rw [show 2 * ((n : Int) + 1) + 2 * ((0 : Nat) : Int) = 2 * ((n : Int) + 1) by omega]; rfl, sD, [], upd_same, .nil⟩ (fun i σ H2 _ ⟨_, _, _, _, _, s2, _⟩ => seqT_same s2 hg) ?_ ?_⟩
    · rintro i y σ H2 hi ⟨y3, y4, y5, y6, rfl, s2, ws, h2, a2⟩
      obtain ⟨z, hz1, hz2⟩ := ha.get hi
      obtain ⟨q0, rfl, hq⟩ := hz2
      have hil : i < gs.length := (List.getElem?_eq_some_iff.mp hz1).1
      obtain ⟨⟨a0, a1⟩, b0, b1⟩ := okG_at hok hz1
      have g0 : 0 ≤ 2 * ((n : Int) + 1) + 2 * (i : Int) := by omega
      have ge : 2 * ((n : Int) + 1) + 2 * (i : Int) = 2 * (((n + i : Nat) : Int) + 1) := by omega
      refine ⟨q0, _, rfl, seqT_same s2 hq, rfl, _, _, rfl, _, _, rfl, rfl, ?_⟩
      refine ⟨_, rfl, _, rfl, _, _, rfl, rfl, (by show 2 ≤ sizeLine; decide), fun t1 n1 => ?_⟩
      refine ⟨_, rfl, _, rfl, _, _, rfl, rfl, (by show 2 ≤ sizeLine; decide), fun t2 n2 => ?_⟩
      refine ⟨_, rfl, _, _, rfl, rfl, _, rfl, _, _, rfl, rfl, _, rfl, (by show 3 ≤ sizeLine; decide), fun t3 n3 => ⟨(by show 3 ≤ sizeLine; decide), fun t4 n4 => ?_⟩⟩
      have w1 := same_new (u := .tup [V.int z.1, V.int (Builtin.bitXor (2 * ((n : Int) + 1) + 2 * (i : Int)) 1)]) n1
      have w2 := same_new (u := .tup [V.int z.2, V.int (Builtin.bitXor (2 * ((n : Int) + 1) + 2 * (i : Int)) 1)]) n2
      have w3 := same_new (u := .tup [V.int (Builtin.bitXor z.1 1), V.int (Builtin.bitXor z.2 1), V.int (2 * ((n : Int) + 1) + 2 * (i : Int))]) n3
      have w4 := same_new (u := .tup [V.ref t1, V.ref t2, V.ref t3]) n4
      have eg : Builtin.bitXor (2 * ((n : Int) + 1) + 2 * (i : Int)) 1 = 2 * (((n + i : Nat) : Int) + 1) + 1 := by
        rw [xor_one g0]
        unfold fl
        omega
      have at4 := upd_same (H := upd (upd (upd H2 t1 (.tup [V.int z.1, V.int (Builtin.bitXor (2 * ((n : Int) + 1) + 2 * (i : Int)) 1)])) t2 (.tup [V.int z.2, V.int (Builtin.bitXor (2 * ((n : Int) + 1) + 2 * (i : Int)) 1)])) t3 (.tup [V.int (Builtin.bitXor z.1 1), V.int (Builtin.bitXor z.2 1), V.int (2 * ((n : Int) + 1) + 2 * (i : Int))])) (a := t4) (o := .tup [V.ref t1, V.ref t2, V.ref t3])
      have rows : All2 (Tu K (upd (upd (upd (upd H2 t1 (.tup [V.int z.1, V.int (Builtin.bitXor (2 * ((n : Int) + 1) + 2 * (i : Int)) 1)])) t2 (.tup [V.int z.2, V.int (Builtin.bitXor (2 * ((n : Int) + 1) + 2 * (i : Int)) 1)])) t3 (.tup [V.int (Builtin.bitXor z.1 1), V.int (Builtin.bitXor z.2 1), V.int (2 * ((n : Int) + 1) + 2 * (i : Int))])) t4 (.tup [V.ref t1, V.ref t2, V.ref t3])))
          [V.ref t1, V.ref t2, V.ref t3] (three (2 * (((n + i : Nat) : Int) + 1)) z) := by
        refine .cons ⟨t1, rfl, ?_⟩ (.cons ⟨t2, rfl, ?_⟩ (.cons ⟨t3, rfl, ?_⟩ .nil))
        · rw [w4 _ _ (w3 _ _ (w2 _ _ upd_same))]
          show some (HO.tup [V.int z.1, V.int (Builtin.bitXor (2 * ((n : Int) + 1) + 2 * (i : Int)) 1)]) = _
          rw [eg]
          rfl
        · rw [w4 _ _ (w3 _ _ upd_same)]
          show some (HO.tup [V.int z.2, V.int (Builtin.bitXor (2 * ((n : Int) + 1) + 2 * (i : Int)) 1)]) = _
          rw [eg]
          rfl
        · rw [w4 _ _ upd_same]
          show some (HO.tup [V.int (Builtin.bitXor z.1 1), V.int (Builtin.bitXor z.2 1), V.int (2 * ((n : Int) + 1) + 2 * (i : Int))]) = _
          rw [xor_one a0, xor_one b0, ge]
          rfl
      have sT := w1.trans (w2.trans (w3.trans w4))
      have hD := sT _ _ h2
      have aD := a2.imp fun _ _ h => Tu.firm (Firm.of sT) h
      have s2T := s2.trans sT
      generalize upd (upd (upd (upd H2 t1 (.tup [V.int z.1, V.int (Builtin.bitXor (2 * ((n : Int) + 1) + 2 * (i : Int)) 1)])) t2 (.tup [V.int z.2, V.int (Builtin.bitXor (2 * ((n : Int) + 1) + 2 * (i : Int)) 1)])) t3 (.tup [V.int (Builtin.bitXor z.1 1), V.int (Builtin.bitXor z.2 1), V.int (2 * ((n : Int) + 1) + 2 * (i : Int))])) t4 (.tup [V.ref t1, V.ref t2, V.ref t3]) = HT at at4 rows hD aD s2T ⊢
      have okrows := three_ok (g := 2 * (((n + i : Nat) : Int) + 1)) (p := z) (by omega) a0 b0
      refine ⟨t4, rfl, ⟨_, SqT.of at4⟩, for_tup (K := K) (a := t4) (xs := [V.ref t1, V.ref t2, V.ref t3])
        (fun j σ H3 => ∃ x5 x6 : Option V, σ = [some (.ref p), some (.ref D), some (.int (2 * ((n : Int) + 1) + 2 * i)), some (.int z.1), some (.int z.2), x5, x6] ∧ Same H H3 ∧ Firm HT H3 ∧ ∃ us, H3 D = some (.lst us) ∧
          All2 (Tu K H3) us (clauses n (gs.take i) ++ ((three (2 * (((n + i : Nat) : Int) + 1)) z).take j).filterMap clM))
        ⟨_, _, rfl, s2T, Firm.refl _, ws, hD, by show All2 _ _ (_ ++ []); rw [List.append_nil]; exact aD⟩ (fun j σ H3 _ ⟨_, _, _, _, f3, _⟩ => firm_seq f3 (SqT.of at4)) ?_ ?_⟩
      · rintro j v σ H3 hj ⟨x5, x6, rfl, s3, f3, us, h3, a3⟩
        obtain ⟨row, hrow, hv⟩ := rows.get hj
        obtain ⟨tq, rfl, htq⟩ := hv
        obtain ⟨r0, r1⟩ := okrows row (List.mem_of_getElem? hrow)
        have ulen : us.length < sizeLine := by
          rw [a3.len, List.length_append]
          have e1 := clauses_len (gs.take i) n
          have e2 := three_len (2 * (((n + i : Nat) : Int) + 1)) z j
          have e3 : (gs.take i).length ≤ 200 := by
            rw [List.length_take]
            exact Nat.le_trans (Nat.min_le_right _ _) hz
          exact Nat.lt_of_lt_of_le (by omega : (clauses n (gs.take i)).length + (((three (2 * (((n + i : Nat) : Int) + 1)) z).take j).filterMap clM).length < 1000) (by decide)
        refine ⟨_, rfl, _, row, rfl, ⟨tq, rfl, .inr (SqT.of (f3 _ _ htq rfl))⟩, r0, r1, fun hb H4 s4 => ?_, fun hb H4 t cl s4 hcl ht => ?_⟩
        · refine ⟨_, rfl, rfl, _, rfl, iteF ?_⟩
          refine ⟨_, _, rfl, s3.trans s4, f3.trans (Firm.of s4), us, s4 _ _ h3, ?_⟩
          have ec : clM row = none := by
            unfold clM
            rw [hb]
            rfl
          rw [filterMap_take hrow, ec]
          show All2 _ _ (_ ++ (_ ++ []))
          rw [List.append_nil]
          exact a3.imp fun _ _ h => Tu.firm (Firm.of s4) h
        · refine ⟨_, rfl, rfl, _, rfl, iteT ?_⟩
          have h4 := s4 _ _ h3
          have fD : Firm H4 (upd H4 D (.lst (us ++ [.ref t]))) := Firm.upd h4 rfl
          refine ⟨_, rfl, .inl ⟨rfl, _, SqL.of h4⟩, _, rfl, D, _, _, rfl, rfl, h4, ulen, ?_⟩
          refine ⟨_, _, rfl, fun b o e => ?_, (f3.trans (Firm.of s4)).trans fD, us ++ [.ref t], upd_same, ?_⟩
          · rw [upd_ne (ne_of_none e nD)]
            exact s4 _ _ (s3 _ _ e)
          · have ec : clM row = some cl := by
              unfold clM
              rw [hb, isCl_uniq hcl (isCl_clL r0 hb)]
              rfl
            rw [filterMap_take hrow, ec, ← List.append_assoc]
            exact (a3.imp fun _ _ h => Tu.firm fD (Tu.firm (Firm.of s4) h)).snoc ⟨t, rfl, fD _ _ ht rfl⟩
      · rintro σ H3 ⟨x5, x6, rfl, s3, f3, us, h3, a3⟩
        refine ⟨_, rfl, _, _, rfl, rfl, some (.int z.1), some (.int z.2), x5, x6, ?_, s3, us, h3, ?_⟩
        · show _ = _
          rw [show 2 * ((n : Int) + 1) + 2 * (((i + 1 : Nat)) : Int) = 2 * ((n : Int) + 1) + 2 * (i : Int) + 2 by omega]
          rfl
        · rw [clauses_take n hz1]
          exact a3
    · rintro σ H2 ⟨y3, y4, y5, y6, rfl, s2, ws, h2, a2⟩
      rw [ha.len, List.take_length] at a2
      refine ⟨_, rfl, D, _, rfl, .inl ⟨SqL.of h2, fun t nt => ?_⟩⟩
      have st := same_new (u := .tup ws) nt
      exact q _ t ws (s2.trans st) upd_same (a2.imp fun _ _ h => Tu.firm (Firm.of st) h)
end
end Cq
namespace En
open PySem PySem.Spec PyProof.Rows L2
/-! ## enumerate(t), t a tuple -/
set_option maxHeartbeats 1000000 in
theorem new_meets {v : Value} {o : Obj} {G : Heap → Prop} (B : Begins v o G) :
    Meets (Builtin.«enumerate.__new__» ⟨[.type "enumerate", v], []⟩) (fun _ R s => G s.heap ∧ R (.ok (.ret (.ref (s.heap.push o).objs.size))) { s with heap := (s.heap.push o).push { cls := .type "enumerate", data := .fields #[.none, .bool false, .ref s.heap.objs.size, rawInt 0, .none, .none] } }) :=
  .of_wp fun prog w A R s h => by
    obtain ⟨hp, gs, dr, tk, os⟩ := s
    obtain ⟨hG, hR⟩ := h
    have sub := sub_enumerate
    have it : ∀ {A' : Around} {E Q : Value → Shared → Prop}, Q (.ref hp.objs.size) ⟨hp.push o, gs, dr, tk, os⟩ → wpAny (model prog w) A' (pyIter v) Q E ⟨hp, gs, dr, tk, os⟩ := fun q => B.iter prog w _ _ ⟨hp, gs, dr, tk, os⟩ _ hG q
    wp_walk using it
    refine wpAny_stack_any fun st => wpAny_pure ?_
    split
    · rename_i cl _ _ _ _ _
      cases (cl == Value.type "enumerate")
      all_goals
        wp_walk using it
        exact ⟨_, rfl, hR⟩
    · wp_walk using it
      exact ⟨_, rfl, hR⟩
section
variable {prog : Program} {w : World} {A : Around} {E : Value → Shared → Prop} {s : Shared}
theorem call_new {v : Value} {o : Obj} {G : Heap → Prop} {Q : Value → Shared → Prop} (B : Begins v o G) (hG : G s.heap)
    (h : ∀ h', IsEnum h' (s.heap.objs.size + 1) s.heap.objs.size 0 .none → h'.get? s.heap.objs.size = some o → (∀ b u, s.heap.get? b = some u → h'.get? b = some u) → Q (.ref (s.heap.objs.size + 1)) { s with heap := h' }) :
    wpAny (model prog w) A (call (.type "enumerate") [v]) Q E s := by
  refine callType_new F.called_enumerate (by decide) (F.typeCall_enumerate_1 _) (F.newCall_enumerate_1 _) (fun obj => F.args_object_init_2 obj _) F.entry_enumerate_new (new_meets B) ⟨hG, ?_⟩
  have size : (s.heap.push o).objs.size = s.heap.objs.size + 1 := Heap.size_push ..
  show _ ∧ _
  rw [size]
  have made : IsEnum ((s.heap.push o).push { cls := .type "enumerate", data := .fields #[.none, .bool false, .ref s.heap.objs.size, rawInt 0, .none, .none] }) (s.heap.objs.size + 1) s.heap.objs.size 0 .none := by
    have z := Heap.get?_push_size (s.heap.push o) (o := { cls := .type "enumerate", data := .fields #[.none, .bool false, .ref s.heap.objs.size, rawInt 0, .none, .none] }) rfl
    rw [size] at z
    exact z
  exact ⟨⟨_, made, rfl⟩, h _ made (Heap.get?_push_of_some _ (Heap.get?_push_size _ B.free)) fun b u q => Heap.get?_push_of_some _ (Heap.get?_push_of_some _ q)⟩
end
section
variable {prog : Program} {w : World} {A : Around} {E : Value → Shared → Prop} {s : Shared}
theorem next_end {e it a : Addr} {i : Nat} {c : Int} {items : Array Value} {old : Value} {Q : Option Value → Shared → Prop} (calm : A.handled = none) (he : IsEnum s.heap e it c old) (hi : s.heap.IsTupleIter it a i) (ht : s.heap.IsTuple a items) (none_left : items[i]? = none)
    (h : ∀ h', Heap.ExtBut it s.heap h' → Q none { s with heap := h' }) : wpAny (model prog w) A (pyNext (.ref e)) Q E s := by
  have ty : s.TypeIs (.ref e) "enumerate" := ⟨_, he, rfl⟩
  unfold pyNext
  refine wpAny_bind (wpAny_attempt (wpAny_callSpecial?_slot (name := Str.ofString "__next__") ty F.slot_enumerate_next (wpAny_call_entry F.slot_enumerate_next ty F.entry_enumerate_next ?_ (F.args_enumerate_next_1 _))))
  show wpAny _ _ (field (.ref e) 2 >>= _) _ _ _
  refine wpAny_bind (wpAny_field he rfl (x := .ref it) rfl (wpAny_bind (wpAny_nextOf_tuple_end calm hi ht none_left fun h' x ext stop => ?_)))
  obtain ⟨o, ho, hc⟩ := stop
  exact wpAny_bind (wpAny_isInstance (T := "StopIteration") (b := true) ⟨o, ho, hc⟩ isSubtype_stop (wpAny_pure (h _ ext)))
end
/-- the tuple at a, each item in a new pair with its place -/
def Iet (K : PySem.W.Frag) (a : Addr) : It :=
  ⟨fun i H => ∃ (xs : List V) (x : V), SqT K H a xs ∧ xs[i]? = some x, fun i H v H' => ∃ T x, v = .ref T ∧ H T = none ∧ H' = upd H T (.tup [.int (i : Nat), x]) ∧ ∀ xs, SqT K H a xs → xs[i]? = some x, fun i H => ∃ xs : List V, SqT K H a xs ∧ xs.length ≤ i⟩
theorem apart {s : Shared} {e it a : Addr} {c : Int} {old : Value} {i : Nat} {items : Array Value} (he : IsEnum s.heap e it c old) (hi : s.heap.IsTupleIter it a i) (ht : s.heap.IsTuple a items) : e ≠ it ∧ e ≠ a ∧ a ≠ it := by
  obtain ⟨oi, h1, h2, _⟩ := hi
  obtain ⟨ot, h3, h4, _⟩ := ht
  refine ⟨fun z => ?_, fun z => ?_, fun z => ?_⟩
  · rw [← z, he] at h1
    rw [← Option.some.inj h1] at h2
    exact absurd (Value.type.inj h2) (by decide)
  · rw [← z, he] at h3
    rw [← Option.some.inj h3] at h4
    exact absurd (Value.type.inj h4) (by decide)
  · rw [z, h1] at h3
    rw [← Option.some.inj h3, h2] at h4
    exact absurd (Value.type.inj h4) (by decide)
theorem turn {P : Program} {w : World} {K : PySem.W.Frag} {es : List Expr} {k : Nat} {pos : Pos} (a e it : Addr) :
    Turn P w K (.Tuple es k pos) (Iet K a) [e, it] e (fun i h => (∃ old, IsEnum h e it ((i : Nat) : Int) old) ∧ h.IsTupleIter it a i) where
  mem := List.mem_cons_self
  obj := fun i h st b hb => by
    obtain ⟨⟨old, he⟩, ⟨o, ho, hc, hd⟩⟩ := st
    rcases List.mem_cons.mp hb with rfl | hb
    · exact ⟨_, he, fun v q => nomatch q⟩
    · rw [List.mem_singleton.mp hb]
      exact ⟨o, ho, fun v q => by rw [hd] at q; cases q⟩
  keep := fun i h h' st kp => by
    obtain ⟨⟨old, he⟩, hi⟩ := st
    exact ⟨⟨old, kp e List.mem_cons_self _ he⟩, hi.at fun o q => kp it (List.mem_cons_of_mem _ (List.mem_singleton.mpr rfl)) o q⟩
  item := by
    rintro X rfl rfl rfl calm i pins s σ H E I fp ⟨⟨old, he⟩, hi⟩ ⟨xs, x, hq, hx⟩
    obtain ⟨its, rv, ht, _⟩ := I.tuple hq
    obtain ⟨u, hu, ru⟩ := rv.get hx
    obtain ⟨n1, n2, n3⟩ := apart he hi ht
    have le : e < s.heap.objs.size := Heap.lt_size he
    have li : it < s.heap.objs.size := by
      obtain ⟨_, q, _⟩ := hi
      exact Heap.lt_size q
    have hlt : i < its.toArray.size := by
      have z := (List.getElem?_eq_some_iff.mp hu).1
      simpa using z
    refine wpAny_pyNext_enum_itemD (Draws.tuple (A := X.A.in1) (I.ok.hd calm) it a n3 its.toArray) he ⟨hi, ht⟩ hlt n1 (by simp [n1, n2]) fun y h' tk hy out st made _ same => ?_
    have ey : y = u := by
      have z : its[i]? = some y := by simpa using hy
      rw [hu] at z
      exact (Option.some.inj z).symm
    subst ey
    refine ⟨_, rfl, wpAny_letOwnedTupleGo_enum (s := { s with heap := h', toks := tk + 1 }) out fun h2 he2 sb => ?_⟩
    have made2 : h2.get? s.heap.objs.size = some { cls := .type "tuple", data := .seq #[.int i tk, y] } := (sb.2 _ (Nat.ne_of_gt le)).trans made
    have new : ObjOk X.prog X.w (upd H s.heap.objs.size (.tup [.int (i : Nat), x])) h2 s.heap.objs.size (.tup [.int (i : Nat), x]) := ⟨by show 2 ≤ sizeLine; decide, [.int i tk, y], .cons ⟨_, rfl⟩ (.cons ru .nil), ⟨_, made2, rfl, _, rfl⟩⟩
    have I1 := I.turnedNew (t' := tk + 1) (ch := [e, it]) (fun b ob hb q => (sb.2 b fun z => hb (by simp [z])).trans (same b ob (fun z => hb (by simp [z])) (fun z => hb (by simp [z])) q)) fp (Nat.le_refl _) new
    refine ⟨.ref s.heap.objs.size, _, I1, rfl, ⟨_, x, rfl, I.hok.fresh (Nat.le_refl _), rfl, fun ys hy => by rw [I.tuple_inj hy hq]; exact hx⟩, ⟨⟨y, ?_⟩, st.1.at fun o q => (sb.2 it n1.symm).trans q⟩, fun b hb => ?_⟩
    · rw [show ((i + 1 : Nat) : Int) = (i : Int) + 1 by omega]
      exact he2
    · have hb2 : b < s.heap.objs.size := by
        rcases List.mem_cons.mp hb with rfl | hb
        · exact le
        · rw [List.mem_singleton.mp hb]
          exact li
      rw [upd_ne (Nat.ne_of_lt hb2)]
      exact (fp b hb).1
  done := by
    rintro X rfl rfl rfl calm i pins s σ H E I fp ⟨⟨old, he⟩, hi⟩ ⟨xs, hq, hx⟩
    obtain ⟨its, rv, ht, _⟩ := I.tuple hq
    obtain ⟨n1, n2, n3⟩ := apart he hi ht
    obtain ⟨f0, f1, f2, f3, f4, f5⟩ := fp it (List.mem_cons_of_mem _ (List.mem_singleton.mpr rfl))
    have hl := rv.length
    refine next_end (I.ok.hd calm) he hi ht (by simp; omega) fun h' eb => ⟨rfl, I.turned (t' := s.toks) (fun b o hb q => eb b o hb q) f0 f1 f3 f4 f5⟩
  self := fun A i s Q E st h => let ⟨⟨_, he⟩, _⟩ := st; wpAny_pyIter_enum he h
/-- for i, x in enumerate(t) -/
def iEnT (K : PySem.W.Frag) (ta : TA) : TI := fun σ H R => ta σ H fun vs H1 => ∃ a xs, vs = [.ref a] ∧ SqT K H1 a xs ∧ R (Iet K a) H1
theorem pi_enT {X : Cx} {e : Expr} {ta : TA} {p pos tpos : Pos} {es : List Expr} {k : Nat} (hg : Gl X "enumerate") (hm : X.mg "enumerate" = none) (ha : PA X [e] ta) (hs : starEach [e] X.env = [(false, eval e X.env)] := by rfl) :
    PI X (.Tuple es k tpos) (.Call (.Name "enumerate" p) [e] [] pos) (iEnT X.K ta) := by
  refine ⟨fun pins s σ H R I h => Call_ (ld_blt I hg hm boot_enumerate (PyProof.Rows.callWith_type1 (thn (ha.run pos pins s σ H _ I h) fun us s1 z => ?_) hs rfl))⟩
  obtain ⟨vs, H1, I1, r1, a, xs, rfl, hq, q⟩ := z
  obtain ⟨u, rfl, ru⟩ := vals1 r1
  have hu : u = Value.ref a := ru
  subst hu
  obtain ⟨its, rv, ht, _⟩ := I1.tuple hq
  refine call_new (begins_tuple a its.toArray) ht fun h' he hit same => wpAny_pyIter_enum he ?_
  have I2 := I1.kept (t' := s1.toks) same
  refine ⟨s1.heap.objs.size + 1, [s1.heap.objs.size + 1, s1.heap.objs.size], _, _, H1, rfl, I2, turn a (s1.heap.objs.size + 1) s1.heap.objs.size, ⟨⟨.none, he⟩, ⟨_, hit, rfl, rfl⟩⟩, fun b hb => ?_, q⟩
  have low : s1.heap.objs.size ≤ b := by
    rcases List.mem_cons.mp hb with rfl | hb
    · exact Nat.le_succ _
    · rw [List.mem_singleton.mp hb]
      exact Nat.le_refl _
  exact I1.fpOk low (I1.hok.fresh low)
theorem for_enT {K : PySem.W.Frag} {a : Addr} {xs : List V} {g : TG} {tb : TS} {D : Ends} {σ : L2.St} {H : Hp} (Pv : Nat → L2.St → Hp → Prop) (h0 : Pv 0 σ H) (hl : ∀ i σ H, i ≤ xs.length → Pv i σ H → SqT K H a xs)
    (hs : ∀ i x σ H T, xs[i]? = some x → Pv i σ H → H T = none → g (.ref T) σ (upd H T (.tup [.int (i : Nat), x])) fun σ2 H2 => tb { D with nx := Pv (i + 1), ct := Pv (i + 1), bk := D.nx } σ2 H2) (hd : ∀ σ H, Pv xs.length σ H → D.nx σ H) :
    ∃ W : Nat → Nat → L2.St → Hp → Prop, (∃ m, W 0 m σ H) ∧ ∀ i m σ H, W i m σ H →
      ((Iet K a).stop i H ∧ D.nx σ H) ∨ ((Iet K a).go i H ∧ ∃ N : L2.St → Hp → Prop, (∀ σ' H', N σ' H' → ∃ m', m' < m ∧ W (i + 1) m' σ' H') ∧ ∀ x H', (Iet K a).yld i H x H' → g x σ H' fun σ2 H2 => tb { D with nx := N, ct := N, bk := D.nx } σ2 H2) := by
  refine ⟨fun i m σ H => m = xs.length - i ∧ i ≤ xs.length ∧ Pv i σ H, ⟨_, rfl, Nat.zero_le _, h0⟩, ?_⟩
  rintro i m σ H ⟨rfl, hi, p⟩
  have q := hl i σ H hi p
  rcases Nat.lt_or_ge i xs.length with lt | ge
  · have hx := List.getElem?_eq_getElem lt
    refine .inr ⟨⟨xs, _, q, hx⟩, Pv (i + 1), fun σ' H' p' => ⟨xs.length - (i + 1), by omega, rfl, lt, p'⟩, ?_⟩
    rintro x H' ⟨T, y, rfl, nT, rfl, hy⟩
    exact hs i y σ H T (hy xs q) p nT
  · have e : i = xs.length := Nat.le_antisymm hi ge
    exact .inl ⟨⟨xs, q, ge⟩, hd σ H (e ▸ p)⟩
end En
namespace Lc
open PySem PySem.Spec PyProof.Rows L2 Pen Dat Ki Fi Gr No Lf Cm Cp Cq Rp
/-! ## The law's own clauses -/
structure Tx (mg : Str → Option Value) : Prop where
  lf : Lf.Tx mg
  cp : Cp.Tx mg
  dict : mg "dict" = none
  enumerate : mg "enumerate" = none
def spFlip : Sp := fun vs H Q _ => ∃ l : Int, vs = [.int l] ∧ Q (.int (fl l)) H
def spLits : Sp := fun vs H Q _ => ∃ (p c : Addr) (k : Nat) (n m : Int), vs = [.ref p, .int n, .int m] ∧ PenC H p c k ∧ k ≤ 100000000000 ∧ 0 < n ∧ n ≤ 1000 ∧ 0 ≤ m ∧ m ≤ 100 ∧
  ∀ (H' : Hp) (t : Addr) (ls : List Int), PenC H' p c (k + m.toNat) → But p H H' → ls.length = m.toNat → (∀ l ∈ ls, 0 ≤ l ∧ l < 2 * n) → H' t = some (.tup (ls.map V.int)) → Q (.ref t) H'
def spOwn (K : PySem.W.Frag) : Sp := fun vs H Q _ => ∃ (r : Addr) (ls : List Int), vs = [.ref r] ∧ SqT K H r (ls.map V.int) ∧ (∀ l ∈ ls, 0 ≤ l) ∧ ls.length ≤ 500 ∧ (bad ls = true → ∀ H', Same H H' → Q .non H') ∧
  (bad ls = false → ∀ (H' : Hp) (t : Addr) (cl : List Int), Same H H' → IsCl ls cl → H' t = some (.tup (cl.map V.int)) → Q (.ref t) H')
def spKeeps (K : PySem.W.Frag) : Sp := fun vs H Q _ => ∃ (r c : Addr) (as cl : List Int), vs = [.ref r, .ref c] ∧ SqT K H r (as.map V.int) ∧ SqT K H c (cl.map V.int) ∧ (∀ z ∈ cl, z ≠ 0 ∧ z.natAbs ≤ as.length) ∧ cl.length ≤ 1000 ∧ ∀ H', Same H H' → Q (.bl (satB as cl)) H'
theorem int_at {xs : List Int} {i : Nat} {y : V} (h : (xs.map V.int)[i]? = some y) : ∃ z, y = V.int z ∧ xs[i]? = some z := by
  rw [List.getElem?_map] at h
  cases e : xs[i]? with
  | none =>
    rw [e] at h
    cases h
  | some u =>
    rw [e] at h
    exact ⟨u, (Option.some.inj h).symm, rfl⟩
theorem inV_int (z : Int) (xs : List Int) : inV (.int z) (xs.map V.int) = decide (z ∈ xs) := by
  unfold inV
  rw [List.any_map]
  cases e : decide (z ∈ xs) with
  | true =>
    rw [List.any_eq_true]
    exact ⟨z, of_decide_eq_true e, by show eqV (.int z) (.int z) = true; simp [eqV]⟩
  | false =>
    rw [List.any_eq_false]
    intro u m q
    have : u = z := by
      have q' : eqV (.int u) (.int z) = true := q
      simpa [eqV] using q'
    exact of_decide_eq_false e (this ▸ m)
theorem flat_ints (xs : List Int) : (xs.map V.int).all flatV = true := by
  rw [List.all_map, List.all_eq_true]
  intro z _
  rfl
/-- a list of so many ones, beside the empty one -/
theorem ones_ne (n : Nat) : (!PyData.eqv (.list ((List.replicate n (1 : Int)).map .int)) (.list [])) = decide (0 < n) := by
  cases n with
  | zero => rfl
  | succ n =>
    rw [decide_eq_true (Nat.succ_pos n)]
    rfl
theorem ones_shaped (n : Nat) : SeqAt.shaped (.list ((List.replicate n (1 : Int)).map .int)) = true := (shaped_ints fun z hz => by
  rw [(List.mem_replicate.mp hz).2]
  exact ⟨by decide, by decide⟩).1
/-- how many of the first i items fit -/
def cnt {α : Type} (p : α → Bool) (xs : List α) : Nat := (xs.filter p).length
theorem cnt_more {α : Type} (p : α → Bool) {xs : List α} {i : Nat} {x : α} (h : xs[i]? = some x) : cnt p (xs.take (i + 1)) = cnt p (xs.take i) + if p x = true then 1 else 0 := by
  unfold cnt
  rw [take_more h, List.filter_append, List.length_append]
  by_cases e : p x = true
  · rw [List.filter_cons_of_pos e, if_pos e]
    rfl
  · rw [List.filter_cons_of_neg e, if_neg e]
    rfl
theorem cnt_pos {α : Type} (p : α → Bool) (xs : List α) : decide (0 < cnt p xs) = xs.any p := by
  unfold cnt
  cases e : xs.any p with
  | true =>
    obtain ⟨x, m, h⟩ := List.any_eq_true.mp e
    exact decide_eq_true (List.length_pos_of_mem (List.mem_filter.mpr ⟨m, h⟩))
  | false =>
    refine decide_eq_false fun h => ?_
    obtain ⟨x, hx⟩ := List.exists_mem_of_length_pos h
    obtain ⟨m, q⟩ := List.mem_filter.mp hx
    exact absurd (List.any_eq_true.mpr ⟨x, m, q⟩) (by rw [e]; decide)
theorem cnt_le {α : Type} (p : α → Bool) (xs : List α) : cnt p xs ≤ xs.length := List.length_filter_le _ _
theorem merge_keys : ∀ (ls : List Int) (acc : List (Key × V)) (ks : List Int), acc.map (·.1) = ks.map Sum.inl → ks.Nodup →
    ∃ ks' : List Int, (mergeK acc (ls.map fun l => ((Sum.inl l : Key), V.int 1))).map (·.1) = ks'.map Sum.inl ∧ ks'.Nodup ∧ (∀ l, l ∈ ks' ↔ l ∈ ks ∨ l ∈ ls) ∧ ks'.length ≤ ks.length + ls.length
  | [], acc, ks, e, nd => ⟨ks, e, nd, fun l => by simp, Nat.le_refl _⟩
  | l :: r, acc, ks, e, nd => by
    have inK : (Sum.inl l : Key) ∈ acc.map (·.1) ↔ l ∈ ks := by
      rw [e, List.mem_map]
      exact ⟨fun ⟨b, m, q⟩ => Sum.inl.inj q ▸ m, fun m => ⟨l, m, rfl⟩⟩
    by_cases hk : l ∈ ks
    · obtain ⟨ks', a, b, c, d⟩ := merge_keys r (putK acc (Sum.inl l) (.int 1)) ks (by rw [keys_put_old (inK.mpr hk), e]) nd
      refine ⟨ks', a, b, fun z => ?_, by rw [List.length_cons]; omega⟩
      rw [c, List.mem_cons]
      exact ⟨fun h => h.elim .inl fun h => .inr (.inr h), fun h => h.elim .inl fun h => h.elim (fun h => .inl (h ▸ hk)) .inr⟩
    · have hkk : valV acc (Sum.inl l : Key) = none := by
        cases ev : valV acc (Sum.inl l : Key) with
        | none => rfl
        | some u => exact absurd (inK.mp (valV_in ev)) hk
      obtain ⟨ks', a, b, c, d⟩ := merge_keys r (putK acc (Sum.inl l) (.int 1)) (ks ++ [l]) (by rw [putK_new _ hkk, List.map_append, e, List.map_append]; rfl)
        (by rw [List.nodup_append]; exact ⟨nd, (by rw [List.nodup_cons]; exact ⟨List.not_mem_nil, List.nodup_nil⟩), fun x mx y my q => hk (by rw [List.mem_singleton.mp my] at q; exact q ▸ mx)⟩)
      refine ⟨ks', a, b, fun z => ?_, by rw [List.length_append] at d; rw [List.length_cons]; simp at d; omega⟩
      rw [c, List.mem_append, List.mem_singleton, List.mem_cons]
      exact ⟨fun h => h.elim (fun h => h.elim .inl fun h => .inr (.inl h)) fun h => .inr (.inr h), fun h => h.elim (fun h => .inl (.inl h)) fun h => h.elim (fun h => .inl (.inr h)) .inr⟩
/-- a list of pairs (l, 1) -/
def One1 (H : Hp) (v : V) (l : Int) : Prop := ∃ t, v = .ref t ∧ H t = some (.tup [.int l, .int 1])
theorem ones_pairs {K : PySem.W.Frag} {H : Hp} : ∀ {ys : List V} {ls : List Int}, All2 (One1 H) ys ls → ∃ ps : List Addr, ys = ps.map V.ref ∧ Paired (fun p (kv : Key × V) => SqT K H p [kV kv.1, kv.2]) ps (ls.map fun l => ((Sum.inl l : Key), V.int 1))
  | _, _, .nil => ⟨[], rfl, .nil⟩
  | _, _, .cons h t => by
    obtain ⟨q, rfl, hq⟩ := h
    obtain ⟨ps, rfl, hp⟩ := ones_pairs (K := K) t
    exact ⟨q :: ps, rfl, .cons (SqT.of hq) hp⟩
section
variable {P : Program} {w : World} {K : PySem.W.Frag} {mg : Str → Option Value} {base : Heap} {f C : Addr} {fd : FuncData}
abbrev liN : List Str := ["_law_pen_here", "_law_nodes", "_law_many", "_law_k"]
abbrev owN : List Str := ["_law_literals_here", "_law_nodes", "_law_literal", "_law_one", "_law_node"]
abbrev keN : List Str := ["_law_bits", "_law_clause", "_law_one"]
theorem scFlip : FnScope ["_law_literal"] ["_law_literal"] (defScope sFlip) := ⟨rfl, rfl, rfl, by decide +kernel, rfl, by decide +kernel, by decide +kernel⟩
theorem scLits : FnScope liN ["_law_pen_here", "_law_nodes", "_law_many"] (defScope sLits) := ⟨rfl, rfl, rfl, by decide +kernel, rfl, by decide +kernel, by decide +kernel⟩
theorem scOwn : FnScope owN ["_law_literals_here"] (defScope sOwn) := ⟨rfl, rfl, rfl, by decide +kernel, rfl, by decide +kernel, by decide +kernel⟩
theorem scKeeps : FnScope keN ["_law_bits", "_law_clause"] (defScope sKeeps) := ⟨rfl, rfl, rfl, by decide +kernel, rfl, by decide +kernel, by decide +kernel⟩
theorem ok_flip (F : FnP K "_law_flip" sFlip f fd) (T : Tx mg) : FnOk P w K mg base CX0 1 f fd ["_law_literal"] spFlip := by
  refine F.ok scFlip (fun vs H Q E h => ?_) (fun cdv A outer s H vs Q E hr h => ?_)
  · obtain ⟨l, rfl, _⟩ := h
    rfl
  · obtain ⟨l, rfl, q⟩ := h
    refine ⟨_, PSs.nox (pss_one (ps_ret (pe_op op_sub (pe_op op_add (pv 0) pe_int) (pe_op op_mul pe_int (pe_op op_mod (pe_callTy call_int1 (by rfl) T.lf.pen.int (by decide +kernel) (pa_cons (pv 0) pa_nil)) pe_int))))), ?_⟩
    exact ⟨_, rfl, _, _, rfl, rfl, _, rfl, .inl ⟨_, rfl, _, _, rfl, rfl, (by show (0 : Int) < 2; decide), _, _, rfl, rfl, .inl ⟨by decide, by decide⟩, _, _, rfl, rfl, q⟩⟩
theorem ok_lits {fD : Addr} {fdD : FuncData} (F : FnP K "_law_literals" sLits f fd) (T : Tx mg) (FD : FnP K "_law_draw" sDraw fD fdD) (gD : mg "_law_draw" = some (.ref fD)) : FnOk P w K mg base CX0 2 f fd ["_law_pen_here", "_law_nodes", "_law_many"] spLits := by
  have GD : FnOk P w K mg base CX0 1 fD fdD ["_law_pen_here", "_law_many"] spDraw := ok_draw FD T.lf.pen
  have bD : Binds K fdD ["_law_pen_here", "_law_many"] [] := FD.bindsN fun _ _ _ _ _ _ us hl => match us, hl with | [_, _], _ => rfl
  refine F.ok scLits (fun vs H Q E h => ?_) (fun cdv A outer s H vs Q E hr h => ?_)
  · obtain ⟨p, c, k, n, m, rfl, _⟩ := h
    rfl
  · obtain ⟨p, c, k, n, m, rfl, hP, hk, n0, n1, m0, m1, q⟩ := h
    refine ⟨_, PSs.nox (pss_one (ps_ret (pe_callTy call_tuple_of (by rfl) T.cp.tuple (by decide +kernel) (pa_cons
      (pe_lc (own := [("_law_k", 3)]) (g := gName 3) (tt := tYes) rfl scLits.nd (pi_range1 (by rfl) T.lf.range (pa_cons (pv 2) pa_nil)) (blkOk_by (N := liN) (sc := defScope sLits) (by decide +kernel)) (fun _ _ _ _ _ => pg_name (i := 3) scLits.nd rfl (Or.inl rfl)) (fun _ _ _ _ _ => pts_nil)
        (fun _ _ _ _ _ => pe_call GD hr (by rfl) gD FD.kp bD .nil pass0 (pa_cons (pv 0) (pa_cons (pe_op op_mul pe_int (pv 1)) pa_nil)))) pa_nil)))), ?_⟩
    refine ⟨_, rfl, m, rfl, by omega, by omega, fun D nD => ?_⟩
    obtain ⟨Dp_, Dc⟩ := hP.free nD
    have sD := same_new (u := .lst []) nD
    refine lc_range (lo := 0) (n := m.toNat) (fun i H2 => PenC H2 p c (k + i) ∧ (∀ b o, H b = some o → b ≠ p → H2 b = some o) ∧ ∃ ls : List Int, H2 D = some (.lst (ls.map V.int)) ∧ ls.length = i ∧ ∀ l ∈ ls, 0 ≤ l ∧ l < 2 * n)
      ⟨hP.same sD, fun b o e _ => sD b o e, [], upd_same, rfl, fun l z => by cases z⟩ ?_ ?_
    · rintro i H2 hi ⟨P2, k2, ls, h2, hl, hz⟩
      refine ⟨rfl, yes_of ?_⟩
      refine ⟨_, rfl, _, rfl, _, _, rfl, rfl, .inl ⟨by decide, by decide⟩, p, c, k + i, 2 * n, rfl, P2, by omega, by omega, by omega, fun r H3 r0 r1 P3 B3 => ?_⟩
      refine ⟨_, B3 _ _ h2 Dp_, ?_, P3.upd Dp_ Dc, fun b o e ne => ?_, ls ++ [r], ?_, ?_, fun l ml => ?_⟩
      · rw [List.length_map, hl]
        exact Nat.lt_trans hi (Nat.lt_of_lt_of_le (by omega : m.toNat < 200) (by decide))
      · rw [upd_ne (ne_of_none e nD)]
        exact B3 _ _ (k2 b o e ne) ne
      · rw [upd_same, List.map_append]
        rfl
      · rw [List.length_append, hl]
        rfl
      · rcases List.mem_append.mp ml with q | q
        · exact hz l q
        · rw [List.mem_singleton.mp q]
          exact ⟨r0, r1⟩
    · rintro H2 ⟨P2, k2, ls, h2, hl, hz⟩
      refine ⟨D, _, rfl, .inl ⟨SqL.of h2, fun t nt => ?_⟩⟩
      have st := same_new (u := .tup (ls.map V.int)) nt
      exact q _ t ls (P2.same st) (fun b o e ne => st _ _ (k2 b o e ne)) hl hz upd_same
theorem ok_keeps (F : FnP K "_law_keeps" sKeeps f fd) (T : Tx mg) : FnOk P w K mg base CX0 1 f fd ["_law_bits", "_law_clause"] (spKeeps K) := by
  refine F.ok scKeeps (fun vs H Q E h => ?_) (fun cdv A outer s H vs Q E hr h => ?_)
  · obtain ⟨r, c, as, cl, rfl, _⟩ := h
    rfl
  · obtain ⟨r, c, as, cl, rfl, hr1, hc, hz, hl, q⟩ := h
    refine ⟨_, PSs.nox (pss_one (ps_ret (pe_cmpR (op_neD hr.units)
      (pe_lc (own := [("_law_one", 2)]) (g := gName 2) rfl scKeeps.nd (pi_tup (pv 1)) (blkOk_by (N := keN) (sc := defScope sKeeps) (by decide +kernel)) (fun _ _ _ _ _ => pg_name (i := 2) scKeeps.nd rfl (Or.inl rfl))
        (fun _ _ _ _ _ => pts_one (pt_cmpR op_eq (pe_ix (r := rIxT K) (by exact ix_tup) (pv 0) (pe_op op_sub (pe_callB call_abs (by rfl) T.lf.abs (by decide +kernel) (pa_cons (pv 2) pa_nil)) pe_int) (fun _ _ => rfl))
          (pe_callTy call_int1 (by rfl) T.lf.pen.int (by decide +kernel) (pa_cons (pe_cmpR op_gt (pv 2) pe_int (nomark _)) pa_nil)) (nomark _)))
        (fun _ _ _ _ _ => pe_int)) (pe_lst pa_nil) (nomark _)))), ?_⟩
    let fit : Int → Bool := fun z => decide (as.getD (z.natAbs - 1) 0 = if z > 0 then 1 else 0)
    refine ⟨_, rfl, c, rfl, ⟨_, hc⟩, fun D nD => ?_⟩
    refine lc_tup (K := K) (a := c) (xs := cl.map V.int) (fun i H2 => Same H H2 ∧ H2 D = some (.lst ((List.replicate (cnt fit (cl.take i)) (1 : Int)).map V.int))) ⟨same_new nD, by rw [upd_same]; rfl⟩ (fun i H2 _ ⟨s2, _⟩ => seqT_same s2 hc) ?_ ?_
    · rintro i y H2 hi ⟨s2, h2⟩
      obtain ⟨z, rfl, hz1⟩ := int_at hi
      obtain ⟨z0, z1⟩ := hz z (List.mem_of_getElem? hz1)
      have ej : (if z < 0 then -z else z) - 1 = ((z.natAbs - 1 : Nat) : Int) := by
        split <;> omega
      have more := cnt_more fit hz1
      refine ⟨rfl, ?_⟩
      refine ⟨_, rfl, _, rfl, _, rfl, _, _, rfl, rfl, r, _, _, _, rfl, rfl, seqT_same s2 hr1, at_of ej (getD_of (by omega)), _, rfl, _, _, rfl, rfl, .inr ⟨_, rfl, ?_⟩⟩
      refine ⟨rfl, _, rfl, ?_⟩
      have ek : decide (V.int (as.getD (z.natAbs - 1) 0) = V.int (if decide (z > 0) = true then 1 else 0)) = fit z := by
        have e1 : (if decide (z > 0) = true then (1 : Int) else 0) = if z > 0 then 1 else 0 := by
          by_cases c1 : z > 0
          · rw [if_pos (decide_eq_true c1), if_pos c1]
          · rw [if_neg (fun e => c1 (of_decide_eq_true e)), if_neg c1]
        rw [e1]
        show decide _ = decide _
        refine decide_eq_decide.mpr ⟨fun e => V.int.inj e, fun e => congrArg V.int e⟩
      rw [ek]
      by_cases c1 : fit z = true
      · rw [if_pos c1] at more
        rw [c1]
        refine iteT ⟨_, h2, ?_, fun b o e => ?_, ?_⟩
        · rw [List.length_map, List.length_replicate]
          have e1 := cnt_le fit (cl.take i)
          rw [List.length_take] at e1
          exact Nat.lt_of_lt_of_le (by omega : cnt fit (cl.take i) < 1001) (by decide)
        · rw [upd_ne (ne_of_none e nD)]
          exact s2 _ _ e
        · rw [upd_same, more, List.replicate_succ', List.map_append]
          rfl
      · rw [if_neg c1] at more
        rw [Bool.eq_false_iff.mpr c1]
        refine iteF ⟨s2, ?_⟩
        rw [more]
        exact h2
    · rintro H2 ⟨s2, h2⟩
      rw [List.length_map, List.take_length] at h2
      refine ⟨(by show 0 ≤ sizeLine; decide), fun l nl => ?_⟩
      have sl := same_new (u := .lst []) nl
      refine ⟨_, _, .lst (SqL.of (sl _ _ h2)) (ints_dp _), .lst (SqL.of upd_same) .nil, ones_shaped _, (by rfl), ?_⟩
      rw [ones_ne, cnt_pos]
      exact q _ (s2.trans sl)
theorem half_nd {ls ks : List Int} (h0 : ∀ l ∈ ls, 0 ≤ l) (nb : bad ls = false) (nd : ks.Nodup) (hm : ∀ l ∈ ks, l ∈ ls) : ((ks.filter fun l => decide (l > 1)).map fun l => l / 2).Nodup := by
  obtain ⟨b1, b2⟩ := not_bad nb
  have f : (ks.filter fun l => decide (l > 1)).Nodup := nd.filter _
  rw [List.Nodup, List.pairwise_map]
  refine f.imp_of_mem fun {a b} ma mb ne e => ?_
  obtain ⟨ma, a1⟩ := List.mem_filter.mp ma
  obtain ⟨mb, c1⟩ := List.mem_filter.mp mb
  have a1 := of_decide_eq_true a1
  have c1 := of_decide_eq_true c1
  have z : b = fl a := by
    unfold fl
    omega
  exact b2 a (hm a ma) (z ▸ hm b mb)
theorem ok_own {fF : Addr} {fdF : FuncData} (F : FnP K "_law_own_clause" sOwn f fd) (T : Tx mg) (FF : FnP K "_law_flip" sFlip fF fdF) (gF : mg "_law_flip" = some (.ref fF)) : FnOk P w K mg base CX0 2 f fd ["_law_literals_here"] (spOwn K) := by
  have GF : FnOk P w K mg base CX0 1 fF fdF ["_law_literal"] spFlip := ok_flip FF T
  have bF : Binds K fdF ["_law_literal"] [] := FF.bindsN fun _ _ _ _ _ _ us hl => match us, hl with | [_], _ => rfl
  refine F.ok scOwn (fun vs H Q E h => ?_) (fun cdv A outer s H vs Q E hr h => ?_)
  · obtain ⟨r, ls, rfl, _⟩ := h
    rfl
  · obtain ⟨r, ls, rfl, hr1, h0, hz, q1, q2⟩ := h
    refine ⟨_, PSs.nox (pss_cons (ps_if (PW.pt (pw_or (pt_cmpR op_in_seq pe_int (pv 0) (by rfl)) (pw_or1 (pt_cmpR (op_neD hr.units)
        (pe_lc (own := [("_law_literal", 2)]) (g := gName 2) rfl scOwn.nd (pi_tup (pv 0)) (blkOk_by (N := owN) (sc := defScope sOwn) (by decide +kernel)) (fun _ _ _ _ _ => pg_name (i := 2) scOwn.nd rfl (Or.inl rfl))
          (fun _ _ _ _ _ => pts_one (pt_cmpR (r := rIn K false) (by exact op_in_seq) (pe_call GF hr (by rfl) gF FF.kp bF .nil pass0 (pa_cons (pv 2) pa_nil)) (pv 0) (by rfl))) (fun _ _ _ _ _ => pe_int)) (pe_lst pa_nil) (nomark _))))) (pss_one (ps_ret pe_non)) pss_nil)
      (pss_cons (ps_set (i := 1) scOwn.nd rfl (Or.inl rfl) (pe_callB cr_sortedI (by rfl) T.cp.sorted (by decide +kernel) (pa_cons
        (pe_lc (own := [("_law_literal", 2)]) (g := gName 2) rfl scOwn.nd (pi_list (pe_callTy (call_list_dK rfl) (by rfl) T.cp.list (by decide +kernel) (pa_cons (pe_callTy (call_dictP rfl) (by rfl) T.dict (by decide +kernel) (pa_cons
            (pe_lc (own := [("_law_one", 3)]) (g := gName 3) (tt := tYes) rfl scOwn.nd (pi_tup (pv 0)) (blkOk_by (N := owN) (sc := defScope sOwn) (by decide +kernel)) (fun _ _ _ _ _ => pg_name (i := 3) scOwn.nd rfl (Or.inl rfl)) (fun _ _ _ _ _ => pts_nil) (fun _ _ _ _ _ => pe_tup (pa_cons (pv 3) (pa_cons pe_int pa_nil)))) pa_nil)) pa_nil)))
          (blkOk_by (N := owN) (sc := defScope sOwn) (by decide +kernel)) (fun _ _ _ _ _ => pg_name (i := 2) scOwn.nd rfl (Or.inl rfl)) (fun _ _ _ _ _ => pts_one (pt_cmpR op_gt (pv 2) pe_int (nomark _))) (fun _ _ _ _ _ => pe_op op_fdiv (pv 2) pe_int)) pa_nil)))
      (pss_one (ps_ret (pe_callTy call_tuple_of (by rfl) T.cp.tuple (by decide +kernel) (pa_cons
        (pe_lc (own := [("_law_node", 4)]) (g := gName 4) (tt := tYes) rfl scOwn.nd (pi_list (pv 1)) (blkOk_by (N := owN) (sc := defScope sOwn) (by decide +kernel)) (fun _ _ _ _ _ => pg_name (i := 4) scOwn.nd rfl (Or.inl rfl)) (fun _ _ _ _ _ => pts_nil)
          (fun _ _ _ _ _ => pe_ifExp (pt_cmpR (r := rIn K false) (by exact op_in_seq) (pe_op op_mul pe_int (pv 4)) (pv 0) (by rfl)) (pv 4) (pe_un un_neg (pv 4)))) pa_nil)))))), ?_⟩
    refine ⟨_, rfl, r, _, rfl, .inr hr1, rfl, flat_ints ls, _, rfl, ?_⟩
    show if inV (.int 1) (ls.map V.int) = true then _ else _
    rw [inV_int]
    refine ite2 (fun c1 => q1 (bad_of (.inl (of_decide_eq_true c1))) H (Same.refl _)) (fun c1 => ?_)
    have n1 : ¬ (1 : Int) ∈ ls := fun m => c1 (decide_eq_true m)
    let op : Int → Bool := fun l => decide (fl l ∈ ls)
    refine ⟨_, rfl, r, rfl, ⟨_, hr1⟩, fun D nD => ?_⟩
    refine lc_tup (K := K) (a := r) (xs := ls.map V.int) (fun i H2 => Same H H2 ∧ H2 D = some (.lst ((List.replicate (cnt op (ls.take i)) (1 : Int)).map V.int))) ⟨same_new nD, by rw [upd_same]; rfl⟩ (fun i H2 _ ⟨s2, _⟩ => seqT_same s2 hr1) ?_ ?_
    · rintro i y H2 hi ⟨s2, h2⟩
      obtain ⟨l, rfl, hl⟩ := int_at hi
      have more := cnt_more op hl
      refine ⟨rfl, ?_⟩
      refine ⟨_, rfl, l, rfl, _, rfl, r, _, rfl, .inr (seqT_same s2 hr1), rfl, flat_ints ls, _, rfl, ?_⟩
      show if inV (.int (fl l)) (ls.map V.int) = true then _ else _
      rw [inV_int]
      by_cases c2 : op l = true
      · rw [if_pos c2] at more
        rw [show decide (fl l ∈ ls) = true from c2]
        refine iteT ⟨_, h2, ?_, fun b o e => ?_, ?_⟩
        · rw [List.length_map, List.length_replicate]
          have e1 := cnt_le op (ls.take i)
          rw [List.length_take] at e1
          exact Nat.lt_of_lt_of_le (by omega : cnt op (ls.take i) < 1001) (by decide)
        · rw [upd_ne (ne_of_none e nD)]
          exact s2 _ _ e
        · rw [upd_same, more, List.replicate_succ', List.map_append]
          rfl
      · rw [if_neg c2] at more
        rw [show decide (fl l ∈ ls) = false from Bool.eq_false_iff.mpr c2]
        refine iteF ⟨s2, ?_⟩
        rw [more]
        exact h2
    · rintro H2 ⟨s2, h2⟩
      rw [List.length_map, List.take_length] at h2
      refine ⟨(by show 0 ≤ sizeLine; decide), fun l3 n3 => ?_⟩
      have sl := same_new (u := .lst []) n3
      refine ⟨_, _, .lst (SqL.of (sl _ _ h2)) (ints_dp _), .lst (SqL.of upd_same) .nil, ones_shaped _, (by rfl), _, rfl, ?_⟩
      rw [ones_ne, cnt_pos]
      have s3 := s2.trans sl
      generalize upd H2 l3 (.lst []) = H3 at s3 ⊢
      cases eb : ls.any op with
      | true =>
        refine iteT ?_
        obtain ⟨l, ml, e⟩ := List.any_eq_true.mp eb
        exact q1 (bad_of (.inr ⟨l, ml, of_decide_eq_true e⟩)) _ s3
      | false =>
        refine iteF ?_
        have nb : bad ls = false := by
          cases e : bad ls with
          | false => rfl
          | true =>
            rcases is_bad e with m | ⟨l, m, m2⟩
            · exact absurd m n1
            · exact absurd (List.any_eq_true.mpr ⟨l, m, decide_eq_true m2⟩) (by rw [eb]; decide)
        refine ⟨_, rfl, r, rfl, ⟨_, seqT_same s3 hr1⟩, fun D4 n4 => ?_⟩
        refine lc_tup (K := K) (a := r) (xs := ls.map V.int) (fun i H4 => Same H3 H4 ∧ ∃ ys, H4 D4 = some (.lst ys) ∧ All2 (One1 H4) ys (ls.take i)) ⟨same_new n4, [], upd_same, .nil⟩ (fun i H4 _ ⟨s4, _⟩ => seqT_same (s3.trans s4) hr1) ?_ ?_
        · rintro i y H4 hi ⟨s4, ys, h4, a4⟩
          obtain ⟨l, rfl, hl⟩ := int_at hi
          refine ⟨rfl, yes_of ?_⟩
          refine ⟨_, rfl, (by show 2 ≤ sizeLine; decide), fun t nt => ?_⟩
          have st := same_new (u := .tup [V.int l, V.int 1]) nt
          have fD : Firm (upd H4 t (.tup [V.int l, V.int 1])) (upd (upd H4 t (.tup [V.int l, V.int 1])) D4 (.lst (ys ++ [.ref t]))) := Firm.upd (st _ _ h4) rfl
          refine ⟨_, st _ _ h4, ?_, fun b o e => ?_, ys ++ [.ref t], upd_same, ?_⟩
          · rw [a4.len, List.length_take]
            exact Nat.lt_of_le_of_lt (Nat.min_le_right _ _) (Nat.lt_of_le_of_lt hz (by decide))
          · rw [upd_ne (ne_of_none e n4)]
            exact st _ _ (s4 _ _ e)
          · rw [take_more hl]
            exact (a4.imp fun _ _ ⟨q, e, h⟩ => ⟨q, e, fD _ _ (st _ _ h) rfl⟩).snoc ⟨t, rfl, fD _ _ upd_same rfl⟩
        · rintro H4 ⟨s4, ys, h4, a4⟩
          rw [List.length_map, List.take_length] at a4
          obtain ⟨ps, rfl, hp⟩ := ones_pairs (K := K) a4
          refine ⟨D4, ps, _, rfl, SqL.of h4, hp, fun d nd => ?_⟩
          obtain ⟨ks, e1, ndk, memk, lenk⟩ := merge_keys ls [] [] rfl List.nodup_nil
          have sd := same_new (u := .dK (mergeK [] (ls.map fun l => ((Sum.inl l : Key), V.int 1)))) nd
          refine ⟨d, _, rfl, upd_same, fun l5 n5 => ?_⟩
          have s5 := same_new (u := .lst ((mergeK [] (ls.map fun l => ((Sum.inl l : Key), V.int 1))).map fun kv => kV kv.1)) n5
          have keys : ((mergeK [] (ls.map fun l => ((Sum.inl l : Key), V.int 1))).map fun kv => kV kv.1) = ks.map V.int := by
            have z := congrArg (List.map kV) e1
            rw [List.map_map, List.map_map] at z
            exact z
          have s35 := s4.trans (sd.trans s5)
          have at5 : (upd (upd H4 d (.dK (mergeK [] (ls.map fun l => ((Sum.inl l : Key), V.int 1))))) l5 (.lst ((mergeK [] (ls.map fun l => ((Sum.inl l : Key), V.int 1))).map fun kv => kV kv.1))) l5 = some (.lst (ks.map V.int)) := by
            rw [upd_same, keys]
          generalize upd (upd H4 d (.dK (mergeK [] (ls.map fun l => ((Sum.inl l : Key), V.int 1))))) l5 (.lst ((mergeK [] (ls.map fun l => ((Sum.inl l : Key), V.int 1))).map fun kv => kV kv.1)) = H5 at s35 at5 ⊢
          have memk' : ∀ l, l ∈ ks ↔ l ∈ ls := fun l => by
            rw [memk]
            exact ⟨fun h => h.elim (fun h => absurd h List.not_mem_nil) id, .inr⟩
          have lenk' : ks.length ≤ 500 := by
            have : ks.length ≤ 0 + ls.length := lenk
            omega
          refine ⟨l5, rfl, ⟨_, SqL.of at5⟩, fun D6 n6 => ?_⟩
          refine lc_list (K := K) (a := l5) (xs := ks.map V.int) (fun i H6 => Same H5 H6 ∧ H6 D6 = some (.lst ((((ks.take i).filter fun l => decide (l > 1)).map fun l => l / 2).map V.int))) ⟨same_new n6, by rw [upd_same]; rfl⟩ (fun i H6 _ ⟨s6, _⟩ => SqL.of (s6 _ _ at5)) ?_ ?_
          · rintro i y H6 hi ⟨s6, h6⟩
            obtain ⟨l, rfl, hl⟩ := int_at hi
            refine ⟨rfl, ?_⟩
            refine ⟨_, rfl, _, _, rfl, rfl, _, rfl, ?_⟩
            by_cases c2 : l > 1
            · rw [decide_eq_true c2]
              refine iteT ⟨_, rfl, _, _, rfl, rfl, ⟨by decide, by decide⟩, _, h6, ?_, fun b o e => ?_, ?_⟩
              · rw [List.length_map, List.length_map]
                refine Nat.lt_of_le_of_lt (List.length_filter_le _ _) ?_
                rw [List.length_take]
                exact Nat.lt_of_le_of_lt (Nat.min_le_right _ _) (Nat.lt_of_le_of_lt lenk' (by decide))
              · rw [upd_ne (ne_of_none e n6)]
                exact s6 _ _ e
              · rw [upd_same, take_more hl, List.filter_append, List.filter_cons_of_pos (p := fun l => decide (l > 1)) (decide_eq_true c2), List.map_append, List.map_append]
                rfl
            · rw [decide_eq_false c2]
              refine iteF ⟨s6, ?_⟩
              rw [take_more hl, List.filter_append, List.filter_cons_of_neg (p := fun l => decide (l > 1)) (by rw [decide_eq_false c2]; decide), List.filter_nil, List.append_nil]
              exact h6
          · rintro H6 ⟨s6, h6⟩
            rw [List.length_map, List.take_length] at h6
            refine ⟨D6, _, rfl, SqL.of h6, fun ns l7 perm sorted n7 => ?_⟩
            have ndn : ns.Nodup := perm.nodup_iff.mpr (half_nd h0 nb ndk fun l m => (memk' l).mp m)
            have asc : ns.Pairwise (· < ·) := (sorted.and ndn).imp fun ⟨a, b⟩ => by omega
            have hm : ∀ n, n ∈ ns ↔ ∃ l ∈ ls, 1 < l ∧ n = l / 2 := fun n => by
              rw [perm.mem_iff, List.mem_map]
              constructor
              · rintro ⟨l, m, rfl⟩
                obtain ⟨m1, m2⟩ := List.mem_filter.mp m
                exact ⟨l, (memk' l).mp m1, of_decide_eq_true m2, rfl⟩
              · rintro ⟨l, m, l1, rfl⟩
                exact ⟨l, List.mem_filter.mpr ⟨(memk' l).mpr m, decide_eq_true l1⟩, rfl⟩
            have isC := isCl_nodes h0 nb asc hm
            have nlen : ns.length ≤ 500 := by
              rw [perm.length_eq, List.length_map]
              exact Nat.le_trans (List.length_filter_le _ _) lenk'
            have s7 := same_new (u := .lst (ns.map V.int)) n7
            have s37 := s3.trans (s35.trans (s6.trans s7))
            have at7 := upd_same (H := H6) (a := l7) (o := .lst (ns.map V.int))
            generalize upd H6 l7 (.lst (ns.map V.int)) = H7 at s37 at7 ⊢
            refine ⟨_, rfl, l7, rfl, ⟨_, SqL.of at7⟩, fun D8 n8 => ?_⟩
            refine lc_list (K := K) (a := l7) (xs := ns.map V.int) (fun i H8 => Same H7 H8 ∧ H8 D8 = some (.lst (((ns.take i).map fun n => if 2 * n ∈ ls then n else -n).map V.int))) ⟨same_new n8, by rw [upd_same]; rfl⟩ (fun i H8 _ ⟨s8, _⟩ => SqL.of (s8 _ _ at7)) ?_ ?_
            · rintro i y H8 hi ⟨s8, h8⟩
              obtain ⟨n, rfl, hn⟩ := int_at hi
              have fin : ∀ z, (if 2 * n ∈ ls then n else -n) = z → ∃ acc, H8 D8 = some (.lst acc) ∧ acc.length < sizeLine ∧ Same H7 (upd H8 D8 (.lst (acc ++ [.int z]))) ∧ (upd H8 D8 (.lst (acc ++ [.int z]))) D8 = some (.lst (((ns.take (i + 1)).map fun n => if 2 * n ∈ ls then n else -n).map V.int)) := by
                rintro z rfl
                refine ⟨_, h8, ?_, fun b o e => ?_, ?_⟩
                · rw [List.length_map, List.length_map, List.length_take]
                  exact Nat.lt_of_le_of_lt (Nat.min_le_right _ _) (Nat.lt_of_le_of_lt nlen (by decide))
                · rw [upd_ne (ne_of_none e n8)]
                  exact s8 _ _ e
                · rw [upd_same, take_more hn, List.map_append, List.map_append]
                  rfl
              refine ⟨rfl, yes_of ?_⟩
              refine ⟨_, rfl, _, _, rfl, rfl, .inl ⟨by decide, by decide⟩, _, rfl, r, _, rfl, .inr (seqT_same (s37.trans s8) hr1), rfl, flat_ints ls, _, rfl, ?_⟩
              show if inV (.int (2 * n)) (ls.map V.int) = true then _ else _
              rw [inV_int]
              by_cases c2 : 2 * n ∈ ls
              · rw [decide_eq_true c2]
                exact iteT ⟨_, rfl, fin n (if_pos c2)⟩
              · rw [decide_eq_false c2]
                exact iteF ⟨_, rfl, _, rfl, fin (-n) (if_neg c2)⟩
            · rintro H8 ⟨s8, h8⟩
              rw [List.length_map, List.take_length] at h8
              refine ⟨D8, _, rfl, .inl ⟨SqL.of h8, fun t nt => ?_⟩⟩
              exact q2 nb _ t _ (s37.trans (s8.trans (same_new nt))) isC upd_same
end
end Lc
namespace Ld
open PySem PySem.Spec PyProof.Rows L2 Pen Dat Ki Fi Gr No Lf Cm Cp Cq Rp Lc
def spOwns (K : PySem.W.Frag) : Sp := fun vs H Q _ => ∃ (n : Nat) (g : Addr) (gs : List (Int × Int)), vs = [.int n, .ref g] ∧ GT K H g gs ∧ okG (2 * (n : Int) + 1) gs = true ∧ gs.length ≤ 200 ∧
  ∀ (H' : Hp) (t : Addr) (ws : List V), Same H H' → H' t = some (.tup ws) → All2 (Tu K H') ws (clauses n gs) → Q (.ref t) H'
section
variable {P : Program} {w : World} {K : PySem.W.Frag} {mg : Str → Option Value} {base : Heap} {f C : Addr} {fd : FuncData}
abbrev osN : List Str := ["_law_leaves", "_law_gates", "_law_found", "_law_k", "_law_one", "_law_other", "_law_gate", "_law_row", "_law_clause"]
theorem scOwns : FnScope osN ["_law_leaves", "_law_gates"] (defScope sOwns) := ⟨rfl, rfl, rfl, by decide +kernel, rfl, by decide +kernel, by decide +kernel⟩
theorem tu_but {H H' : Hp} {D : Addr} {v : V} {r : List Int} {xs : List V} (b : But D H H') (hD : H D = some (.lst xs)) (h : Tu K H v r) : Tu K H' v r := by
  obtain ⟨q, e, h⟩ := h
  exact ⟨q, e, b _ _ h fun z => by rw [z, hD] at h; cases h⟩
theorem ok_owns {fO fF : Addr} {fdO fdF : FuncData} (F : FnP K "_law_own_clauses" sOwns f fd) (T : Lc.Tx mg) (FO : FnP K "_law_own_clause" sOwn fO fdO) (gO : mg "_law_own_clause" = some (.ref fO)) (FF : FnP K "_law_flip" sFlip fF fdF) (gF : mg "_law_flip" = some (.ref fF)) :
    FnOk P w K mg base CX0 3 f fd ["_law_leaves", "_law_gates"] (spOwns K) := by
  have GO : FnOk P w K mg base CX0 2 fO fdO ["_law_literals_here"] (spOwn K) := ok_own FO T FF gF
  have bO : Binds K fdO ["_law_literals_here"] [] := FO.bindsN fun _ _ _ _ _ _ us hl => match us, hl with | [_], _ => rfl
  have GF : FnOk P w K mg base CX0 1 fF fdF ["_law_literal"] spFlip := ok_flip FF T
  have bF : Binds K fdF ["_law_literal"] [] := FF.bindsN fun _ _ _ _ _ _ us hl => match us, hl with | [_], _ => rfl
  refine F.ok scOwns (fun vs H Q E h => ?_) (fun cdv A outer s H vs Q E hr h => ?_)
  · obtain ⟨n, g, gs, rfl, _⟩ := h
    rfl
  · obtain ⟨n, g, gs, rfl, hG, hok, hz, q⟩ := h
    obtain ⟨ps, hg, ha⟩ := id hG
    have hr1 := hr.mono (j := 1) (by decide)
    refine ⟨_, PSs.nox (pss_cons (ps_set (i := 2) scOwns.nd rfl (Or.inl rfl) (pe_lst pa_nil))
      (pss_cons (ps_for PassesOwn.never rfl (En.pi_enT (by rfl) T.enumerate (pa_cons (pv 1) pa_nil)) (pg_tup rfl (pgs_cons (pg_name (i := 3) scOwns.nd rfl (Or.inl rfl)) (pgs_cons (pg_tup rfl (pgs_cons (pg_name (i := 4) scOwns.nd rfl (Or.inl rfl)) (pgs_cons (pg_name (i := 5) scOwns.nd rfl (Or.inl rfl)) pgs_nil))) pgs_nil)))
        (pss_cons (ps_set (i := 6) scOwns.nd rfl (Or.inl rfl) (pe_op op_mul pe_int (pe_op op_add (pe_op op_add pe_int (pv 0)) (pv 3))))
        (pss_one (ps_for PassesOwn.never rfl (pi_list (pe_lst (pa_cons (pe_tup (pa_cons (pv 4) (pa_cons (pe_op op_add (pv 6) pe_int) pa_nil))) (pa_cons (pe_tup (pa_cons (pv 5) (pa_cons (pe_op op_add (pv 6) pe_int) pa_nil)))
            (pa_cons (pe_tup (pa_cons (pe_call GF hr1 (by rfl) gF FF.kp bF .nil pass0 (pa_cons (pv 4) pa_nil)) (pa_cons (pe_call GF hr1 (by rfl) gF FF.kp bF .nil pass0 (pa_cons (pv 5) pa_nil)) (pa_cons (pv 6) pa_nil)))) pa_nil))))) (pg_name (i := 7) scOwns.nd rfl (Or.inl rfl))
          (pss_cons (ps_set (i := 8) scOwns.nd rfl (Or.inl rfl) (pe_call GO hr (by rfl) gO FO.kp bO .nil pass0 (pa_cons (pv 7) pa_nil)))
          (pss_one (ps_if (pt_cmpR op_notN (pv 8) pe_non (nomark _)) (pss_one (ps_expr (pe_bm PySem.F.plainAttrs_list PySem.F.slot_list_append PySem.F.type_list_append mt_append (pv 2) (pa_cons (pv 8) pa_nil)))) pss_nil)))))))
      (pss_one (ps_ret (pe_callTy call_tuple_of (by rfl) T.cp.tuple (by decide +kernel) (pa_cons (pv 2) pa_nil)))))), ?_⟩
    refine ⟨(by show 0 ≤ sizeLine; decide), fun D nD => ?_⟩
    have sD := same_new (u := .lst []) nD
    refine ⟨_, rfl, g, _, rfl, seqT_same sD hg, En.for_enT (K := K) (a := g) (xs := ps)
      (fun i σ H2 => ∃ y3 y4 y5 y6 y7 y8 : Option V, σ = [some (.int n), some (.ref g), some (.ref D), y3, y4, y5, y6, y7, y8] ∧ Same H H2 ∧ ∃ ws, H2 D = some (.lst ws) ∧ All2 (Tu K H2) ws (clauses n (gs.take i)))
      ⟨none, none, none, none, none, none, rfl, sD, [], upd_same, .nil⟩ (fun i σ H2 _ ⟨_, _, _, _, _, _, _, s2, _⟩ => seqT_same s2 hg) ?_ ?_⟩
    · rintro i y σ H2 TT hi ⟨y3, y4, y5, y6, y7, y8, rfl, s2, ws, h2, a2⟩ nT
      obtain ⟨z, hz1, hz2⟩ := ha.get hi
      obtain ⟨q0, rfl, hq⟩ := hz2
      have hil : i < gs.length := (List.getElem?_eq_some_iff.mp hz1).1
      obtain ⟨⟨a0, a1⟩, b0, b1⟩ := okG_at hok hz1
      have sT0 := same_new (u := .tup [V.int (i : Nat), V.ref q0]) nT
      have g0 : 0 ≤ 2 * (1 + (n : Int) + (i : Int)) := by omega
      have ge : 2 * (1 + (n : Int) + (i : Int)) = 2 * (((n + i : Nat) : Int) + 1) := by omega
      refine ⟨TT, _, rfl, SqT.of upd_same, rfl, _, _, rfl, _, _, rfl, ⟨q0, _, rfl, seqT_same (s2.trans sT0) hq, rfl, _, _, rfl, _, _, rfl, rfl, rfl, ?_⟩⟩
      refine ⟨_, rfl, _, _, rfl, rfl, _, rfl, _, _, rfl, rfl, _, _, rfl, rfl, .inl ⟨by decide, by decide⟩, ?_⟩
      refine ⟨_, rfl, _, rfl, _, _, rfl, rfl, (by show 2 ≤ sizeLine; decide), fun t1 n1 => ?_⟩
      refine ⟨_, rfl, _, rfl, _, _, rfl, rfl, (by show 2 ≤ sizeLine; decide), fun t2 n2 => ?_⟩
      refine ⟨_, rfl, z.1, rfl, _, rfl, z.2, rfl, _, rfl, (by show 3 ≤ sizeLine; decide), fun t3 n3 => ⟨(by show 3 ≤ sizeLine; decide), fun t4 n4 => ?_⟩⟩
      have w1 := same_new (u := .tup [V.int z.1, V.int (2 * (1 + (n : Int) + (i : Int)) + 1)]) n1
      have w2 := same_new (u := .tup [V.int z.2, V.int (2 * (1 + (n : Int) + (i : Int)) + 1)]) n2
      have w3 := same_new (u := .tup [V.int (fl z.1), V.int (fl z.2), V.int (2 * (1 + (n : Int) + (i : Int)))]) n3
      have w4 := same_new (u := .lst [V.ref t1, V.ref t2, V.ref t3]) n4
      have sT := sT0.trans (w1.trans (w2.trans (w3.trans w4)))
      have rows : All2 (Tu K (upd (upd (upd (upd (upd H2 TT (.tup [V.int (i : Nat), V.ref q0])) t1 (.tup [V.int z.1, V.int (2 * (1 + (n : Int) + (i : Int)) + 1)])) t2 (.tup [V.int z.2, V.int (2 * (1 + (n : Int) + (i : Int)) + 1)])) t3 (.tup [V.int (fl z.1), V.int (fl z.2), V.int (2 * (1 + (n : Int) + (i : Int)))])) t4 (.lst [V.ref t1, V.ref t2, V.ref t3])))
          [V.ref t1, V.ref t2, V.ref t3] (three (2 * (((n + i : Nat) : Int) + 1)) z) := by
        rw [← ge]
        refine .cons ⟨t1, rfl, ?_⟩ (.cons ⟨t2, rfl, ?_⟩ (.cons ⟨t3, rfl, ?_⟩ .nil))
        · exact w4 _ _ (w3 _ _ (w2 _ _ upd_same))
        · exact w4 _ _ (w3 _ _ upd_same)
        · exact w4 _ _ upd_same
      have at4 := upd_same (H := upd (upd (upd (upd H2 TT (.tup [V.int (i : Nat), V.ref q0])) t1 (.tup [V.int z.1, V.int (2 * (1 + (n : Int) + (i : Int)) + 1)])) t2 (.tup [V.int z.2, V.int (2 * (1 + (n : Int) + (i : Int)) + 1)])) t3 (.tup [V.int (fl z.1), V.int (fl z.2), V.int (2 * (1 + (n : Int) + (i : Int)))])) (a := t4) (o := .lst [V.ref t1, V.ref t2, V.ref t3])
      have hD := sT _ _ h2
      have aD := a2.imp fun _ _ h => Tu.firm (Firm.of sT) h
      have s2T := s2.trans sT
      have n4D : t4 ≠ D := fun e => by
        have z := w3 _ _ (w2 _ _ (w1 _ _ (sT0 _ _ h2)))
        rw [← e, n4] at z
        cases z
      generalize upd (upd (upd (upd (upd H2 TT (.tup [V.int (i : Nat), V.ref q0])) t1 (.tup [V.int z.1, V.int (2 * (1 + (n : Int) + (i : Int)) + 1)])) t2 (.tup [V.int z.2, V.int (2 * (1 + (n : Int) + (i : Int)) + 1)])) t3 (.tup [V.int (fl z.1), V.int (fl z.2), V.int (2 * (1 + (n : Int) + (i : Int)))])) t4 (.lst [V.ref t1, V.ref t2, V.ref t3]) = HT at at4 rows hD aD s2T ⊢
      have okrows := three_ok (g := 2 * (((n + i : Nat) : Int) + 1)) (p := z) (by omega) a0 b0
      refine ⟨t4, rfl, ⟨_, SqL.of at4⟩, for_list (K := K) (a := t4) (xs := [V.ref t1, V.ref t2, V.ref t3])
        (fun j σ H3 => ∃ x3 x4 x5 x6 x7 x8 : Option V, σ = [some (.int n), some (.ref g), some (.ref D), x3, x4, x5, x6, x7, x8] ∧ Same H H3 ∧ But D HT H3 ∧ ∃ us, H3 D = some (.lst us) ∧
          All2 (Tu K H3) us (clauses n (gs.take i) ++ ((three (2 * (((n + i : Nat) : Int) + 1)) z).take j).filterMap clM))
        ⟨_, _, _, _, _, _, rfl, s2T, But.refl, ws, hD, by show All2 _ _ (_ ++ []); rw [List.append_nil]; exact aD⟩ (fun j σ H3 _ ⟨_, _, _, _, _, _, _, _, f3, _⟩ => SqL.of (f3 _ _ at4 n4D)) ?_ ?_⟩
      · rintro j v σ H3 hj ⟨x3, x4, x5, x6, x7, x8, rfl, s3, f3, us, h3, a3⟩
        obtain ⟨row, hrow, hv⟩ := rows.get hj
        obtain ⟨tq, rfl, htq⟩ := tu_but f3 hD hv
        obtain ⟨r0, r1⟩ := okrows row (List.mem_of_getElem? hrow)
        have ulen : us.length < sizeLine := by
          rw [a3.len, List.length_append]
          have e1 := clauses_len (gs.take i) n
          have e2 := three_len (2 * (((n + i : Nat) : Int) + 1)) z j
          have e3 : (gs.take i).length ≤ 200 := by
            rw [List.length_take]
            exact Nat.le_trans (Nat.min_le_right _ _) hz
          exact Nat.lt_of_lt_of_le (by omega : (clauses n (gs.take i)).length + (((three (2 * (((n + i : Nat) : Int) + 1)) z).take j).filterMap clM).length < 1000) (by decide)
        refine ⟨_, rfl, _, row, rfl, SqT.of htq, r0, r1, fun hb H4 s4 => ?_, fun hb H4 t cl s4 hcl ht => ?_⟩
        · refine ⟨_, rfl, rfl, _, rfl, iteF ?_⟩
          refine ⟨_, _, _, _, _, _, rfl, s3.trans s4, f3.trans (But.of_same s4), us, s4 _ _ h3, ?_⟩
          have ec : clM row = none := by
            unfold clM
            rw [hb]
            rfl
          rw [filterMap_take hrow, ec]
          show All2 _ _ (_ ++ (_ ++ []))
          rw [List.append_nil]
          exact a3.imp fun _ _ h => Tu.firm (Firm.of s4) h
        · refine ⟨_, rfl, rfl, _, rfl, iteT ?_⟩
          have h4 := s4 _ _ h3
          have fD : Firm H4 (upd H4 D (.lst (us ++ [.ref t]))) := Firm.upd h4 rfl
          refine ⟨_, rfl, .inl ⟨rfl, _, SqL.of h4⟩, _, rfl, D, _, _, rfl, rfl, h4, ulen, ?_⟩
          refine ⟨_, _, _, _, _, _, rfl, fun b o e => ?_, (f3.trans (But.of_same s4)).trans But.upd, us ++ [.ref t], upd_same, ?_⟩
          · rw [upd_ne (ne_of_none e nD)]
            exact s4 _ _ (s3 _ _ e)
          · have ec : clM row = some cl := by
              unfold clM
              rw [hb, isCl_uniq hcl (isCl_clL r0 hb)]
              rfl
            rw [filterMap_take hrow, ec, ← List.append_assoc]
            exact (a3.imp fun _ _ h => Tu.firm fD (Tu.firm (Firm.of s4) h)).snoc ⟨t, rfl, fD _ _ ht rfl⟩
      · rintro σ H3 ⟨x3, x4, x5, x6, x7, x8, rfl, s3, f3, us, h3, a3⟩
        refine ⟨x3, x4, x5, x6, x7, x8, rfl, s3, us, h3, ?_⟩
        rw [clauses_take n hz1]
        exact a3
    · rintro σ H2 ⟨y3, y4, y5, y6, y7, y8, rfl, s2, ws, h2, a2⟩
      rw [ha.len, List.take_length] at a2
      refine ⟨_, rfl, D, _, rfl, .inl ⟨SqL.of h2, fun t nt => ?_⟩⟩
      have st := same_new (u := .tup ws) nt
      exact q _ t ws (s2.trans st) upd_same (a2.imp fun _ _ h => Tu.firm (Firm.of st) h)
end
end Ld
namespace Gv
open PySem PySem.Spec PyProof.Rows L2
/-- repr(x), x any data but dicts -/
def rReprV (K : PySem.W.Frag) : List V → Hp → VK → Prop := fun xs H Q => ∃ (v : V) (d : PyData), xs = [v] ∧ Dp K H v d ∧ d.showable = true ∧ d.hasDict = false ∧ d.depth ≤ 60 ∧ d.shown.length ≤ sizeLine ∧ Q (.str d.shown) H
theorem call_reprV {X : Cx} {k : Nat} (hg : X.A.guards = some []) (hr : Room k X.A) : CallR X (.builtin "repr") (rReprV X.K) := by
  intro pins s σ H xs us Q I r h
  obtain ⟨v, d, rfl, hd, h1, h2, h3, h4, q⟩ := h
  cases hd with
  | lst a b => exact Gd.call_repr hg hr pins s σ H _ us Q I r ⟨_, _, rfl, .lst a b, h1, h2, h3, h4, q⟩
  | tup a b => exact Gd.call_repr hg hr pins s σ H _ us Q I r ⟨_, _, rfl, .tup a b, h1, h2, h3, h4, q⟩
  | non =>
    obtain ⟨u, rfl, ru⟩ := vals1 r
    have hu : u = Value.none := ru
    subst hu
    exact PySem.P.repr_of_none ⟨.str "None", H, I.tok _, ⟨_, rfl⟩, q⟩
  | bl b =>
    obtain ⟨u, rfl, ru⟩ := vals1 r
    have hu : u = Value.bool b := ru
    subst hu
    exact PySem.P.repr_of_bool ⟨.str _, H, I.tok _, ⟨_, rfl⟩, q⟩
  | int i =>
    obtain ⟨u, rfl, t, rfl⟩ := vals1 r
    exact PySem.P.repr_of_int (of_decide_eq_true h1) ⟨.str _, H, I.tok _, ⟨_, rfl⟩, q⟩
  | str x =>
    obtain ⟨u, rfl, t, rfl⟩ := vals1 r
    exact PySem.P.repr_of_str ⟨.str _, H, I.tok _, ⟨_, rfl⟩, q⟩ h4
end Gv
namespace Rq
open PySem PySem.Spec PyProof.Rows L2 Fi
/-! ## Rows of rows of small ints, handed to repr and compared -/
structure ROk (d : PyData) : Prop where
  show_ : d.showable = true
  dict : d.hasDict = false
  deep : d.depth ≤ 60
  long : d.shown.length ≤ sizeLine
def Small (i : Int) : Prop := i.natAbs < 1000
theorem log_small : ∀ n : Nat, n < 1000 → n.log2 < 10 := by decide +kernel
theorem show_small {i : Int} (h : Small i) : (PyData.int i).showable = true := decide_eq_true (Nat.lt_trans (log_small _ h) (by decide))
theorem weigh_small {i : Int} (h : Small i) : (PyData.int i).weight ≤ 10 := by
  have := log_small _ h
  show (if i == 0 then 0 else i.natAbs.log2 + 1) ≤ 10
  split <;> omega
theorem short_small {i : Int} (h : Small i) : (PyData.int i).intsShort 13 = true := decide_eq_true (PyData.shown_int_le (Nat.lt_trans h (by decide)))
theorem ints_all : ∀ {ns : List Int}, (∀ z ∈ ns, Small z) → PyData.showableAll (ns.map .int) = true ∧ PyData.hasDictAll (ns.map .int) = false ∧ PyData.depthAll (ns.map .int) = 0 ∧ PyData.canLayAll0 (ns.map .int) = true ∧
    PyData.intsShortAll 13 (ns.map .int) = true ∧ PyData.weightAll (ns.map .int) ≤ 11 * ns.length
  | [], _ => ⟨rfl, rfl, rfl, rfl, rfl, Nat.zero_le _⟩
  | z :: r, h => by
    have hz := h z List.mem_cons_self
    obtain ⟨a, b, c, d, e, g⟩ := ints_all (ns := r) fun y hy => h y (List.mem_cons_of_mem _ hy)
    refine ⟨?_, b, ?_, d, ?_, ?_⟩
    · show ((PyData.int z).showable && PyData.showableAll (r.map .int)) = true
      rw [show_small hz, a]
      rfl
    · show max 0 (PyData.depthAll (r.map .int)) = 0
      rw [c]
      rfl
    · show ((PyData.int z).intsShort 13 && PyData.intsShortAll 13 (r.map .int)) = true
      rw [short_small hz, e]
      rfl
    · show (PyData.int z).weight + 1 + PyData.weightAll (r.map .int) ≤ 11 * (r.length + 1)
      have := weigh_small hz
      omega
theorem row_ok {ns : List Int} (h : ∀ z ∈ ns, Small z) (hz : ns.length ≤ 1000) : ROk (.tuple (ns.map .int)) := by
  obtain ⟨a, b, c, d, e, g⟩ := ints_all h
  refine ⟨a, b, by show PyData.depthAll (ns.map .int) + 1 ≤ 60; omega, PyData.shown_fits_of_layable0 (B := 13) (by decide) (by decide) ?_ e⟩
  show ((PyData.canLayAll0 (ns.map .int) && decide (PyData.depthAll (ns.map .int) + 1 ≤ 64)) && decide (PyData.weightAll (ns.map .int) ≤ 2 ^ 20)) = true
  rw [d, decide_eq_true (by omega), decide_eq_true (Nat.le_trans g (Nat.le_trans (Nat.mul_le_mul_left 11 hz) (by decide)))]
  rfl
theorem non_ok : ROk .none := ⟨rfl, rfl, by decide, by decide +kernel⟩
def rD (r : List Int) : PyData := .tuple (r.map .int)
theorem rows_all : ∀ {rs : List (List Int)}, (∀ r ∈ rs, (∀ z ∈ r, Small z) ∧ r.length ≤ 100) → PyData.showableAll (rs.map rD) = true ∧ PyData.hasDictAll (rs.map rD) = false ∧ PyData.depthAll (rs.map rD) ≤ 1 ∧ PyData.canLayAll0 (rs.map rD) = true ∧
    PyData.intsShortAll 13 (rs.map rD) = true ∧ PyData.weightAll (rs.map rD) ≤ 1101 * rs.length
  | [], _ => ⟨rfl, rfl, Nat.zero_le _, rfl, rfl, Nat.zero_le _⟩
  | p :: r, h => by
    obtain ⟨p1, p2⟩ := h p List.mem_cons_self
    obtain ⟨a1, b1, c1, d1, e1, g1⟩ := ints_all p1
    obtain ⟨a, b, c, d, e, g⟩ := rows_all (rs := r) fun y hy => h y (List.mem_cons_of_mem _ hy)
    refine ⟨?_, ?_, ?_, ?_, ?_, ?_⟩
    · show (PyData.showableAll (p.map .int) && PyData.showableAll (r.map rD)) = true
      rw [a1, a]
      rfl
    · show (PyData.hasDictAll (p.map .int) || PyData.hasDictAll (r.map rD)) = false
      rw [b1, b]
      rfl
    · show max (PyData.depthAll (p.map .int) + 1) (PyData.depthAll (r.map rD)) ≤ 1
      rw [c1]
      exact Nat.max_le.mpr ⟨Nat.le_refl _, c⟩
    · show (PyData.canLayAll0 (p.map .int) && PyData.canLayAll0 (r.map rD)) = true
      rw [d1, d]
      rfl
    · show (PyData.intsShortAll 13 (p.map .int) && PyData.intsShortAll 13 (r.map rD)) = true
      rw [e1, e]
      rfl
    · show PyData.weightAll (p.map .int) + 1 + PyData.weightAll (r.map rD) ≤ 1101 * (r.length + 1)
      omega
theorem rows_ok {rs : List (List Int)} (h : ∀ r ∈ rs, (∀ z ∈ r, Small z) ∧ r.length ≤ 100) (hz : rs.length ≤ 600) : ROk (.tuple (rs.map rD)) := by
  obtain ⟨a, b, c, d, e, g⟩ := rows_all h
  refine ⟨a, b, by show PyData.depthAll (rs.map rD) + 1 ≤ 60; omega, PyData.shown_fits_of_layable0 (B := 13) (by decide) (by decide) ?_ e⟩
  show ((PyData.canLayAll0 (rs.map rD) && decide (PyData.depthAll (rs.map rD) + 1 ≤ 64)) && decide (PyData.weightAll (rs.map rD) ≤ 2 ^ 20)) = true
  rw [d, decide_eq_true (by omega), decide_eq_true (Nat.le_trans g (Nat.le_trans (Nat.mul_le_mul_left 1101 hz) (by decide)))]
  rfl
theorem rows_shaped {rs : List (List Int)} (h : ∀ r ∈ rs, (∀ z ∈ r, Small z) ∧ r.length ≤ 100) : SeqAt.shaped (.list (rs.map rD)) = true := by
  obtain ⟨a, b, c, d, e, g⟩ := rows_all h
  show (PyData.canLayAll0 (rs.map rD) && decide (PyData.depthAll (rs.map rD) + 1 ≤ 64)) = true
  rw [d, decide_eq_true (by omega)]
  rfl
theorem tus_dp {K : PySem.W.Frag} {H : Hp} : ∀ {vs : List V} {rs : List (List Int)}, All2 (Tu K H) vs rs → DpAll K H vs (rs.map rD)
  | _, _, .nil => .nil
  | _, _, .cons h t => by
    obtain ⟨q, rfl, h⟩ := h
    exact .cons (.tup (SqT.of h) (ints_dp _)) (tus_dp t)
theorem bools_dp {K : PySem.W.Frag} {H : Hp} : ∀ bs : List Bool, DpAll K H (bs.map V.bl) (bs.map PyData.bool)
  | [] => .nil
  | _ :: r => .cons (.bl _) (bools_dp r)
theorem bools_lay : ∀ bs : List Bool, PyData.canLayAll0 (bs.map PyData.bool) = true ∧ PyData.depthAll (bs.map PyData.bool) = 0
  | [] => ⟨rfl, rfl⟩
  | b :: r => by
    obtain ⟨x, y⟩ := bools_lay r
    refine ⟨x, ?_⟩
    show max 0 (PyData.depthAll (r.map PyData.bool)) = 0
    rw [y]
    rfl
theorem bools_shaped (bs : List Bool) : SeqAt.shaped (.list (bs.map PyData.bool)) = true := by
  obtain ⟨x, y⟩ := bools_lay bs
  show (PyData.canLayAll0 (bs.map PyData.bool) && decide (PyData.depthAll (bs.map PyData.bool) + 1 ≤ 64)) = true
  rw [x, y]
  rfl
end Rq
namespace Lm
open PySem PySem.Spec PyProof.Rows L2 Pen Dat Ki Fi Gr No Lf Cm Cn Cp Cq Rp Lc Ld Gd Rq
/-! ## The ways of a graph, gathered by their leaves -/
def okR (n : Nat) (gs : List (Int × Int)) (as : List Int) : Bool := (clauses n gs).all (satB as)
def filt (n : Nat) (gs : List (Int × Int)) (N j : Nat) (b : List Int) : List (List Int) := ((rowsM N).take j).filter fun as => okR n gs as && decide (as.take n = b)
def kk (b : List Int) : List Key := b.map Sum.inl
theorem kk_kV (b : List Int) : (kk b).map kV = b.map V.int := by
  unfold kk
  rw [List.map_map]
  rfl
theorem kk_inj {a b : List Int} (h : kk a = kk b) : a = b := by
  have q := congrArg (List.map fun k : Key => (match k with | .inl i => i | .inr _ => 0 : Int)) h
  have un : ∀ c : List Int, (kk c).map (fun k : Key => (match k with | .inl i => i | .inr _ => 0 : Int)) = c := fun c => by
    unfold kk
    rw [List.map_map]
    exact List.map_id c
  rw [un, un] at q
  exact q
section
variable {K : PySem.W.Frag} {H H' : Hp} {n N j : Nat} {gs : List (Int × Int)} {as : List Int} {kvs : List (List Key × V)} {wd p c : Addr}
theorem filt_yes {b : List Int} (e : (rowsM N)[j]? = some as) (c : okR n gs as = true) (hb : as.take n = b) : filt n gs N (j + 1) b = filt n gs N j b ++ [as] := by
  unfold filt
  rw [take_more e, List.filter_append, List.filter_cons_of_pos (by rw [c, decide_eq_true hb]; rfl)]
  rfl
theorem filt_no {b : List Int} (e : (rowsM N)[j]? = some as) (h : (okR n gs as && decide (as.take n = b)) = false) : filt n gs N (j + 1) b = filt n gs N j b := by
  unfold filt
  rw [take_more e, List.filter_append, List.filter_cons_of_neg (by rw [h]; decide)]
  exact List.append_nil _
def WK (K : PySem.W.Frag) (H : Hp) (n : Nat) (gs : List (Int × Int)) (N j : Nat) (kvs : List (List Key × V)) : Prop := ∀ b : List Int,
  (filt n gs N j b = [] ∧ valV kvs (kk b) = none) ∨ ∃ l vs, valV kvs (kk b) = some (.ref l) ∧ H l = some (.lst vs) ∧ All2 (Tu K H) vs (filt n gs N j b)
theorem WK.nil : WK K H n gs N 0 [] := fun b => .inl ⟨rfl, rfl⟩
theorem WK.same (s : Same H H') (h : WK K H n gs N j kvs) : WK K H' n gs N j kvs := fun b => (h b).imp id fun ⟨l, vs, a, b, c⟩ => ⟨l, vs, a, s _ _ b, c.imp fun _ _ h => h.firm (Firm.of s)⟩
theorem WK.skip (e : (rowsM N)[j]? = some as) (c : okR n gs as = false) (h : WK K H n gs N j kvs) : WK K H n gs N (j + 1) kvs := fun b => by
  rw [filt_no e (by rw [c]; rfl)]
  exact h b
theorem WK.get (h : WK K H n gs N j kvs) (b : List Int) {l0 : Addr} (h0 : H l0 = some (.lst [])) : ∃ l vs, (valV kvs (kk b)).getD (.ref l0) = .ref l ∧ H l = some (.lst vs) ∧ All2 (Tu K H) vs (filt n gs N j b) := by
  rcases h b with ⟨a, c⟩ | ⟨l, vs, a, c, d⟩
  · refine ⟨l0, [], by rw [c]; rfl, h0, ?_⟩
    rw [a]
    exact .nil
  · exact ⟨l, vs, by rw [a]; rfl, c, d⟩
theorem WK.put {q : Addr} {zs : List V} (h : WK K H n gs N j kvs) (hw : H wd = some (.dT kvs)) (e : (rowsM N)[j]? = some as) (c : okR n gs as = true) (hp : H q = some (.lst zs)) (hz : All2 (Tu K H) zs (filt n gs N j (as.take n) ++ [as])) :
    WK K (upd H wd (.dT (putK kvs (kk (as.take n)) (.ref q)))) n gs N (j + 1) (putK kvs (kk (as.take n)) (.ref q)) := fun b => by
  have f := Firm.upd (o := .dT (putK kvs (kk (as.take n)) (.ref q))) hw rfl
  have ne : ∀ {l : Addr} {vs : List V}, H l = some (.lst vs) → l ≠ wd := fun z y => by
    rw [y, hw] at z
    cases z
  by_cases hb : as.take n = b
  · subst hb
    refine .inr ⟨q, zs, ?_, ?_, ?_⟩
    · rw [valV_put, if_pos rfl]
    · rw [upd_ne (ne hp)]
      exact hp
    · rw [filt_yes e c rfl]
      exact hz.imp fun _ _ h => h.firm f
  · rw [filt_no e (by rw [decide_eq_false hb, Bool.and_false]), valV_put, if_neg fun z => hb (kk_inj z).symm]
    exact (h b).imp id fun ⟨l, vs, a, b, c⟩ => ⟨l, vs, a, by rw [upd_ne (ne b)]; exact b, c.imp fun _ _ h => h.firm f⟩
theorem filt_len (b : List Int) : (filt n gs N j b).length ≤ j := Nat.le_trans (List.length_filter_le _ _) (by rw [List.length_take]; exact Nat.min_le_left _ _)
theorem filt_all {b : List Int} (hb : b.length = n) (h01 : B01 b) (hN : N = n + gs.length) (hok : okG (2 * (n : Int) + 1) gs = true) (hj : j = (rowsM N).length) : filt n gs N j b = [whole b gs] := by
  subst hb
  unfold filt
  rw [hj, List.take_length]
  have wl := whole_len b gs
  refine filter_one (rowsM_nd N) (rowsM_all N _ (by rw [wl, hN]) (whole_01 gs h01)) fun r hr => ?_
  obtain ⟨rl, r01⟩ := rowsM_mem N r hr
  rw [← fits_whole (as := r) r01 (by rw [rl, hN]) hok, Bool.and_eq_true, decide_eq_true_eq]
  unfold okR fits
  rw [List.all_eq_true]
theorem PenC.keep {k : Nat} (b : But wd H H') (n1 : p ≠ wd) (n2 : c ≠ wd) (h : PenC H p c k) : PenC H' p c k := by
  obtain ⟨ns, a, d, n, f, h1, h2, r⟩ := h
  exact ⟨ns, a, d, n, f, b _ _ h1 n1, b _ _ h2 n2, r⟩
/-! ### clauses: small, and over the nodes there are -/
theorem bnd_le : ∀ {ls : List Int} {M : Nat}, (∀ l ∈ ls, l.toNat ≤ M) → bnd ls ≤ M + 1 := by
  intro ls M h
  unfold bnd
  refine Nat.succ_le_succ ?_
  induction ls with
  | nil => exact Nat.zero_le _
  | cons l r ih =>
    rw [List.foldr_cons]
    exact Nat.max_le.mpr ⟨h l List.mem_cons_self, ih fun z hz => h z (List.mem_cons_of_mem _ hz)⟩
theorem clL_len {ls : List Int} {M : Nat} (h : ∀ l ∈ ls, l.toNat ≤ M) : (clL ls).length ≤ M + 1 := by
  unfold clL
  rw [List.length_map]
  refine Nat.le_trans (List.length_filter_le _ _) ?_
  rw [List.length_map, List.length_range]
  exact bnd_le h
/-- a clause of these literals -/
def GoodC (M : Nat) (cl : List Int) : Prop := (∀ z ∈ cl, z ≠ 0 ∧ 2 * z.natAbs ≤ M) ∧ cl.length ≤ M + 1
theorem good_is {ls cl : List Int} {M : Nat} (h0 : ∀ l ∈ ls, 0 ≤ l ∧ l.toNat ≤ M) (hb : bad ls = false) (hc : IsCl ls cl) : GoodC M cl := by
  refine ⟨fun z hz => ?_, ?_⟩
  · obtain ⟨l, hl, h1, rfl⟩ := (hc.2 z).mp hz
    have := sgn_abs (h0 l hl).1
    have := (h0 l hl).2
    omega
  · rw [isCl_uniq hc (isCl_clL (fun l hl => (h0 l hl).1) hb)]
    exact clL_len fun l hl => (h0 l hl).2
theorem good_clauses : ∀ (gs : List (Int × Int)) (n M : Nat), okG (2 * (n : Int) + 1) gs = true → 2 * (n + gs.length) + 1 ≤ M → ∀ cl ∈ clauses n gs, GoodC M cl
  | [], n, M, _, _ => fun cl m => absurd m List.not_mem_nil
  | p :: r, n, M, hok, hM => by
    intro cl m
    have hr : okG (2 * ((n + 1 : Nat) : Int) + 1) r = true := by
      unfold okG at hok
      rw [Bool.and_eq_true] at hok
      have e : (2 * ((n + 1 : Nat) : Int) + 1) = 2 * (n : Int) + 1 + 2 := by omega
      rw [e]
      exact hok.2
    rw [List.length_cons] at hM
    rcases List.mem_append.mp (show cl ∈ (three (2 * ((n : Int) + 1)) p).filterMap clM ++ clauses (n + 1) r from m) with m | m
    · obtain ⟨ls, hls, e⟩ := List.mem_filterMap.mp m
      obtain ⟨⟨a0, a1⟩, b0, b1⟩ := okG_at (i := 0) hok rfl
      unfold clM at e
      cases hb : bad ls with
      | true =>
        rw [hb] at e
        cases e
      | false =>
        rw [hb] at e
        have e : clL ls = cl := Option.some.inj e
        subst e
        have h0 : ∀ l ∈ ls, 0 ≤ l ∧ l.toNat ≤ M := by
          unfold three at hls
          simp only [List.mem_cons, List.not_mem_nil, or_false] at hls
          rcases hls with rfl | rfl | rfl
          all_goals
            intro l hl
            simp only [List.mem_cons, List.not_mem_nil, or_false] at hl
            rcases hl with rfl | rfl | rfl
          all_goals first
            | omega
            | (unfold fl; omega)
        exact good_is h0 hb (isCl_clL (fun l hl => (h0 l hl).1) hb)
    · exact good_clauses r (n + 1) M hr (by omega) cl m
theorem goods_small {M : Nat} (hM : M ≤ 90) {rs : List (List Int)} (h : ∀ cl ∈ rs, GoodC M cl) : ∀ r ∈ rs, (∀ z ∈ r, Rq.Small z) ∧ r.length ≤ 100 := fun r hr => by
  obtain ⟨a, b⟩ := h r hr
  refine ⟨fun z hz => ?_, by omega⟩
  have := (a z hz).2
  unfold Rq.Small
  omega
end
end Lm
namespace Le
open PySem PySem.Spec PyProof.Rows L2 Pen Dat Ki Fi Gr No Lf Cm Cn Cp Cq Lc Ld Lm Rq Gd
structure Tx (K : PySem.W.Frag) (mg : Str → Option Value) (C : Addr) : Prop where
  gr : Gr.Tx K mg C
  lf : Lf.Tx mg
  lc : Lc.Tx mg
  rep : mg "repr" = none
def rListOf (K : PySem.W.Frag) : List V → Hp → VK → Prop := fun xs H Q => ∃ p ys, xs = [V.ref p] ∧ (SqL K H p ys ∨ SqT K H p ys) ∧ ∀ l, H l = none → Q (.ref l) (upd H l (.lst ys))
def rTupOf (K : PySem.W.Frag) : List V → Hp → VK → Prop := fun xs H Q => ∃ p ys, xs = [V.ref p] ∧ ((SqL K H p ys ∧ ∀ l, H l = none → Q (.ref l) (upd H l (.tup ys))) ∨ (SqT K H p ys ∧ Q (.ref p) H))
theorem pt_bool {X : Cx} {e : Expr} {ta : TE} (ha : PE X e ta) (he : ∀ whole, isTrue e X.env whole = (do let v ← whole; standAt e.pos; holding [v] (truthy v))) : PT X e (fun σ H Q => ta σ H fun x H' => ∃ b : Bool, x = .bl b ∧ Q b H') := by
  refine ⟨fun pins s σ H Q I h => isTrue_plain (thn (ha.run pins s σ H _ I h) fun v s1 z => ?_) (he _)⟩
  obtain ⟨x, H1, I1, r1, b, rfl, q⟩ := z
  exact tru_ok pins s1 σ H1 (.bl b) v Q I1 r1 ⟨_, rfl, q⟩
section
variable {K : PySem.W.Frag} {C x y : Addr} {H : Hp} {n n' : Int} {v : V} {gs gs' : List (Int × Int)} {Q : VK} {E : XK}
theorem mk_use {dx : Addr} {R : VK} (nx : H x = none) (nd : H dx = none) (n0 : n ≥ 0) (hv : RowG K H v gs) (hz : gs.length ≤ 1000) (hok : okG (2 * n + 1) gs = true) (k : ∀ H', Same H H' → GraphAt K C H' x n gs → R .non H') :
    spInit K C [.ref x, .int n, v] (upd (upd H dx (.own x)) x (.ins C dx [])) R E := by
  have s : Same H (upd (upd H dx (.own x)) x (.ins C dx [])) := fun b o e => by
    rw [upd_ne (ne_of_none e nx), upd_ne (ne_of_none e nd)]
    exact e
  exact ⟨x, dx, n, v, gs, rfl, upd_same, n0, hv.same s, hz, hok, fun H' k9 G => k H' (Same.made nx nd k9) G⟩
theorem cut_use {q0 : Addr} {as : List Int} {m : Nat} {R : VK} (hq : H q0 = some (.tup (as.map V.int))) (hn : m ≤ as.length) (k : ∀ t H', Same H H' → H' t = some (.tup ((as.take m).map V.int)) → R (.ref t) H') :
    L2.rSlA K (.ref q0) none (some (m : Int)) H R := by
  have ix : HT.sIx (as.map V.int).length (as.map V.int).length (some (m : Int)) = m := by
    show (if ((m : Int)) < 0 then ((m : Int) + ((as.map V.int).length : Int)).toNat else min (m : Int).toNat (as.map V.int).length) = _
    rw [if_neg (by omega), List.length_map]
    omega
  refine ⟨q0, _, rfl, SqT.of hq, fun hw => ?_, fun _ p np => ?_⟩
  · have e := hw.2
    rw [ix, List.length_map] at e
    refine k q0 H (fun _ _ e => e) ?_
    rw [e, List.take_length]
    exact hq
  · refine k p _ (same_new np) ?_
    rw [upd_same]
    unfold cutV
    rw [ix, List.map_take]
    rfl
theorem cut_one (xs : List V) : cutV xs (some 1) none = xs.drop 1 := by
  cases xs with
  | nil => rfl
  | cons x r =>
    unfold cutV
    have ix : HT.sIx (x :: r).length 0 (some 1) = 1 := by
      show min 1 (r.length + 1) = 1
      omega
    rw [ix]
    show List.take (r.length + 1 - 1) r = r
    exact List.take_of_length_le (by omega)
theorem inV_bl (bs : List Bool) : (!inV (.bl false) (bs.map V.bl)) = bs.all id := by
  induction bs with
  | nil => rfl
  | cons b r ih =>
    show (!(eqV (.bl b) (.bl false) || inV (.bl false) (r.map V.bl))) = (b && r.all id)
    rw [Bool.not_or, ih]
    cases b <;> rfl
theorem flat_bl (bs : List Bool) : (bs.map V.bl).all flatV = true := by
  rw [List.all_map, List.all_eq_true]
  intro z _
  rfl
theorem small_01 {r : List Int} (h : B01 r) : ∀ z ∈ r, Rq.Small z := fun z hz => by
  rcases h z hz with rfl | rfl <;> (unfold Rq.Small; decide)
end
def spLaw (K : PySem.W.Frag) : Sp := fun vs H Q _ => ∃ (a : Addr) (ns : List Int), vs = [.ref a] ∧ SqL K H a (ns.map V.int) ∧ ns.length ≤ 63 ∧ ∀ H', Q (.bl true) H'
section
variable {P : Program} {w : World} {K : PySem.W.Frag} {mg : Str → Option Value} {base : Heap} {f C : Addr} {fd : FuncData}
abbrev leN : List Str := ["_law_script", "_law_pen_here", "_law_lap", "_law_leaves", "_law_gates", "_law_told", "_law_due", "_law_ways", "_law_bits", "_law_kept", "_law_turn", "_law_row", "_law_clause", "_law_one"]
theorem scLaw : FnScope leN ["_law_script"] (defScope sLaw) := ⟨rfl, rfl, rfl, by decide +kernel, rfl, by decide +kernel, by decide +kernel⟩
theorem ok_law (F : FnP K "law" sLaw f fd) (T : Tx K mg C) {fI fP fD fW fK fV fR fC fZ fS fQ fL fE fO : Addr} {dI dP dD dW dK dV dR dC dZ dS dQ dL dE dO : FuncData}
    (M : Mk K C fI) (GI : FnOk P w K mg base CX0 4 fI dI ["self", "leaves", "gates"] (spInit K C)) (bI : Binds K dI ["self", "leaves", "gates"] [])
    (GP : FnOk P w K mg base CX0 1 fP dP ["_law_script"] (spPen K)) (gP : mg "_law_pen" = some (.ref fP)) (kP : PySem.W.keepIn K (.ref fP) = true) (bP : Binds K dP ["_law_script"] [])
    (GD : FnOk P w K mg base CX0 1 fD dD ["_law_pen_here", "_law_many"] spDraw) (gD : mg "_law_draw" = some (.ref fD)) (kD : PySem.W.keepIn K (.ref fD) = true) (bD : Binds K dD ["_law_pen_here", "_law_many"] [])
    (GW : FnOk P w K mg base CX0 2 fW dW ["_law_pen_here", "_law_leaves", "_law_many"] (spDrawn K)) (gW : mg "_law_drawn_gates" = some (.ref fW)) (kW : PySem.W.keepIn K (.ref fW) = true) (bW : Binds K dW ["_law_pen_here", "_law_leaves", "_law_many"] [])
    (GK : FnOk P w K mg base CX0 2 fK dK ["_law_pen_here", "_law_some"] (spPick K)) (gK : mg "_law_pick" = some (.ref fK)) (kK : PySem.W.keepIn K (.ref fK) = true) (bK : Binds K dK ["_law_pen_here", "_law_some"] [])
    (GV : FnOk P w K mg base CX0 2 fV dV ["_law_leaves", "_law_gates", "_law_bits"] (spValues K)) (gV : mg "_law_values" = some (.ref fV)) (kV : PySem.W.keepIn K (.ref fV) = true) (bV : Binds K dV ["_law_leaves", "_law_gates", "_law_bits"] [])
    (GR : FnOk P w K mg base CX0 2 fR dR ["_law_many"] (spRows K)) (gR : mg "_law_rows" = some (.ref fR)) (kR : PySem.W.keepIn K (.ref fR) = true) (bR : Binds K dR ["_law_many"] [])
    (GC : FnOk P w K mg base CX0 2 fC dC ["graph"] (spCls K C)) (gC : mg "clauses_of" = some (.ref fC)) (kC : PySem.W.keepIn K (.ref fC) = true) (bC : Binds K dC ["graph"] [])
    (GZ : FnOk P w K mg base CX0 3 fZ dZ ["_law_leaves", "_law_gates"] (spOwns K)) (gZ : mg "_law_own_clauses" = some (.ref fZ)) (kZ : PySem.W.keepIn K (.ref fZ) = true) (bZ : Binds K dZ ["_law_leaves", "_law_gates"] [])
    (GS : FnOk P w K mg base CX0 1 fS dS ["assignment", "clause"] (spSat K)) (gS : mg "satisfies" = some (.ref fS)) (kS : PySem.W.keepIn K (.ref fS) = true) (bS : Binds K dS ["assignment", "clause"] [])
    (GQ : FnOk P w K mg base CX0 1 fQ dQ ["_law_bits", "_law_clause"] (spKeeps K)) (gQ : mg "_law_keeps" = some (.ref fQ)) (kQ : PySem.W.keepIn K (.ref fQ) = true) (bQ : Binds K dQ ["_law_bits", "_law_clause"] [])
    (GL : FnOk P w K mg base CX0 2 fL dL ["_law_pen_here", "_law_nodes", "_law_many"] spLits) (gL : mg "_law_literals" = some (.ref fL)) (kL : PySem.W.keepIn K (.ref fL) = true) (bL : Binds K dL ["_law_pen_here", "_law_nodes", "_law_many"] [])
    (GE : FnOk P w K mg base CX0 1 fE dE ["literals"] (spCl K)) (gE : mg "clause_of" = some (.ref fE)) (kE : PySem.W.keepIn K (.ref fE) = true) (bE : Binds K dE ["literals"] [])
    (GO : FnOk P w K mg base CX0 2 fO dO ["_law_literals_here"] (spOwn K)) (gO : mg "_law_own_clause" = some (.ref fO)) (kO : PySem.W.keepIn K (.ref fO) = true) (bO : Binds K dO ["_law_literals_here"] []) :
    FnG P w K mg base CX0 6 f fd ["_law_script"] (spLaw K) := by
  refine FnG.mk_of F scLaw (fun vs H Q E h => ?_) (fun cdv A outer s H vs Q E hg hr h => ?_)
  · obtain ⟨a, ns, rfl, _⟩ := h
    rfl
  · obtain ⟨a, ns, rfl, hS, hl, q⟩ := h
    have hu := hu_of hr
    refine ⟨_, PSs.nox (pss_cons (ps_set (i := 1) scLaw.nd rfl (Or.inl rfl) (pe_call GP (hr.mono (by decide)) (by rfl) gP kP bP .nil pass0 (pa_cons (pv 0) pa_nil))) (pss_cons (ps_for PassesOwn.never rfl (pi_range1 (by rfl) T.lf.range (pa_cons pe_int pa_nil)) (pg_name (i := 2) scLaw.nd rfl (Or.inl rfl)) (pss_cons (ps_set (i := 3) scLaw.nd rfl (Or.inl rfl) (pe_call GD (hr.mono (by decide)) (by rfl) gD kD bD .nil pass0 (pa_cons (pv 1) (pa_cons pe_int pa_nil)))) (pss_cons (ps_set (i := 4) scLaw.nd rfl (Or.inl rfl) (pe_call GW (hr.mono (by decide)) (by rfl) gW kW bW .nil pass0 (pa_cons (pv 1) (pa_cons (pv 3) (pa_cons (pe_call GD (hr.mono (by decide)) (by rfl) gD kD bD .nil pass0 (pa_cons (pv 1) (pa_cons pe_int pa_nil))) pa_nil))))) (pss_cons (ps_par (i := 5) (j := 6) rfl scLaw.nd rfl rfl (by decide) rfl rfl (pa_cons (pe_call GC (hr.mono (by decide)) (by rfl) gC kC bC .nil pass0 (pa_cons (pe_make M GI (hr.mono (by decide)) (by rfl) T.gr.mgC bI .nil pass0 (pa_cons (pv 3) (pa_cons (pv 4) pa_nil))) pa_nil)) (pa_cons (pe_call GZ (hr.mono (by decide)) (by rfl) gZ kZ bZ .nil pass0 (pa_cons (pv 3) (pa_cons (pv 4) pa_nil))) pa_nil)) (by rfl)) (pss_cons (ps_if (pt_cmpR op_ne (pe_callB (Gd.call_repr hg hr) (by rfl) T.rep (by decide +kernel) (pa_cons (pv 5) pa_nil)) (pe_callB (Gd.call_repr hg hr) (by rfl) T.rep (by decide +kernel) (pa_cons (pv 6) pa_nil)) (nomark _)) (pss_one (ps_ret pe_bl)) pss_nil) (pss_cons (ps_set (i := 7) scLaw.nd rfl (Or.inl rfl) pe_dnewT) (pss_cons (ps_for PassesOwn.never rfl (pi_list (pe_call GR (hr.mono (by decide)) (by rfl) gR kR bR .nil pass0 (pa_cons (pe_op op_add (pv 3) (pe_callB call_len_seq (by rfl) T.gr.ki.len PySem.boot_len (pa_cons (pv 4) pa_nil))) pa_nil))) (pg_name (i := 8) scLaw.nd rfl (Or.inr rfl)) (pss_cons (ps_setLc (i := 9) (own := [("_law_clause", 12)]) (g := gName 12) (tt := tYes) (by rfl) scLaw.nd rfl rfl (sw_true rfl rfl rfl (by decide +kernel)) (pi_tup (pv 5)) (blkOk_by (N := leN) (sc := defScope sLaw) (by decide +kernel)) (fun _ _ _ _ _ => pg_name (i := 12) scLaw.nd rfl (Or.inl rfl)) (fun _ _ _ _ _ => pts_nil) (fun _ _ _ _ _ => (pe_call GS (hr.mono (by decide)) (by rfl) gS kS bS .nil pass0 (pa_cons (pv 8) (pa_cons (pv 12) pa_nil))))) (pss_cons (ps_if (pt_cmpR (op_neD hr.units) (pe_lc (own := [("_law_one", 13)]) (g := gName 13) rfl scLaw.nd (pi_list (pv 9)) (blkOk_by (N := leN) (sc := defScope sLaw) (by decide +kernel)) (fun _ _ _ _ _ => pg_name (i := 13) scLaw.nd rfl (Or.inl rfl)) (fun _ _ _ _ _ => pts_one (pt_not (pt_bool (pe_callB (r := rIsi K) (by exact call_isi) (by rfl) T.gr.ki.isi (by decide +kernel) (pa_cons (pv 13) (pa_cons (pe_bltn (v := .ty "bool") (by rfl) T.gr.ki.bool (by decide +kernel) rfl) pa_nil))) (by intro _; rfl)))) (fun _ _ _ _ _ => pe_int)) (pe_lst pa_nil) (nomark _)) (pss_one (ps_ret pe_bl)) pss_nil) (pss_cons (ps_if (pt_cmpR (op_neD hr.units) (pv 9) (pe_lc (own := [("_law_clause", 12)]) (g := gName 12) (tt := tYes) rfl scLaw.nd (pi_tup (pv 6)) (blkOk_by (N := leN) (sc := defScope sLaw) (by decide +kernel)) (fun _ _ _ _ _ => pg_name (i := 12) scLaw.nd rfl (Or.inl rfl)) (fun _ _ _ _ _ => pts_nil) (fun _ _ _ _ _ => (pe_call GQ (hr.mono (by decide)) (by rfl) gQ kQ bQ .nil pass0 (pa_cons (pv 8) (pa_cons (pv 12) pa_nil))))) (nomark _)) (pss_one (ps_ret pe_bl)) pss_nil) (pss_one (ps_if (pt_cmpR op_notIn_seq pe_bl (pv 9) (by rfl)) (pss_one (ps_dput hu (pv 7) (pe_slice sl_tupA (pv 8) po_none (po_some (pv 3))) (pe_op op_cat (pe_dget2 hu (pv 7) (pe_slice sl_tupA (pv 8) po_none (po_some (pv 3))) (pe_lst pa_nil) ⟨by rfl, by rfl, by rfl, by rfl⟩) (pe_lst (pa_cons (pv 8) pa_nil))) rfl)) pss_nil)))))) (pss_one (ps_for PassesOwn.never rfl (pi_list (pe_call GR (hr.mono (by decide)) (by rfl) gR kR bR .nil pass0 (pa_cons (pv 3) pa_nil))) (pg_name (i := 8) scLaw.nd rfl (Or.inr rfl)) (pss_one (ps_if (pt_cmpR (op_neD hr.units) (pe_dget1 hu (pv 7) (pv 8) ⟨by rfl, by rfl, by rfl, by rfl⟩) (pe_lst (pa_cons (pe_callTy (T := "tuple") (r := rTupOf K) (by exact call_tuple_of) (by rfl) T.gr.ki.tuple (by decide +kernel) (pa_cons (pe_slice sl_list (pe_call GV (hr.mono (by decide)) (by rfl) gV kV bV .nil pass0 (pa_cons (pv 3) (pa_cons (pv 4) (pa_cons (pv 8) pa_nil)))) (po_some pe_int) po_none) pa_nil)) pa_nil)) (nomark _)) (pss_one (ps_ret pe_bl)) pss_nil))))))))))) (pss_cons (ps_for PassesOwn.never rfl (pi_range1 (by rfl) T.lf.range (pa_cons pe_int pa_nil)) (pg_name (i := 10) scLaw.nd rfl (Or.inl rfl)) (pss_cons (ps_set (i := 11) scLaw.nd rfl (Or.inl rfl) (pe_call GL (hr.mono (by decide)) (by rfl) gL kL bL .nil pass0 (pa_cons (pv 1) (pa_cons (pe_op op_add pe_int (pe_call GD (hr.mono (by decide)) (by rfl) gD kD bD .nil pass0 (pa_cons (pv 1) (pa_cons pe_int pa_nil)))) (pa_cons (pe_call GD (hr.mono (by decide)) (by rfl) gD kD bD .nil pass0 (pa_cons (pv 1) (pa_cons pe_int pa_nil))) pa_nil))))) (pss_one (ps_if (pt_cmpR op_ne (pe_callB (Gv.call_reprV hg hr) (by rfl) T.rep (by decide +kernel) (pa_cons (pe_call GE (hr.mono (by decide)) (by rfl) gE kE bE .nil pass0 (pa_cons (pe_call GK (hr.mono (by decide)) (by rfl) gK kK bK .nil pass0 (pa_cons (pv 1) (pa_cons (pe_lst (pa_cons (pv 11) (pa_cons (pe_callTy (T := "list") (r := rListOf K) (by exact call_list_of) (by rfl) T.gr.ki.list (by decide +kernel) (pa_cons (pv 11) pa_nil)) pa_nil))) pa_nil))) pa_nil)) pa_nil)) (pe_callB (Gv.call_reprV hg hr) (by rfl) T.rep (by decide +kernel) (pa_cons (pe_call GO (hr.mono (by decide)) (by rfl) gO kO bO .nil pass0 (pa_cons (pv 11) pa_nil)) pa_nil)) (nomark _)) (pss_one (ps_ret pe_bl)) pss_nil)))) (pss_one (ps_ret (pe_and (pe_cmpR op_isBl (pe_call GS (hr.mono (by decide)) (by rfl) gS kS bS .nil pass0 (pa_cons (pe_tup (pa_cons pe_int (pa_cons pe_int pa_nil))) (pa_cons (pe_tup pa_nil) pa_nil))) pe_bl (nomark _)) (pe_one (pe_cmpR op_isBl (pe_call GS (hr.mono (by decide)) (by rfl) gS kS bS .nil pass0 (pa_cons (pe_lst (pa_cons pe_int (pa_cons pe_int pa_nil))) (pa_cons (pe_tup (pa_cons (pe_un un_neg pe_int) pa_nil)) pa_nil))) pe_bl (nomark _))))))))), ?_⟩
    refine ⟨_, rfl, a, ns, rfl, hS, hl, fun p c H1 np s1 P1 => ?_⟩
    refine ⟨2, rfl, by decide, by decide, for_range (lo := 0) (n := 2)
      (fun i σ H2 => ∃ (x2 x3 x4 x5 x6 x7 x8 x9 : Option V), σ = [some (.ref a), some (.ref p), x2, x3, x4, x5, x6, x7, x8, x9, none, none, none, none] ∧ PenC H2 p c (100 * i))
      ⟨none, none, none, none, none, none, none, none, rfl, P1⟩ ?_ ?_⟩
    · rintro i σ H2 hi ⟨x2, x3, x4, x5, x6, x7, x8, x9, rfl, P2⟩
      refine ⟨_, rfl, p, c, 100 * i, 5, rfl, P2, by omega, by decide, by decide, fun n1 H3 n0 n5 P3 B3 => ?_⟩
      obtain ⟨n, rfl⟩ := Int.eq_ofNat_of_zero_le n0
      refine ⟨_, rfl, _, rfl, _, rfl, p, c, 100 * i + 1, 7, rfl, P3, by omega, by decide, by decide, fun m H4 m0 m7 P4 B4 => ?_⟩
      refine ⟨p, c, 100 * i + 2, n, m, rfl, P4, by omega, n0, by omega, m0, by omega, fun H5 g gs P5 B5 G5 ok5 len5 => ?_⟩
      have gl : gs.length ≤ 6 := by omega
      have goods := good_clauses gs n 21 ok5 (by omega)
      have clen : (clauses n gs).length ≤ 18 := Nat.le_trans (Cq.clauses_len gs n) (by omega)
      have smalls := goods_small (M := 21) (by decide) goods
      have rok := Rq.rows_ok smalls (by omega)
      -- both rows of clauses
      refine ⟨_, rfl, _, rfl, fun x dx nx nd _ => ?_⟩
      refine mk_use nx nd n0 G5.row (by omega) ok5 fun H6 s6 g6 => ⟨rfl, ?_⟩
      refine ⟨x, n, gs, rfl, g6, ok5, by omega, fun H7 tt us s7 htt aT => ?_⟩
      have G7 := G5.firm (Firm.of (s6.trans s7))
      refine ⟨_, rfl, _, rfl, n, g, gs, rfl, G7, ok5, by omega, fun H8 td vs s8 htd aD => ⟨_, _, rfl, ?_⟩⟩
      have htt8 := s8 _ _ htt
      have aT8 := aT.imp fun _ _ h => Tu.firm (Firm.of s8) h
      have P8 := P5.same (s6.trans (s7.trans s8))
      have G8 := G7.firm (Firm.of s8)
      refine ⟨_, rfl, tt, _, rfl, .tup (SqT.of htt8) (tus_dp aT8), rok.show_, rok.dict, rok.deep, rok.long, ?_⟩
      refine ⟨_, rfl, td, _, rfl, .tup (SqT.of htd) (tus_dp aD), rok.show_, rok.dict, rok.deep, rok.long, rfl, _, rfl, iteNS rfl ?_⟩
      refine fun wd nw => ?_
      obtain ⟨nwp, nwc⟩ := P8.free nw
      have sw := same_new (u := .dT []) nw
      have G9 := G8.firm (Firm.of sw)
      obtain ⟨ps, hg, ha⟩ := id G9
      have eN : ((n : Int) + ((ps.length : Nat) : Int)).toNat = n + gs.length := by
        rw [ha.len]
        omega
      refine ⟨_, rfl, _, rfl, g, _, rfl, .inr hg, _, _, rfl, rfl, _, rfl, by omega, by rw [ha.len]; omega, fun H9 l ws s9 hl9 a9 => ?_⟩
      rw [eN] at a9
      have sw9 := sw.trans s9
      have P9 := P8.same sw9
      have G9' := G9.firm (Firm.of s9)
      have hw9 := s9 _ _ (upd_same (H := H8) (a := wd) (o := .dT []))
      have ht9 := sw9 _ _ htt8
      have hd9 := sw9 _ _ htd
      have aT9 := aT8.imp fun _ _ h => Tu.firm (Firm.of sw9) h
      have aD9 := aD.imp fun _ _ h => Tu.firm (Firm.of sw9) h
      have nl : l ≠ wd := fun e => by
        rw [e, hw9] at hl9
        cases hl9
      have wsl : ws.length ≤ 1024 := by
        rw [a9.len, rowsM_len]
        exact Nat.le_trans (Nat.pow_le_pow_right (by decide) (by omega : n + gs.length ≤ 10)) (by decide)
      clear nw sw s9 sw9 htt8 aT8 htd aD P8 G8 G9 hg ha eN
      have keep : ∀ {H10 : Hp} {b : Addr} {xs : List V}, But wd H9 H10 → H9 b = some (.tup xs) → H10 b = some (.tup xs) := fun k e => k _ _ e fun z => by
        rw [z, hw9] at e
        cases e
      refine ⟨l, rfl, ⟨_, SqL.of hl9⟩, for_list (K := K) (a := l) (xs := ws)
        (fun j σ H10 => ∃ (y8 y9 : Option V) (kvs : List (List Key × V)), σ = [some (.ref a), some (.ref p), some (.int (0 + (i : Int))), some (.int n), some (.ref g), some (.ref tt), some (.ref td), some (.ref wd), y8, y9, none, none, none, none] ∧
          But wd H9 H10 ∧ H10 wd = some (.dT kvs) ∧ kvs.length ≤ j ∧ WK K H10 n gs (n + gs.length) j kvs)
        ⟨_, _, [], rfl, But.refl, hw9, Nat.le_refl _, WK.nil⟩ (fun j σ H10 _ ⟨_, _, _, _, b, _⟩ => SqL.of (b _ _ hl9 nl)) ?_ ?_⟩
      · rintro j v σ H10 hj ⟨y8, y9, kvs, rfl, b10, w10, kl, wk⟩
        have f10 := Firm.but b10 hw9 rfl
        obtain ⟨as, has, q0, rfl, hq9⟩ := a9.get hj
        have hq := keep b10 hq9
        have ht := keep b10 ht9
        have hd := keep b10 hd9
        have aT10 := aT9.imp fun _ _ h => Tu.firm f10 h
        have aD10 := aD9.imp fun _ _ h => Tu.firm f10 h
        have hjl : j < ws.length := (List.getElem?_eq_some_iff.mp hj).1
        obtain ⟨asl, as01⟩ := rowsM_mem _ as (List.mem_of_getElem? has)
        have okc : ∀ cl ∈ clauses n gs, (∀ z ∈ cl, z ≠ 0 ∧ z.natAbs ≤ as.length) ∧ cl.length ≤ 1000 := fun cl hc => by
          obtain ⟨e1, e2⟩ := good_clauses gs n (2 * (n + gs.length) + 1) ok5 (Nat.le_refl _) cl hc
          refine ⟨fun z hz => ⟨(e1 z hz).1, ?_⟩, by omega⟩
          have := (e1 z hz).2
          omega
        -- what the program tells
        refine ⟨_, rfl, tt, rfl, ⟨_, SqT.of ht⟩, fun D nD => ?_⟩
        refine lc_tup (K := K) (a := tt) (xs := us) (fun k H11 => Same H10 H11 ∧ H11 D = some (.lst ((((clauses n gs).take k).map (satB as)).map V.bl))) ⟨same_new nD, upd_same⟩ (fun k H11 _ ⟨s11, _⟩ => SqT.of (s11 _ _ ht)) ?_ ?_
        · rintro k v H11 hk ⟨s11, h11⟩
          obtain ⟨cl, hcl, tq, rfl, htq⟩ := aT10.get hk
          refine ⟨rfl, yes_of ?_⟩
          refine ⟨_, rfl, _, rfl, .ref q0, tq, as, cl, rfl, ⟨q0, rfl, .inr (SqT.of (s11 _ _ hq))⟩, SqT.of (s11 _ _ htq), (okc cl (List.mem_of_getElem? hcl)).1, ?_⟩
          refine ⟨_, h11, ?_, fun b o e => ?_, ?_⟩
          · rw [List.length_map, List.length_map]
            exact Nat.lt_of_le_of_lt (List.length_take_le' _ _) (Nat.lt_of_le_of_lt clen (by decide))
          · rw [upd_ne (ne_of_none e nD)]
            exact s11 _ _ e
          · rw [upd_same, take_more hcl, List.map_append, List.map_append]
            rfl
        rintro H11 ⟨s11, h11⟩
        rw [aT10.len, List.take_length] at h11
        -- each of them is a truth value
        refine ⟨_, rfl, D, rfl, ⟨_, SqL.of h11⟩, fun D2 nD2 => ?_⟩
        refine lc_list (K := K) (a := D) (xs := ((clauses n gs).map (satB as)).map V.bl) (fun k H12 => Same H11 H12 ∧ H12 D2 = some (.lst [])) ⟨same_new nD2, upd_same⟩ (fun k H12 _ ⟨s12, _⟩ => SqL.of (s12 _ _ h11)) ?_ ?_
        · rintro k v H12 hk ⟨s12, h12⟩
          have hv : ∃ b : Bool, v = .bl b := by
            rw [List.getElem?_map] at hk
            cases e : ((clauses n gs).map (satB as))[k]? with
            | none =>
              rw [e] at hk
              cases hk
            | some b =>
              rw [e] at hk
              exact ⟨b, (Option.some.inj hk).symm⟩
          obtain ⟨b, rfl⟩ := hv
          exact ⟨rfl, _, rfl, _, _, _, _, _, rfl, .ty _, ty_of (K := K) (.bl b), kit_bool (K := K) (H := H12) (.bl b), _, rfl, iteF ⟨s12, h12⟩⟩
        rintro H12 ⟨s12, h12⟩
        refine ⟨(by show 0 ≤ sizeLine; decide), fun l3 nl3 => ?_⟩
        have s13 := same_new (u := .lst []) nl3
        refine ⟨_, _, .lst (SqL.of (s13 _ _ h12)) .nil, .lst (SqL.of upd_same) .nil, (by rfl), (by rfl), _, rfl, iteF ?_⟩
        have s1013 := s11.trans (s12.trans s13)
        have h13 := (s12.trans s13) _ _ h11
        generalize upd H12 l3 (.lst []) = H13 at s1013 h13 ⊢
        clear s13 nl3 h12 s12 nD2 h11 s11
        -- what the law keeps
        refine ⟨_, rfl, _, rfl, td, rfl, ⟨_, SqT.of (s1013 _ _ hd)⟩, fun D3 nD3 => ?_⟩
        refine lc_tup (K := K) (a := td) (xs := vs) (fun k H14 => Same H13 H14 ∧ H14 D3 = some (.lst ((((clauses n gs).take k).map (satB as)).map V.bl))) ⟨same_new nD3, upd_same⟩ (fun k H14 _ ⟨s14, _⟩ => SqT.of (s14 _ _ (s1013 _ _ hd))) ?_ ?_
        · rintro k v H14 hk ⟨s14, h14⟩
          obtain ⟨cl, hcl, tq, rfl, htq⟩ := aD10.get hk
          refine ⟨rfl, yes_of ?_⟩
          have okcl := okc cl (List.mem_of_getElem? hcl)
          refine ⟨_, rfl, _, rfl, q0, tq, as, cl, rfl, SqT.of (s14 _ _ (s1013 _ _ hq)), SqT.of (s14 _ _ (s1013 _ _ htq)), okcl.1, okcl.2, fun H15 s15 => ?_⟩
          refine ⟨_, s15 _ _ h14, ?_, fun b o e => ?_, ?_⟩
          · rw [List.length_map, List.length_map]
            exact Nat.lt_of_le_of_lt (List.length_take_le' _ _) (Nat.lt_of_le_of_lt clen (by decide))
          · rw [upd_ne (ne_of_none e nD3)]
            exact s15 _ _ (s14 _ _ e)
          · rw [upd_same, take_more hcl, List.map_append, List.map_append]
            rfl
        rintro H14 ⟨s14, h14⟩
        rw [aD10.len, List.take_length] at h14
        refine ⟨_, _, .lst (SqL.of (s14 _ _ h13)) (bools_dp _), .lst (SqL.of h14) (bools_dp _), bools_shaped _, bools_shaped _, _, rfl, ?_⟩
        rw [SeqAt.eqv_refl _ (SeqAt.canLay_of_shaped (bools_shaped _))]
        refine iteF ?_
        have s1014 := s1013.trans s14
        have h14' := s14 _ _ h13
        generalize H14 = H15 at s1014 h14' ⊢
        clear h14 s14 nD3 h13 s1013
        -- the ways that fit
        refine ⟨_, rfl, D, _, rfl, .inl (SqL.of h14'), rfl, flat_bl _, _, rfl, ?_⟩
        have ek : (if true = true then !inV (.bl false) (((clauses n gs).map (satB as)).map V.bl) else inV (.bl false) (((clauses n gs).map (satB as)).map V.bl)) = okR n gs as := by
          rw [if_pos rfl, inV_bl]
          unfold okR
          rw [List.all_map]
          rfl
        rw [ek]
        have b15 : But wd H9 H15 := fun b o e ne => s1014 _ _ (b10 _ _ e ne)
        have w15 := s1014 _ _ w10
        have wk15 := wk.same s1014
        have hq15 := s1014 _ _ hq
        cases ec : okR n gs as with
        | false => exact iteF ⟨_, _, kvs, rfl, b15, w15, by omega, wk15.skip has ec⟩
        | true =>
          refine iteT ?_
          have jl : j < 1024 := Nat.lt_of_lt_of_le hjl wsl
          refine ⟨_, rfl, wd, rfl, .inr ⟨_, .of w15⟩, _, rfl, _, rfl, _, rfl, cut_use (K := K) (as := as) (m := n) hq15 (by omega) fun t4 H16 s16 ht4 => ⟨(by show 0 ≤ sizeLine; decide), fun l5 nl5 => ?_⟩⟩
          have s17 := same_new (u := .lst []) nl5
          have wk17 := (wk15.same s16).same s17
          have w17 := s17 _ _ (s16 _ _ w15)
          refine ⟨_, DGet.t (k := kk (as.take n)) w17 (by rw [kk_kV]; exact s17 _ _ ht4), ?_⟩
          obtain ⟨l6, zs, e6, h6, a6⟩ := wk17.get (as.take n) (l0 := l5) upd_same
          rw [e6]
          refine ⟨_, rfl, (by show 1 ≤ sizeLine; decide), fun l7 nl7 => ?_⟩
          have s18 := same_new (u := .lst [V.ref q0]) nl7
          refine ⟨l6, l7, _, _, rfl, rfl, s18 _ _ h6, upd_same, ?_, fun l8 nl8 => ?_⟩
          · rw [a6.len]
            have := filt_len (n := n) (N := n + gs.length) (j := j) (gs := gs) (as.take n)
            exact Nat.le_trans (by show _ + 1 ≤ 2000; omega) (by decide : 2000 ≤ sizeLine)
          have s19 := same_new (u := .lst (zs ++ [V.ref q0])) nl8
          have s1519 := s16.trans (s17.trans (s18.trans s19))
          have h19 := upd_same (H := upd (upd H16 l5 (.lst [])) l7 (.lst [V.ref q0])) (a := l8) (o := .lst (zs ++ [V.ref q0]))
          have a19 := a6.imp fun _ _ h => Tu.firm (Firm.of (s18.trans s19)) h
          refine ⟨_, rfl, _, rfl, _, rfl, _, rfl, cut_use (K := K) (as := as) (m := n) (s1519 _ _ hq15) (by omega) fun t9 H20 s20 ht9 => ?_⟩
          have s1520 := s1519.trans s20
          refine ⟨wd, _, rfl, DPut.t (k := kk (as.take n)) (s1520 _ _ w15) (by rw [kk_kV]; exact ht9) (Nat.lt_of_le_of_lt kl (Nat.lt_of_lt_of_le jl (by decide))), ?_⟩
          refine ⟨_, _, _, rfl, fun b o e ne => ?_, upd_same, ?_, (wk15.same s1520).put (s1520 _ _ w15) has ec (s20 _ _ h19) ((a19.imp fun _ _ h => Tu.firm (Firm.of s20) h).snoc ⟨q0, rfl, s1520 _ _ hq15⟩)⟩
          · rw [upd_ne ne]
            exact s1520 _ _ (b15 _ _ e ne)
          · exact Nat.le_trans (length_putK _ _ _) (by omega)
      · rintro σ H10 ⟨y8, y9, kvs, rfl, b10, w10, kl, wk⟩
        have f10 := Firm.but b10 hw9 rfl
        have P10 := Lm.PenC.keep b10 nwp.symm nwc.symm P9
        have G10 := G9'.firm f10
        clear keep
        refine ⟨_, rfl, (n : Int), rfl, by omega, by omega, fun H11 l2 rs s11 hl11 a11 => ?_⟩
        have wk11 := wk.same s11
        have w11 := s11 _ _ w10
        have P11 := P10.same s11
        have G11 := G10.firm (Firm.of s11)
        refine ⟨l2, rfl, ⟨_, SqL.of hl11⟩, for_list (K := K) (a := l2) (xs := rs)
          (fun j σ H12 => ∃ (z8 : Option V), σ = [some (.ref a), some (.ref p), some (.int (0 + (i : Int))), some (.int n), some (.ref g), some (.ref tt), some (.ref td), some (.ref wd), z8, y9, none, none, none, none] ∧ Same H11 H12)
          ⟨_, rfl, fun _ _ e => e⟩ (fun j σ H12 _ ⟨_, _, s12⟩ => SqL.of (s12 _ _ hl11)) ?_ ?_⟩
        · rintro j v σ H12 hj ⟨z8, rfl, s12⟩
          obtain ⟨b, hb, q0, rfl, hq11⟩ := a11.get hj
          obtain ⟨bl, b01⟩ := rowsM_mem _ b (List.mem_of_getElem? hb)
          have bn : b.length = n := bl
          have fa : filt n gs (n + gs.length) ws.length b = [whole b gs] := filt_all bn b01 rfl ok5 (a9.len)
          have hw := whole_len b gs
          have w01 := whole_01 gs b01
          have hq12 := s12 _ _ hq11
          have w12 := s12 _ _ w11
          rcases (wk11.same s12) b with ⟨e, _⟩ | ⟨l6, zs, e6, h6, a6⟩
          · rw [fa] at e
            cases e
          rw [fa] at a6
          refine ⟨_, rfl, wd, rfl, .inr ⟨_, .of w12⟩, _, rfl, _, DGet.t (k := kk b) w12 (by rw [kk_kV]; exact hq12), ?_⟩
          rw [e6]
          refine ⟨_, rfl, _, rfl, _, rfl, .int n, g, q0, gs, b, rfl, G11.firm (Firm.of s12), SqT.of hq12, b01, (by rw [bn]; exact ok5), by omega, by omega, fun H13 l7 s13 nl7 h7 => ?_⟩
          refine ⟨_, rfl, l7, _, rfl, SqL.of h7, fun l8 nl8 => ?_⟩
          have ecut : cutV ((vals b gs).map V.int) (some 1) none = (whole b gs).map V.int := by
            rw [cut_one, ← List.map_drop]
            rfl
          rw [ecut]
          have s14 := same_new (u := .lst ((whole b gs).map V.int)) nl8
          refine ⟨l8, _, rfl, .inl ⟨SqL.of upd_same, fun t9 nt9 => ?_⟩⟩
          have s15 := same_new (u := .tup ((whole b gs).map V.int)) nt9
          refine ⟨(by show 1 ≤ sizeLine; decide), fun l10 nl10 => ?_⟩
          have s16 := same_new (u := .lst [V.ref t9]) nl10
          have s1316 := s13.trans (s14.trans (s15.trans s16))
          have ht9 : Tu K (upd (upd (upd H13 l8 (.lst ((whole b gs).map V.int))) t9 (.tup ((whole b gs).map V.int))) l10 (.lst [V.ref t9])) (.ref t9) (whole b gs) := ⟨t9, rfl, s16 _ _ upd_same⟩
          have sh := Rq.rows_shaped (rs := [whole b gs]) fun r hr => by
            rw [List.mem_singleton.mp hr]
            exact ⟨small_01 w01, by omega⟩
          refine ⟨_, _, .lst (SqL.of (s1316 _ _ h6)) (tus_dp (a6.imp fun _ _ h => Tu.firm (Firm.of s1316) h)), .lst (SqL.of upd_same) (tus_dp (.cons ht9 .nil)), sh, sh, _, rfl, ?_⟩
          rw [SeqAt.eqv_refl _ (SeqAt.canLay_of_shaped sh)]
          exact iteF ⟨_, rfl, s12.trans s1316⟩
        · rintro σ H12 ⟨z8, rfl, s12⟩
          exact ⟨_, _, _, _, _, _, _, _, rfl, (P11.same s12).more (by omega)⟩
    · rintro σ H2 ⟨x2, x3, x4, x5, x6, x7, x8, x9, rfl, P2⟩
      refine ⟨12, rfl, by decide, by decide, for_range (lo := 0) (n := 12)
        (fun i σ H3 => ∃ (x10 x11 : Option V), σ = [some (.ref a), some (.ref p), x2, x3, x4, x5, x6, x7, x8, x9, x10, x11, none, none] ∧ PenC H3 p c (200 + 20 * i))
        ⟨none, none, rfl, P2⟩ ?_ ?_⟩
      · rintro i σ H3 hi ⟨x10, x11, rfl, P3⟩
        refine ⟨_, rfl, _, rfl, p, c, 200 + 20 * i, 4, rfl, P3, by omega, by decide, by decide, fun r H4 r0 r4 P4 B4 => ?_⟩
        refine ⟨_, _, rfl, rfl, _, rfl, p, c, 200 + 20 * i + 1, 6, rfl, P4, by omega, by decide, by decide, fun m H5 m0 m6 P5 B5 => ?_⟩
        refine ⟨p, c, 200 + 20 * i + 2, 2 + r, m, rfl, P5, by omega, by omega, by omega, m0, by omega, fun H6 t ls P6 B6 hln hls ht => ?_⟩
        have P6 := P6.more (m' := 200 + 20 * i + 8) (by omega)
        have ls0 : ∀ l ∈ ls, 0 ≤ l ∧ l.toNat ≤ 10 := fun l hl => ⟨(hls l hl).1, by have := (hls l hl).2; omega⟩
        refine ⟨_, rfl, _, rfl, _, rfl, t, _, rfl, .inr (SqT.of ht), fun l1 nl1 => ⟨(by show 2 ≤ sizeLine; decide), fun l2 nl2 => ?_⟩⟩
        have s1 := same_new (u := .lst (ls.map V.int)) nl1
        have s2 := same_new (u := .lst [V.ref t, V.ref l1]) nl2
        have P7 := P6.same (s1.trans s2)
        refine ⟨p, c, l2, 200 + 20 * i + 8, [V.ref t, V.ref l1], rfl, P7, by omega, ((P6.same s1).free nl2).1, SqL.of upd_same, (by show 0 < 2; decide), (by show 2 ≤ 1000; decide), fun v k H8 hv P8 B8 => ?_⟩
        have f8 := Firm.pen B8 P7
        have ht8 := f8 _ _ ((s1.trans s2) _ _ ht) rfl
        have nl1p : l1 ≠ p := (P6.free nl1).1
        have hl8 := B8 _ _ (s2 _ _ (upd_same (H := H6) (a := l1) (o := .lst (ls.map V.int)))) nl1p
        have sq : SeqI K H8 v ls := by
          match k, hv with
          | 0, hv =>
            have e : v = V.ref t := (Option.some.inj hv).symm
            subst e
            exact ⟨t, rfl, .inr (SqT.of ht8)⟩
          | 1, hv =>
            have e : v = V.ref l1 := (Option.some.inj hv).symm
            subst e
            exact ⟨l1, rfl, .inl (SqL.of hl8)⟩
          | k + 2, hv => cases hv
        have h0 : ∀ l ∈ ls, 0 ≤ l := fun l hl => (ls0 l hl).1
        refine ⟨v, ls, rfl, sq, h0, by omega, fun hb H9 s9 => ?_, fun hb H9 u cl s9 hcl hu9 => ?_⟩
        · refine ⟨.non, .none, rfl, .non, Rq.non_ok.show_, Rq.non_ok.dict, Rq.non_ok.deep, Rq.non_ok.long, ?_⟩
          refine ⟨_, rfl, t, ls, rfl, SqT.of (s9 _ _ ht8), h0, by omega, fun _ H10 s10 => ?_, fun hb2 => by rw [hb] at hb2; cases hb2⟩
          refine ⟨.non, .none, rfl, .non, Rq.non_ok.show_, Rq.non_ok.dict, Rq.non_ok.deep, Rq.non_ok.long, rfl, _, rfl, iteNS rfl ?_⟩
          exact ⟨_, _, rfl, (P8.same (s9.trans s10)).more (by omega)⟩
        · have good := good_is ls0 hb hcl
          have rok := Rq.row_ok (ns := cl) (fun z hz => by have := (good.1 z hz).2; unfold Rq.Small; omega) (by have := good.2; omega)
          refine ⟨.ref u, _, rfl, .tup (SqT.of hu9) (ints_dp _), rok.show_, rok.dict, rok.deep, rok.long, ?_⟩
          refine ⟨_, rfl, t, ls, rfl, SqT.of (s9 _ _ ht8), h0, by omega, (fun hb2 => by rw [hb] at hb2; cases hb2), fun _ H10 u2 cl2 s10 hcl2 hu10 => ?_⟩
          rw [isCl_uniq hcl2 hcl] at hu10
          refine ⟨.ref u2, _, rfl, .tup (SqT.of hu10) (ints_dp _), rok.show_, rok.dict, rok.deep, rok.long, rfl, _, rfl, iteNS rfl ?_⟩
          exact ⟨_, _, rfl, (P8.same (s9.trans s10)).more (by omega)⟩
      · rintro σ H3 ⟨x10, x11, rfl, P3⟩
        refine ⟨(by show 2 ≤ sizeLine; decide), fun t1 nt1 => ⟨(by show 0 ≤ sizeLine; decide), fun t2 nt2 => ?_⟩⟩
        have s2 := same_new (u := .tup []) nt2
        refine ⟨.ref t1, t2, [0, 1], [], rfl, ⟨t1, rfl, .inr (SqT.of (s2 _ _ upd_same))⟩, SqT.of upd_same, (fun z hz => absurd hz List.not_mem_nil), ?_⟩
        refine ⟨_, _, rfl, rfl, _, rfl, iteT ?_⟩
        refine ⟨(by show 2 ≤ sizeLine; decide), fun t3 nt3 => ?_⟩
        refine ⟨_, rfl, (by show 1 ≤ sizeLine; decide), fun t4 nt4 => ?_⟩
        have s4 := same_new (u := .tup [V.int (-1)]) nt4
        refine ⟨.ref t3, t4, [0, 1], [-1], rfl, ⟨t3, rfl, .inl (SqL.of (s4 _ _ upd_same))⟩, SqT.of upd_same, (fun z hz => by rw [List.mem_singleton.mp hz]; decide), ?_⟩
        exact ⟨_, _, rfl, rfl, q _⟩
end
end Le
namespace E20
open PySem PySem.Spec PyProof.Rows L2 Pen Dat Ki Fi Gr No Lf Cm Cp Cq Lc Ld Gd Le He
def ds_is_between : DefD := ⟨("is_between", none), "is_between", "is_between", defArgs sBetween, defBody sBetween, defScope sBetween, [], []⟩
def ds_is_from : DefD := ⟨("is_from", none), "is_from", "is_from", defArgs sFrom, defBody sFrom, defScope sFrom, [], []⟩
def ds_is_row : DefD := ⟨("is_row", none), "is_row", "is_row", defArgs sRow, defBody sRow, defScope sRow, [], []⟩
def ds_is_row_between : DefD := ⟨("is_row_between", none), "is_row_between", "is_row_between", defArgs sRowB, defBody sRowB, defScope sRowB, [], []⟩
def ds_need_leaves : DefD := ⟨("need_leaves", none), "need_leaves", "need_leaves", defArgs sNeed, defBody sNeed, defScope sNeed, [], []⟩
def ds_are_gates : DefD := ⟨("are_gates", none), "are_gates", "are_gates", defArgs sGates, defBody sGates, defScope sGates, [], []⟩
def ds_satisfies : DefD := ⟨("satisfies", none), "satisfies", "satisfies", defArgs sSat, defBody sSat, defScope sSat, [], []⟩
def ds_clause_of : DefD := ⟨("clause_of", none), "clause_of", "clause_of", defArgs sCl, defBody sCl, defScope sCl, [], []⟩
def ds_clauses_of : DefD := ⟨("clauses_of", none), "clauses_of", "clauses_of", defArgs sCls, defBody sCls, defScope sCls, [], []⟩
def ds__law_pen : DefD := ⟨("_law_pen", none), "_law_pen", "_law_pen", defArgs sPen, defBody sPen, defScope sPen, [], []⟩
def ds__law_draw : DefD := ⟨("_law_draw", none), "_law_draw", "_law_draw", defArgs sDraw, defBody sDraw, defScope sDraw, [], []⟩
def ds__law_pick : DefD := ⟨("_law_pick", none), "_law_pick", "_law_pick", defArgs sPick, defBody sPick, defScope sPick, [], []⟩
def ds__law_drawn_gates : DefD := ⟨("_law_drawn_gates", none), "_law_drawn_gates", "_law_drawn_gates", defArgs sDrawn, defBody sDrawn, defScope sDrawn, [], []⟩
def ds__law_values : DefD := ⟨("_law_values", none), "_law_values", "_law_values", defArgs sValues, defBody sValues, defScope sValues, [], []⟩
def ds__law_bit : DefD := ⟨("_law_bit", none), "_law_bit", "_law_bit", defArgs sBit, defBody sBit, defScope sBit, [], []⟩
def ds__law_flip : DefD := ⟨("_law_flip", none), "_law_flip", "_law_flip", defArgs sFlip, defBody sFlip, defScope sFlip, [], []⟩
def ds__law_longer : DefD := ⟨("_law_longer", none), "_law_longer", "_law_longer", defArgs sLonger, defBody sLonger, defScope sLonger, [], []⟩
def ds__law_rows : DefD := ⟨("_law_rows", none), "_law_rows", "_law_rows", defArgs sRows, defBody sRows, defScope sRows, [], []⟩
def ds__law_literals : DefD := ⟨("_law_literals", none), "_law_literals", "_law_literals", defArgs sLits, defBody sLits, defScope sLits, [], []⟩
def ds__law_own_clause : DefD := ⟨("_law_own_clause", none), "_law_own_clause", "_law_own_clause", defArgs sOwn, defBody sOwn, defScope sOwn, [], []⟩
def ds__law_own_clauses : DefD := ⟨("_law_own_clauses", none), "_law_own_clauses", "_law_own_clauses", defArgs sOwns, defBody sOwns, defScope sOwns, [], []⟩
def ds__law_keeps : DefD := ⟨("_law_keeps", none), "_law_keeps", "_law_keeps", defArgs sKeeps, defBody sKeeps, defScope sKeeps, [], []⟩
def ds_law : DefD := ⟨("law", none), "law", "law", defArgs sLaw, defBody sLaw, defScope sLaw, [], []⟩
def di_Graph__init__ : DefD := ⟨("Graph", some "__init__"), "__init__", "Graph.__init__", defArgs sInit, defBody sInit, defScope sInit, [], []⟩
def fn : List DefD := [ds_is_between, ds_is_from, ds_is_row, ds_is_row_between, ds_need_leaves, ds_are_gates, ds_satisfies, ds_clause_of, ds_clauses_of, ds__law_pen, ds__law_draw, ds__law_pick, ds__law_drawn_gates, ds__law_values, ds__law_bit, ds__law_flip, ds__law_longer, ds__law_rows, ds__law_literals, ds__law_own_clause, ds__law_own_clauses, ds__law_keeps, ds_law, di_Graph__init__]
def fa : List Fa := [.glo "is_between", .glo "is_from", .glo "is_row", .glo "is_row_between", .glo "need_leaves", .glo "are_gates", .glo "satisfies", .glo "clause_of", .glo "clauses_of", .glo "_law_pen", .glo "_law_draw", .glo "_law_pick", .glo "_law_drawn_gates", .glo "_law_values", .glo "_law_bit", .glo "_law_flip", .glo "_law_longer", .glo "_law_rows", .glo "_law_literals", .glo "_law_own_clause", .glo "_law_own_clauses", .glo "_law_keeps", .glo "law", .glo "Graph", .free "isinstance", .free "int", .free "bool", .free "tuple", .free "list", .free "len", .free "all", .free "abs", .free "range", .free "repr", .free "sorted", .free "dict", .free "enumerate", .cls "Graph", .noat "Graph" "leaves", .noat "Graph" "gates", .mkr "Graph"]
abbrev gr (K : PySem.W.Frag) : Addr := ga K "Graph"
def exB (K : PySem.W.Frag) : Bool :=
  decide (PySem.W.findIn K (.ref (gr K)) "__class__" = some (some (.builtin "object.__class__"))) && (decide (PySem.W.specialIn K (.builtin "object.__class__") "__get__" = some (some (.builtin "getset_descriptor.__get__"))) &&
  (decide (PySem.W.takesIn K (.builtin "object.__class__") = some true) && (decide (PySem.W.mroIn K (gr K) (.type "object") = some true) && (decide (PySem.W.kitOne K (.ref (gr K)) (.ref (gr K)) = some true) &&
  decide (PySem.W.kitOne K (.type "tuple") (.ref (gr K)) = some false)))))
abbrev R : PySem.W.OpenRow := PySem.W.OpenLaw.row PySem.Challenge.rw_everycycle_k20_whole_one_assignment
abbrev hk : PySem.W.Hook := hookX 6 fa fn [] [] exB
def ob (s : PySem.W.SharedT) : AlX := obsX 6 fa fn [] [] exB (HandSHeadRun.getT s)
theorem ob_eq (s : PySem.W.SharedT) : ob s = hk.obs s.abs := obsX_eq (HandSHeadRun.getT_eq s)
theorem run (w : World) : HandSHeadRun.RunEq R (PySem.W.view R.prog [31]) hk ob 4000 ["CycleError", "BadNumber", "BadRow", "is_between", "is_from", "is_row", "is_row_between", "Graph", "need_leaves", "are_gates", "satisfies", "clause_of", "clauses_of", "_law_pen", "_law_draw", "_law_pick", "_law_drawn_gates", "_law_values", "_law_bit", "_law_flip", "_law_longer", "_law_rows", "_law_literals", "_law_own_clause", "_law_own_clauses", "_law_keeps"] w := by
  intro os
  kernel_rfl
theorem and2 {a b : Bool} (h : (a && b) = true) : a = true ∧ b = true := Bool.and_eq_true_iff.mp h
theorem facts {P : Program} {w : World} {K : PySem.W.Frag} {h : Heap} {mg : Str → Option Value} {f : Addr} (X : K.In h) (G : h.Ns mainGlobals mg) (hfa : mg ("law" : Str) = some (.ref f)) (c : SaysX fa fn [] [] exB w h K) :
    ∃ fd : FuncData, (∀ (s : Shared) (v : Value), BindsTo s fd ⟨[v], []⟩ [("_law_script", v)]) ∧ ∀ base : Heap, K.In base → base.Ns mainGlobals mg → FnG P w K mg base CX0 6 f fd ["_law_script"] (spLaw K) := by
  have cd := c.t.d
  obtain ⟨fd0, F0⟩ := cd.def_ 0 (d := ds_is_between) rfl
  obtain ⟨fd1, F1⟩ := cd.def_ 1 (d := ds_is_from) rfl
  obtain ⟨fd2, F2⟩ := cd.def_ 2 (d := ds_is_row) rfl
  obtain ⟨fd3, F3⟩ := cd.def_ 3 (d := ds_is_row_between) rfl
  obtain ⟨fd4, F4⟩ := cd.def_ 4 (d := ds_need_leaves) rfl
  obtain ⟨fd5, F5⟩ := cd.def_ 5 (d := ds_are_gates) rfl
  obtain ⟨fd6, F6⟩ := cd.def_ 6 (d := ds_satisfies) rfl
  obtain ⟨fd7, F7⟩ := cd.def_ 7 (d := ds_clause_of) rfl
  obtain ⟨fd8, F8⟩ := cd.def_ 8 (d := ds_clauses_of) rfl
  obtain ⟨fd9, F9⟩ := cd.def_ 9 (d := ds__law_pen) rfl
  obtain ⟨fd10, F10⟩ := cd.def_ 10 (d := ds__law_draw) rfl
  obtain ⟨fd11, F11⟩ := cd.def_ 11 (d := ds__law_pick) rfl
  obtain ⟨fd12, F12⟩ := cd.def_ 12 (d := ds__law_drawn_gates) rfl
  obtain ⟨fd13, F13⟩ := cd.def_ 13 (d := ds__law_values) rfl
  obtain ⟨fd14, F14⟩ := cd.def_ 14 (d := ds__law_bit) rfl
  obtain ⟨fd15, F15⟩ := cd.def_ 15 (d := ds__law_flip) rfl
  obtain ⟨fd16, F16⟩ := cd.def_ 16 (d := ds__law_longer) rfl
  obtain ⟨fd17, F17⟩ := cd.def_ 17 (d := ds__law_rows) rfl
  obtain ⟨fd18, F18⟩ := cd.def_ 18 (d := ds__law_literals) rfl
  obtain ⟨fd19, F19⟩ := cd.def_ 19 (d := ds__law_own_clause) rfl
  obtain ⟨fd20, F20⟩ := cd.def_ 20 (d := ds__law_own_clauses) rfl
  obtain ⟨fd21, F21⟩ := cd.def_ 21 (d := ds__law_keeps) rfl
  obtain ⟨fd22, F22⟩ := cd.def_ 22 (d := ds_law) rfl
  obtain ⟨fd23, F23⟩ := cd.def_ 23 (d := di_Graph__init__) rfl
  have glo : ∀ i x, fa[i]? = some (Fa.glo x) → mg x = some (.ref (ga K x)) := fun i x e => glo_ok X G (cd.fact i e)
  have fre : ∀ i x, fa[i]? = some (Fa.free x) → mg x = none := fun i x e => free_ok X G (cd.fact i e)
  have e := hfa.symm.trans (glo 22 "law" rfl)
  cases e
  have b0 : Binds K fd0 ["value", "least", "most"] [] := F0.bindsN fun _ _ _ _ _ _ us hl => match us, hl with | [_, _, _], _ => rfl
  have b1 : Binds K fd1 ["value", "least"] [] := F1.bindsN fun _ _ _ _ _ _ us hl => match us, hl with | [_, _], _ => rfl
  have b2 : Binds K fd2 ["value"] [] := F2.bindsN fun _ _ _ _ _ _ us hl => match us, hl with | [_], _ => rfl
  have b3 : Binds K fd3 ["value", "many", "least", "most"] [] := F3.bindsN fun _ _ _ _ _ _ us hl => match us, hl with | [_, _, _, _], _ => rfl
  have b4 : Binds K fd4 ["leaves"] [] := F4.bindsN fun _ _ _ _ _ _ us hl => match us, hl with | [_], _ => rfl
  have b5 : Binds K fd5 ["leaves", "value"] [] := F5.bindsN fun _ _ _ _ _ _ us hl => match us, hl with | [_, _], _ => rfl
  have b6 : Binds K fd6 ["assignment", "clause"] [] := F6.bindsN fun _ _ _ _ _ _ us hl => match us, hl with | [_, _], _ => rfl
  have b7 : Binds K fd7 ["literals"] [] := F7.bindsN fun _ _ _ _ _ _ us hl => match us, hl with | [_], _ => rfl
  have b8 : Binds K fd8 ["graph"] [] := F8.bindsN fun _ _ _ _ _ _ us hl => match us, hl with | [_], _ => rfl
  have b9 : Binds K fd9 ["_law_script"] [] := F9.bindsN fun _ _ _ _ _ _ us hl => match us, hl with | [_], _ => rfl
  have b10 : Binds K fd10 ["_law_pen_here", "_law_many"] [] := F10.bindsN fun _ _ _ _ _ _ us hl => match us, hl with | [_, _], _ => rfl
  have b11 : Binds K fd11 ["_law_pen_here", "_law_some"] [] := F11.bindsN fun _ _ _ _ _ _ us hl => match us, hl with | [_, _], _ => rfl
  have b12 : Binds K fd12 ["_law_pen_here", "_law_leaves", "_law_many"] [] := F12.bindsN fun _ _ _ _ _ _ us hl => match us, hl with | [_, _, _], _ => rfl
  have b13 : Binds K fd13 ["_law_leaves", "_law_gates", "_law_bits"] [] := F13.bindsN fun _ _ _ _ _ _ us hl => match us, hl with | [_, _, _], _ => rfl
  have b14 : Binds K fd14 ["_law_found", "_law_literal"] [] := F14.bindsN fun _ _ _ _ _ _ us hl => match us, hl with | [_, _], _ => rfl
  have b15 : Binds K fd15 ["_law_literal"] [] := F15.bindsN fun _ _ _ _ _ _ us hl => match us, hl with | [_], _ => rfl
  have b16 : Binds K fd16 ["_law_rows_here", "_law_many"] [] := F16.bindsN fun _ _ _ _ _ _ us hl => match us, hl with | [_, _], _ => rfl
  have b17 : Binds K fd17 ["_law_many"] [] := F17.bindsN fun _ _ _ _ _ _ us hl => match us, hl with | [_], _ => rfl
  have b18 : Binds K fd18 ["_law_pen_here", "_law_nodes", "_law_many"] [] := F18.bindsN fun _ _ _ _ _ _ us hl => match us, hl with | [_, _, _], _ => rfl
  have b19 : Binds K fd19 ["_law_literals_here"] [] := F19.bindsN fun _ _ _ _ _ _ us hl => match us, hl with | [_], _ => rfl
  have b20 : Binds K fd20 ["_law_leaves", "_law_gates"] [] := F20.bindsN fun _ _ _ _ _ _ us hl => match us, hl with | [_, _], _ => rfl
  have b21 : Binds K fd21 ["_law_bits", "_law_clause"] [] := F21.bindsN fun _ _ _ _ _ _ us hl => match us, hl with | [_, _], _ => rfl
  have b23 : Binds K fd23 ["self", "leaves", "gates"] [] := F23.bindsN fun _ _ _ _ _ _ us hl => match us, hl with | [_, _, _], _ => rfl
  have b := FunD.bindsA (ps := ["_law_script"]) F22 fun _ _ _ _ _ _ us hl => match us, hl with | [_], _ => rfl
  have g0 := glo 0 "is_between" rfl
  have g1 := glo 1 "is_from" rfl
  have g2 := glo 2 "is_row" rfl
  have g3 := glo 3 "is_row_between" rfl
  have g4 := glo 4 "need_leaves" rfl
  have g5 := glo 5 "are_gates" rfl
  have g6 := glo 6 "satisfies" rfl
  have g7 := glo 7 "clause_of" rfl
  have g8 := glo 8 "clauses_of" rfl
  have g9 := glo 9 "_law_pen" rfl
  have g10 := glo 10 "_law_draw" rfl
  have g11 := glo 11 "_law_pick" rfl
  have g12 := glo 12 "_law_drawn_gates" rfl
  have g13 := glo 13 "_law_values" rfl
  have g14 := glo 14 "_law_bit" rfl
  have g15 := glo 15 "_law_flip" rfl
  have g16 := glo 16 "_law_longer" rfl
  have g17 := glo 17 "_law_rows" rfl
  have g18 := glo 18 "_law_literals" rfl
  have g19 := glo 19 "_law_own_clause" rfl
  have g20 := glo 20 "_law_own_clauses" rfl
  have g21 := glo 21 "_law_keeps" rfl
  have g22 := glo 22 "law" rfl
  have ki : Ki.Tx mg := ⟨fre 24 "isinstance" rfl, fre 25 "int" rfl, fre 26 "bool" rfl, fre 27 "tuple" rfl, fre 28 "list" rfl, fre 29 "len" rfl, fre 30 "all" rfl⟩
  have pt : Pen.Txt mg := ⟨fre 29 "len" rfl, fre 25 "int" rfl, fre 28 "list" rfl⟩
  have lf : Lf.Tx mg := ⟨pt, fre 31 "abs" rfl, fre 32 "range" rfl, fre 27 "tuple" rfl⟩
  obtain ⟨e1, r1⟩ := and2 c.more
  obtain ⟨e2, r2⟩ := and2 r1
  obtain ⟨e3, r3⟩ := and2 r2
  obtain ⟨e4, r4⟩ := and2 r3
  obtain ⟨e5, e6⟩ := and2 r4
  have cl := cls_ok (cd.fact 37 (f := .cls "Graph") rfl)
  have mk := mkr_ok (cd.fact 40 (f := .mkr "Graph") rfl)
  have tg : Gr.Tx K mg (gr K) := ⟨ki, cl, noat_ok (cd.fact 38 (f := .noat "Graph" "leaves") rfl), noat_ok (cd.fact 39 (f := .noat "Graph" "gates") rfl), glo 23 "Graph" rfl, of_decide_eq_true e1, of_decide_eq_true e2, of_decide_eq_true e3,
    fun e => .ins e cl (of_decide_eq_true e1) (of_decide_eq_true e2) (of_decide_eq_true e3) (of_decide_eq_true e4), of_decide_eq_true e5, of_decide_eq_true e6⟩
  have cp : Cp.Tx mg := ⟨fre 31 "abs" rfl, fre 27 "tuple" rfl, fre 28 "list" rfl, fre 34 "sorted" rfl⟩
  have tl : Lc.Tx mg := ⟨lf, cp, fre 35 "dict" rfl, fre 36 "enumerate" rfl⟩
  have T : Le.Tx K mg (gr K) := ⟨tg, lf, tl, fre 33 "repr" rfl⟩
  refine ⟨fd22, fun s v => b s [v] rfl, fun base _ _ => ?_⟩
  have GRB : FnOk P w K mg base CX0 2 _ _ _ (spRowB K) := ok_rowB F3 ki F0 g0 F2 g2
  have GNe : FnOk P w K mg base CX0 2 _ _ _ spNeed := ok_need F4 ki F1 g1
  have GGa : FnOk P w K mg base CX0 3 _ _ _ (spGates K) := ok_gates F5 ki F2 g2 F3 g3 F0 g0
  have GIn : FnOk P w K mg base CX0 4 _ _ _ (spInit K (gr K)) := ok_init F23 tg GNe g4 F4.kp b4 GGa g5 F5.kp b5
  exact ok_law F22 T mk GIn b23 (ok_pen F9 pt) g9 F9.kp b9 (ok_draw F10 pt) g10 F10.kp b10 (ok_drawn F12 lf F10 g10) g12 F12.kp b12 (ok_pick F11 pt F10 g10) g11 F11.kp b11
    (ok_values F13 lf F14 g14) g13 F13.kp b13 (ok_rows F17 lf F16 g16) g17 F17.kp b17
    (ok_cls F8 tg F7 g7 cp) g8 F8.kp b8 (ok_owns F20 tl F19 g19 F15 g15) g20 F20.kp b20 (ok_sat F6 cp) g6 F6.kp b6 (ok_keeps F21 tl) g21 F21.kp b21
    (ok_lits F18 tl F10 g10) g18 F18.kp b18 (ok_cl F7 cp) g7 F7.kp b7 (ok_own F19 tl F15 g15) g19 F19.kp b19
end E20
open PySem PySem.W PySem.Calls PyProof.Rows
theorem PySem.Challenge.cw_everycycle_k20_whole_one_assignment_holds : PySem.Challenge.rw_everycycle_k20_whole_one_assignment.Holds := by
  w_on; o_law
  refine HandSHeadRun.head_any (r := OpenLaw.row PySem.Challenge.rw_everycycle_k20_whole_one_assignment) (q := view (OpenLaw.row PySem.Challenge.rw_everycycle_k20_whole_one_assignment).prog [31]) (H := E20.hk) (ob := E20.ob) (M := 4000) (loose := ["CycleError", "BadNumber", "BadRow", "is_between", "is_from", "is_row", "is_row_between", "Graph", "need_leaves", "are_gates", "satisfies", "clause_of", "clauses_of", "_law_pen", "_law_draw", "_law_pick", "_law_drawn_gates", "_law_values", "_law_bit", "_law_flip", "_law_longer", "_law_rows", "_law_literals", "_law_own_clause", "_law_own_clauses", "_law_keeps"]) (d := HandSHeadRun.topDef (OpenLaw.row PySem.Challenge.rw_everycycle_k20_whole_one_assignment).prog 31) (kwd := []) E20.ob_eq
    (by kernel_rfl) (fun s => by kernel_rfl) E20.run (by kernel_rfl) (by kernel_rfl) (by kernel_rfl) (by rfl) (by first | assumption | decide +kernel) (by decide +kernel) ⟨rfl, rfl, rfl, rfl, rfl, by decide +kernel⟩ ?hw ?hc
  case hw => w_witness2
  case hc =>
    refine Gd.walk_go (l := PySem.Challenge.rw_everycycle_k20_whole_one_assignment) (n := 63) (k := 6) (x := "_law_script") (CX := L2.CX0) rfl (by decide) (by kernel_rfl) ⟨rfl, by decide, by decide⟩ ?F (fun _ _ _ _ z => z)
    intro w mg fa h Y G hmg0
    obtain ⟨K, KX, c⟩ := Y
    have hmg : mg ("law" : PySem.Str) = some (.ref fa) := by
      have e : (HandSHeadRun.topDef (OpenLaw.row PySem.Challenge.rw_everycycle_k20_whole_one_assignment).prog 31).name = ("law" : PySem.Str) := by kernel_rfl
      rw [← e]
      exact hmg0
    obtain ⟨fd, hb, hF⟩ := E20.facts (P := (PySem.Challenge.rw_everycycle_k20_whole_one_assignment).prog) (w := w) KX G hmg c
    exact ⟨K, fd, Le.spLaw K, KX, hb, fun H a ns hl _ hS => ⟨a, ns, rfl, hS, hl, fun _ => rfl⟩, hF⟩
