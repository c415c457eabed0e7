import PyProof.Rows.All
import Wide.All
import OpenK.AllK
import Wide.FinOn
import Lean
import HandS.ForMost
import HandS.Codes
import HandS.Defaults
import HandS.Wide
import HandS.DeepEq
import HandS.Exc
import HandS.ExcInit
import HandS.ExcValue
import HandS.IsInst
import HandS.TupAny
import HandS.OwnEq
import HandS.Star
import HandS.Head0
import HandS.Head1
import HandS.Head2
import HandS.HeadEnd
import HandS.HeadHook1
import HandS.HeadHook2
import HandS.HeadHook3
import HandS.HeadHook4
import HandS.ExcIs
import HandS.ExcField
import KE.KExcIs
import PySem.Challenge.RW_everycycle_k15_whole_graphs
set_option Elab.async false
set_option linter.all false
set_option maxRecDepth 100000
set_option maxHeartbeats 4000000
namespace Gd
open PySem PySem.Spec PyProof.Rows L2
/-! ## What a def does where no repr is under way: the promise of FnOk, for such callers alone -/
structure FnG (P : Program) (w : World) (K : PySem.W.Frag) (mg : Str → Option Value) (base : Heap) (CX : CXT) (k : Nat) (f : Addr) (fd : FuncData) (ps : List Str) (sp : Sp) : Prop where
  many : ∀ vs H Q E, sp vs H Q E → vs.length = ps.length
  go : ∀ (A : Around) (fs : List Env) (s : Shared) (H : Hp) (ag : Args) (us : List Value) (vs : List V) (Q : VK) (E : XK), A.guards = some [] → Room k A → Env0 P w K mg base A fs s H →
    BindsTo s fd ag (ps.zip us) → Vals vs us → sp vs H Q E → codeAny (model P w) A (.call (.ref f) ag) (CR CX fs P w H s Q E) s
section
variable {P : Program} {w : World} {K : PySem.W.Frag} {mg : Str → Option Value} {base : Heap} {CX : CXT} {k : Nat} {f : Addr} {fd : FuncData} {ps : List Str} {sp : Sp}
theorem FnG.of (F : FnOk P w K mg base CX k f fd ps sp) : FnG P w K mg base CX k f fd ps sp := ⟨F.len, fun A fs s H ag us vs Q E _ => F.run A fs s H ag us vs Q E⟩
/-- from the def's body -/
theorem FnG.mk_of {x qual : Str} {params : Arguments} {body : List Stmt} {scope : Scope} {dvs : List V} {kws : List (Str × V)} {N : List Str}
    (F : FunD K x qual params body scope dvs kws f fd) (S : FnScope N ps scope) (many : ∀ vs H Q E, sp vs H Q E → vs.length = ps.length)
    (walk : ∀ (cv : Value) (A : Around) (fs : List Env) (s : Shared) (H : Hp) (vs : List V) (Q : VK) (E : XK), A.guards = some [] → Room k (A.deeper (envOfC qual scope s.heap.objs.size f cv)) → sp vs H Q E →
      ∃ t, PSs (cxOf CX P w K mg base N qual scope f cv A fs s H E) body t ∧ t { nx := fun _ H' => Q .non H', rt := Q } (start N vs) H) :
    FnG P w K mg base CX (k + 1) f fd ps sp := by
  obtain ⟨_, _, _, _, _, _, _, cv, _, _, rfl, look, code, _, _⟩ := F.ex
  refine ⟨many, fun A fs s H ag us vs Q E hg room e bind rel prom => ?_⟩
  have kin : K.In s.heap := e.mod.kin.keeps fun b u z => (e.bs b u z).1
  have kinds : ∀ y ∈ ps.zip us, scope.names.lookup y.1 = some .local ∨ (scope.names.lookup y.1 = some .cell ∧ ((cellsFrom (s.heap.objs.size + 1) scope.names []).lookup y.1).isSome = true) := by
    rintro ⟨y, u⟩ hy
    rcases S.par y (List.of_mem_zip hy).1 with q | q
    · exact Or.inl q
    · exact Or.inr ⟨q, PySem.W.cellsFrom_some _ _ _ (Or.inl q)⟩
  refine codeAny_call_function room.depth (kin _ _ look) rfl S.co S.gen rfl (PySem.W.codeRec_of kin code) (bind _ _ _ _ ?_)
  refine wpAny_newFunctionEnv_cells S.kind kinds ?_
  rintro env rfl s1 hs1
  refine ⟨(e.mod.nolimit.keeps fun b u z => (e.bs b u z).1).keeps hs1.toInCall.keep, codeAny_func ?_⟩
  obtain ⟨t, ht, q⟩ := walk cv A fs s H vs Q E hg (room.deeper _) prom
  have I := inv_start (CX := CX) (E := E) S room.hd e (many _ _ _ _ prom) rel hs1
  refine wpAny_mono (ht.run [] s1 (start N vs) H _ I q) (fun fl s2 z => ?_) (fun _ _ z => z)
  match fl, z with
  | .ret u, ⟨v, σ', H', J, rv, q⟩ => exact ⟨v, H', J.os, J.bare, J.base, J.hok, rv, q⟩
  | .next, ⟨σ', H', J, q⟩ => exact ⟨V.non, H', J.os, J.bare, J.base, J.hok, rfl, q⟩
  | .brk, ⟨_, _, _, q⟩ => exact q.elim
  | .cont, ⟨_, _, _, q⟩ => exact q.elim
end
/-- the script's object -/
abbrev scr (vs : List Value) : Obj := { cls := .type "list", data := .seq vs.toArray }
/-- the heap in which the script alone is tracked, if the top did not write it -/
def onlyScr (K : PySem.W.Frag) (a : Addr) (vs : List Value) (ns : List Int) : Hp := fun b => if b = a ∧ (K.lookup a).isNone = true then some (.frz (scr vs) (.lst (ns.map V.int))) else none
theorem onlyScr_get {K : PySem.W.Frag} {a b : Addr} {vs : List Value} {ns : List Int} {o : HO} (h : onlyScr K a vs ns b = some o) : b = a ∧ K.lookup a = none ∧ o = .frz (scr vs) (.lst (ns.map V.int)) := by
  unfold onlyScr at h
  split at h
  · rename_i c
    exact ⟨c.1, Option.isNone_iff_eq_none.mp c.2, (Option.some.inj h).symm⟩
  · cases h
/-- the law is called with its script -/
theorem law_go {P : Program} {w : World} {K : PySem.W.Frag} {mg mb : Str → Option Value} {CX : CXT} {k : Nat} {f a : Addr} {fd : FuncData} {x : Str} {sp : Sp} {s : Shared} {vs : List Value} {ns : List Int}
    (kin : K.In s.heap) (hm : s.heap.Ns mainGlobals mg) (hb : s.heap.Ns builtinsNs mb) (hbb : ∀ y : Str, y ≠ "__name__" → mb y = bootBuiltins y) (lim : s.heap.NoLimit) (hgen : s.gens = #[])
    (ha : s.heap.get? a = some (scr vs)) (hi : IntsAre vs ns) (hl : ns.length ≤ sizeLine) (hr : Room k callerA)
    (F : ∀ base : Heap, K.In base → base.Ns mainGlobals mg → FnG P w K mg base CX k f fd [x] sp) (bind : ∀ (s : Shared) (u : Value), BindsTo s fd ⟨[u], []⟩ [(x, u)])
    (prom : ∀ H : Hp, Only H → SqL K H a (ns.map V.int) → sp [.ref a] H (fun v _ => v = .bl true) fun _ _ _ => False)
    (none_out : ∀ H e s', CX [] H s (fun _ _ _ => False) e s' → False) :
    codeAny (model P w) callerA (.call (.ref f) ⟨[.ref a], []⟩) (fun r s' => r = .ok (.ret (.bool true)) ∧ OldK s.heap s'.heap ∧ s'.os = s.os ∧ AllBare s'.gens) s := by
  have hv := vals_ints hi
  have hlen := hi.length
  let H := onlyScr K a vs ns
  have gone : ∀ {b : Addr} {o : Obj}, K.lookup b = some o → H b = none := fun {b o} q => by
    cases e : H b with
    | none => rfl
    | some u =>
      obtain ⟨rfl, n, _⟩ := onlyScr_get e
      rw [n] at q
      cases q
  have ns_free : ∀ {b : Addr} {o : Obj} {es : Array DictEntry} {ep : Nat}, s.heap.get? b = some o → o.data = .dict es ep → H b = none := fun {b o es ep} q d => by
    cases e : H b with
    | none => rfl
    | some u =>
      obtain ⟨rfl, _, _⟩ := onlyScr_get e
      rw [ha] at q
      cases q
      cases d
  have stays : ∀ {b : Addr} {m : Str → Option Value}, s.heap.Ns b m → (hidT s.heap H).Ns b m := fun ⟨o, es, ep, q, d, r⟩ => ⟨o, es, ep, hidT_get q (ns_free q d), d, r⟩
  have kinT : K.In (hidT s.heap H) := fun b o q => hidT_get (kin b o q) (gone q)
  have hok : HOk P w H s.heap := fun b u q => by
    obtain ⟨rfl, _, rfl⟩ := onlyScr_get q
    exact ⟨ha, by rw [List.length_map]; exact hl, vs, _, hv, ha⟩
  have hO : Only H := fun b => by
    cases e : H b with
    | none => exact Or.inl rfl
    | some u =>
      obtain ⟨_, _, rfl⟩ := onlyScr_get e
      exact Or.inr ⟨_, _, rfl⟩
  have hS : SqL K H a (ns.map V.int) := by
    cases e : K.lookup a with
    | none => exact .inl (.inr ⟨scr vs, if_pos ⟨rfl, by rw [e]; rfl⟩⟩)
    | some o =>
      have q := kin a o e
      rw [ha] at q
      cases q
      exact .inr ⟨_, vs.toArray, _, e, rfl, rfl, rfl, by rw [List.size_toArray, hlen]; exact hl, by simpa using hv⟩
  obtain ⟨mc, l1, l2⟩ := lim
  have e0 : Env0 P w K mg (hidT s.heap H) callerA [] s H := by
    refine ⟨rfl, ⟨kinT, stays hm, ⟨mb, stays hb, hbb⟩, ⟨mc, stays l1, l2⟩⟩, fun b o q => of_hidT q, Nat.le_of_eq (hidT_size _ _), trivial, fun b q => ?_, hok, .of_eq hgen⟩
    cases q
  refine codeAny_mono ((F _ kinT (stays hm)).go callerA [] s H ⟨[.ref a], []⟩ [.ref a] [.ref a] _ _ rfl hr e0 (bind s (.ref a)) (.cons rfl .nil) (prom H hO hS)) fun r s' h => ?_
  match r, h with
  | .error e, h => exact (none_out H e s' h).elim
  | .ok .next, h => exact h.elim
  | .ok .brk, h => exact h.elim
  | .ok .cont, h => exact h.elim
  | .ok (.ret u), ⟨v, H', os, bare, un, hok', rv, q⟩ =>
    have q' : v = .bl true := q
    subst q'
    have hu : u = Value.bool true := rv
    subst hu
    refine ⟨rfl, OldK.of_keep fun b o z => ?_, os, bare⟩
    cases e : H b with
    | none => exact un.keep b o z e (by intro y; cases y) (by simp)
    | some t =>
      obtain ⟨rfl, _, rfl⟩ := onlyScr_get e
      rw [ha] at z
      cases z
      exact (hok' b _ (un.frzs b _ _ e)).1
/-- the end of a law -/
theorem walk_go {l : PySem.W.OpenLaw} {n k : Nat} {q : Program} {loose : List Str} {XP : (Str → Option Value) → Heap → Prop} {YP : World → Heap → Prop} {d : DefRec} {CX : CXT} {x : Str}
    (hn : l.most = some n) (hn2 : n ≤ sizeLine) (hdf : d.params.defaults = []) (hr : Room k callerA)
    (F : ∀ (w : World) (mg : Str → Option Value) (f : Addr) (h : Heap), YP w h → h.Ns mainGlobals mg → mg d.name = some (.ref f) → ∃ (K : PySem.W.Frag) (fd : FuncData) (sp : Sp), K.In h ∧ (∀ (s : Shared) (u : Value), BindsTo s fd ⟨[u], []⟩ [(x, u)]) ∧
      (∀ (H : Hp) (a : Addr) (ns : List Int), ns.length ≤ n → Only H → SqL K H a (ns.map V.int) → sp [.ref a] H (fun v _ => v = .bl true) fun _ _ _ => False) ∧ ∀ base : Heap, K.In base → base.Ns mainGlobals mg → FnG l.prog w K mg base CX k f fd [x] sp)
    (none_out : ∀ (H : Hp) (s : Shared) (e : Value) (s' : Shared), CX [] H s (fun _ _ _ => False) e s' → False) : PySem.W.WalkO q loose XP YP l.row.toRowW d [] (fun f vs => PySem.call f vs) :=
  Att.attach_call hn hdf fun w _ s _ _ f _ _ _ _ a _ ns G Y _ _ _ hmg hobj hints hlen hgen =>
    let ⟨_, _, _, kin, bind, prom, ok⟩ := F w _ f _ Y G.T.g hmg
    law_go kin G.T.g G.T.b G.T.builtins G.T.nolimit hgen hobj hints (Nat.le_trans hlen hn2) hr ok bind (fun H hO hS => prom H a ns hlen hO hS) fun H e s' => none_out H s e s'
/-! ## repr of data -/
section
variable {X : Cx}
/-- repr(x), x data of any depth but dicts -/
def rRepr (K : PySem.W.Frag) : List V → Hp → VK → Prop := fun xs H Q => ∃ (a : Addr) (d : PyData), xs = [.ref a] ∧ Dp K H (.ref a) d ∧ d.showable = true ∧ d.hasDict = false ∧ d.depth ≤ 60 ∧ d.shown.length ≤ sizeLine ∧ Q (.str d.shown) H
theorem call_repr {k : Nat} (hg : X.A.guards = some []) (hr : Room k X.A) : CallR X (.builtin "repr") (rRepr X.K) := by
  intro pins s σ H xs us Q I r h
  obtain ⟨a, d, rfl, hd, h1, h2, h3, h4, q⟩ := h
  obtain ⟨u, rfl, ru⟩ := vals1 r
  obtain ⟨as, rd⟩ := Dp.reads I d _ u hd ru
  have hu : u = Value.ref a := ru
  subst hu
  have room := hr.un
  refine repr_of_reads' rd h1 (fun z => by rw [h2] at z; cases z) hg (by omega) (fun _ _ e => e) (fun h' t tk hk => ?_) h4
  exact ⟨.str d.shown, H, I.kept hk, ⟨t, rfl⟩, q⟩
end
end Gd
namespace Dat
open PySem PySem.Spec PyProof.Rows L2
/-! ## Data of any depth: its kind, and that it stays -/
def isIntD : PyData → Bool
  | .int _ => true
  | .bool _ => true
  | _ => false
def isBoolD : PyData → Bool
  | .bool _ => true
  | _ => false
def isRowD : PyData → Bool
  | .list _ => true
  | .tuple _ => true
  | _ => false
def clsD : PyData → String
  | .none => "NoneType"
  | .bool _ => "bool"
  | .int _ => "int"
  | .str _ => "str"
  | .list _ => "list"
  | .tuple _ => "tuple"
  | .dict _ => "dict"
section
variable {K : PySem.W.Frag} {H H' : Hp} {v : V} {d : PyData}
theorem ty_list {a : Addr} {xs : List V} (h : SqL K H a xs) : TyX K H (.ref a) (.type "list") := by
  rcases h with (h | ⟨o, h⟩) | ⟨o, its, n, h1, h2, _⟩
  · exact .base (.lst h)
  · exact .base (.frz h)
  · exact .kList h1 h2
theorem ty_tup {a : Addr} {xs : List V} (h : SqT K H a xs) : TyX K H (.ref a) (.type "tuple") := by
  rcases h with (h | ⟨o, h⟩) | ⟨o, its, n, h1, h2, _⟩
  · exact .base (.tup h)
  · exact .fTuple h
  · exact .kTuple h1 h2
theorem ty_of (h : Dp K H v d) : TyX K H v (.type (clsD d)) := by
  cases h with
  | non => exact .base .non
  | bl b => exact .base (.bl b)
  | int i => exact .base (.int i)
  | str x => exact .base (.str x)
  | lst hs _ => exact ty_list hs
  | tup hs _ => exact ty_tup hs
theorem kit_int (h : Dp K H v d) : PySem.W.kitOne K (.type (clsD d)) (.type "int") = some (isIntD d) := by
  cases h with
  | non => exact kit_ty (a := "NoneType") (b := "int") (r := false) (by decide +kernel)
  | bl _ => exact kit_ty (a := "bool") (b := "int") (r := true) (by decide +kernel)
  | int _ => exact kit_ty (a := "int") (b := "int") (r := true) (by decide +kernel)
  | str _ => exact kit_ty (a := "str") (b := "int") (r := false) (by decide +kernel)
  | lst _ _ => exact kit_ty (a := "list") (b := "int") (r := false) (by decide +kernel)
  | tup _ _ => exact kit_ty (a := "tuple") (b := "int") (r := false) (by decide +kernel)
theorem kit_bool (h : Dp K H v d) : PySem.W.kitOne K (.type (clsD d)) (.type "bool") = some (isBoolD d) := by
  cases h with
  | non => exact kit_ty (a := "NoneType") (b := "bool") (r := false) (by decide +kernel)
  | bl _ => exact kit_ty (a := "bool") (b := "bool") (r := true) (by decide +kernel)
  | int _ => exact kit_ty (a := "int") (b := "bool") (r := false) (by decide +kernel)
  | str _ => exact kit_ty (a := "str") (b := "bool") (r := false) (by decide +kernel)
  | lst _ _ => exact kit_ty (a := "list") (b := "bool") (r := false) (by decide +kernel)
  | tup _ _ => exact kit_ty (a := "tuple") (b := "bool") (r := false) (by decide +kernel)
theorem kit_row (h : Dp K H v d) : PySem.W.kitAny K (.type (clsD d)) [.type "tuple", .type "list"] = some (isRowD d) := by
  cases h with
  | non => exact kitAny_cons (b := false) (kit_ty (a := "NoneType") (b := "tuple") (r := false) (by decide +kernel)) (fun _ => kitAny_cons (b := false) (kit_ty (a := "NoneType") (b := "list") (r := false) (by decide +kernel)) (fun _ => rfl) (fun z => by cases z)) (fun z => by cases z)
  | bl _ => exact kitAny_cons (b := false) (kit_ty (a := "bool") (b := "tuple") (r := false) (by decide +kernel)) (fun _ => kitAny_cons (b := false) (kit_ty (a := "bool") (b := "list") (r := false) (by decide +kernel)) (fun _ => rfl) (fun z => by cases z)) (fun z => by cases z)
  | int _ => exact kitAny_cons (b := false) (kit_ty (a := "int") (b := "tuple") (r := false) (by decide +kernel)) (fun _ => kitAny_cons (b := false) (kit_ty (a := "int") (b := "list") (r := false) (by decide +kernel)) (fun _ => rfl) (fun z => by cases z)) (fun z => by cases z)
  | str _ => exact kitAny_cons (b := false) (kit_ty (a := "str") (b := "tuple") (r := false) (by decide +kernel)) (fun _ => kitAny_cons (b := false) (kit_ty (a := "str") (b := "list") (r := false) (by decide +kernel)) (fun _ => rfl) (fun z => by cases z)) (fun z => by cases z)
  | lst _ _ => exact kitAny_cons (b := false) (kit_ty (a := "list") (b := "tuple") (r := false) (by decide +kernel)) (fun _ => kitAny_cons (b := true) (kit_ty (a := "list") (b := "list") (r := true) (by decide +kernel)) (fun z => by cases z) (fun _ => rfl)) (fun z => by cases z)
  | tup _ _ => exact kitAny_cons (b := true) (kit_ty (a := "tuple") (b := "tuple") (r := true) (by decide +kernel)) (fun z => by cases z) (fun _ => rfl)
theorem seqT_same {a : Addr} {xs : List V} (s : Same H H') (h : SqT K H a xs) : SqT K H' a xs :=
  h.elim (fun h => .inl (h.elim (fun h => .inl (s _ _ h)) fun ⟨o, h⟩ => .inr ⟨o, s _ _ h⟩)) .inr
mutual
theorem dp_same (s : Same H H') : ∀ {d : PyData} {v : V}, Dp K H v d → Dp K H' v d
  | .none, _, h => by
    cases h
    exact .non
  | .bool b, _, h => by
    cases h
    exact .bl b
  | .int i, _, h => by
    cases h
    exact .int i
  | .str x, _, h => by
    cases h
    exact .str x
  | .list ds, _, h => by
    cases h with
    | lst hs ha => exact .lst (s.seq hs) (dps_same s ha)
  | .tuple ds, _, h => by
    cases h with
    | tup hs ha => exact .tup (seqT_same s hs) (dps_same s ha)
  | .dict _, _, h => by cases h
theorem dps_same (s : Same H H') : ∀ {ds : List PyData} {vs : List V}, DpAll K H vs ds → DpAll K H' vs ds
  | [], _, h => by
    cases h
    exact .nil
  | d :: ds, _, h => by
    cases h with
    | cons h1 h2 => exact .cons (dp_same s h1) (dps_same s h2)
end
theorem dps_len : ∀ {vs : List V} {ds : List PyData}, DpAll K H vs ds → vs.length = ds.length
  | _, [], h => by
    cases h
    rfl
  | _, _ :: _, h => by
    cases h with
    | cons _ h2 => exact congrArg Nat.succ (dps_len h2)
theorem dps_get : ∀ {vs : List V} {ds : List PyData}, DpAll K H vs ds → ∀ {i : Nat} {v : V}, vs[i]? = some v → ∃ d, ds[i]? = some d ∧ Dp K H v d
  | _, [], h, i, v, e => by
    cases h
    simp at e
  | _, d :: ds, h, i, v, e => by
    cases h with
    | cons h1 h2 =>
      cases i with
      | zero =>
        simp at e
        subst e
        exact ⟨d, rfl, h1⟩
      | succ i =>
        simp at e
        obtain ⟨d', q1, q2⟩ := dps_get h2 e
        exact ⟨d', by simpa using q1, q2⟩
end
end Dat
namespace Pen
open PySem
def top (i : Nat) : Stmt := PySem.Challenge.pw_everycycle_k15_whole_graphs.main.body.getD i (.Pass ⟨0, 0, 0, 0⟩)
abbrev sBetween : Stmt := top 5
abbrev sFrom : Stmt := top 6
abbrev sRow : Stmt := top 7
abbrev sRowB : Stmt := top 8
abbrev cGraph : Stmt := top 10
abbrev sNeed : Stmt := top 11
abbrev sGates : Stmt := top 12
abbrev sNode : Stmt := top 13
abbrev sLit : Stmt := top 14
abbrev sPen : Stmt := top 16
abbrev sDraw : Stmt := top 17
abbrev sPick : Stmt := top 18
abbrev sDrawn : Stmt := top 19
abbrev sValues : Stmt := top 20
abbrev sBit : Stmt := top 21
abbrev sLonger : Stmt := top 22
abbrev sRows : Stmt := top 23
abbrev sLaw : Stmt := top 24
end Pen
namespace Pen
open PySem PySem.Spec PyProof.Rows L2
/-! ## The pen: the source of all draws. Its three defs, once for each law -/
abbrev FnP (K : PySem.W.Frag) (x : Str) (st : Stmt) (f : Addr) (fd : FuncData) : Prop := FunD K x x (defArgs st) (defBody st) (defScope st) [] [] f fd
/-- the pen's pairs: cells, at, digits, count, fold -/
def cols (c : Addr) (a d n f : Int) : List (Key × V) := [(.inr "cells", .ref c), (.inr "at", .int a), (.inr "digits", .int d), (.inr "count", .int n), (.inr "fold", .int f)]
section
variable {c : Addr} {a d n f z : Int}
theorem get_cells : valV (cols c a d n f) (.inr "cells" : Key) = some (.ref c) := by rfl
theorem get_at : valV (cols c a d n f) (.inr "at" : Key) = some (.int a) := by rfl
theorem get_digits : valV (cols c a d n f) (.inr "digits" : Key) = some (.int d) := by rfl
theorem get_count : valV (cols c a d n f) (.inr "count" : Key) = some (.int n) := by rfl
theorem get_fold : valV (cols c a d n f) (.inr "fold" : Key) = some (.int f) := by rfl
theorem put_at : putK (cols c a d n f) (.inr "at" : Key) (.int z) = cols c z d n f := by rfl
theorem put_digits : putK (cols c a d n f) (.inr "digits" : Key) (.int z) = cols c a z n f := by rfl
theorem put_count : putK (cols c a d n f) (.inr "count" : Key) (.int z) = cols c a d z f := by rfl
theorem put_fold : putK (cols c a d n f) (.inr "fold" : Key) (.int z) = cols c a d n z := by rfl
variable {H : Hp} {p : Addr}
theorem dg_cells (h : H p = some (.dK (cols c a d n f))) : DGet H p (.str "cells") (some (.ref c)) := DGet.k (k := .inr "cells") h
theorem dg_at (h : H p = some (.dK (cols c a d n f))) : DGet H p (.str "at") (some (.int a)) := DGet.k (k := .inr "at") h
theorem dg_digits (h : H p = some (.dK (cols c a d n f))) : DGet H p (.str "digits") (some (.int d)) := DGet.k (k := .inr "digits") h
theorem dg_count (h : H p = some (.dK (cols c a d n f))) : DGet H p (.str "count") (some (.int n)) := DGet.k (k := .inr "count") h
theorem dg_fold (h : H p = some (.dK (cols c a d n f))) : DGet H p (.str "fold") (some (.int f)) := DGet.k (k := .inr "fold") h
theorem five : 5 < sizeLine := by decide
theorem dp_at (h : H p = some (.dK (cols c a d n f))) : DPut H p (.str "at") (.int z) (upd H p (.dK (cols c z d n f))) := DPut.k (k := .inr "at") h five
theorem dp_digits (h : H p = some (.dK (cols c a d n f))) : DPut H p (.str "digits") (.int z) (upd H p (.dK (cols c a z n f))) := DPut.k (k := .inr "digits") h five
theorem dp_count (h : H p = some (.dK (cols c a d n f))) : DPut H p (.str "count") (.int z) (upd H p (.dK (cols c a d z f))) := DPut.k (k := .inr "count") h five
theorem dp_fold (h : H p = some (.dK (cols c a d n f))) : DPut H p (.str "fold") (.int z) (upd H p (.dK (cols c a d n z))) := DPut.k (k := .inr "fold") h five
end
/-- a pen stands at p, its cells at c; so many draws were made at most -/
def PenC (H : Hp) (p c : Addr) (m : Nat) : Prop :=
  ∃ (ns : List Int) (a d n f : Int), H p = some (.dK (cols c a d n f)) ∧ H c = some (.lst (ns.map V.int)) ∧ ns.length ≤ 1000 ∧ 0 ≤ a ∧ 0 ≤ n ∧ n ≤ m ∧ 0 ≤ f ∧ f < 2147483648
/-- all but the object at p stands as it stood -/
def But (p : Addr) (H H' : Hp) : Prop := ∀ b o, H b = some o → b ≠ p → H' b = some o
theorem But.upd {p : Addr} {H : Hp} {o : HO} : But p H (upd H p o) := fun b o e h => by
  rw [upd_ne h]
  exact e
theorem But.trans {p : Addr} {H H1 H2 : Hp} (a : But p H H1) (b : But p H1 H2) : But p H H2 := fun c o e h => b c o (a c o e h) h
theorem But.refl {p : Addr} {H : Hp} : But p H H := fun _ _ e _ => e
theorem But.of_same {p : Addr} {H H' : Hp} (s : Same H H') : But p H H' := fun c o e _ => s c o e
theorem PenC.same {H H' : Hp} {p c : Addr} {m : Nat} (h : PenC H p c m) (s : Same H H') : PenC H' p c m := by
  obtain ⟨ns, a, d, n, f, h1, h2, r⟩ := h
  exact ⟨ns, a, d, n, f, s _ _ h1, s _ _ h2, r⟩
theorem PenC.more {H : Hp} {p c : Addr} {m m' : Nat} (h : PenC H p c m) (s : m ≤ m') : PenC H p c m' := by
  obtain ⟨ns, a, d, n, f, h1, h2, h3, ha, h4, h5, r⟩ := h
  exact ⟨ns, a, d, n, f, h1, h2, h3, ha, h4, by omega, r⟩
theorem PenC.upd {H : Hp} {p c q : Addr} {m : Nat} {o : HO} (h : PenC H p c m) (n1 : q ≠ p) (n2 : q ≠ c) : PenC (upd H q o) p c m := by
  obtain ⟨ns, a, d, n, f, h1, h2, r⟩ := h
  exact ⟨ns, a, d, n, f, by rw [upd_ne n1.symm]; exact h1, by rw [upd_ne n2.symm]; exact h2, r⟩
theorem PenC.free {H : Hp} {p c q : Addr} {m : Nat} (h : PenC H p c m) (e : H q = none) : q ≠ p ∧ q ≠ c := by
  obtain ⟨ns, a, d, n, f, h1, h2, r⟩ := h
  refine ⟨fun z => ?_, fun z => ?_⟩
  · rw [z, h1] at e
    cases e
  · rw [z, h2] at e
    cases e
/-- the script, as each def is handed it -/
def spPen (K : PySem.W.Frag) : Sp := fun vs H Q _ => ∃ (a : Addr) (ns : List Int), vs = [.ref a] ∧ SqL K H a (ns.map V.int) ∧ ns.length ≤ 63 ∧
  ∀ (p c : Addr) (H' : Hp), H p = none → Same H H' → PenC H' p c 0 → Q (.ref p) H'
def spDraw : Sp := fun vs H Q _ => ∃ (p c : Addr) (m : Nat) (many : Int), vs = [.ref p, .int many] ∧ PenC H p c m ∧ m ≤ 1000000000000 ∧ 0 < many ∧ many < 1073741824 ∧
  ∀ (r : Int) (H' : Hp), 0 ≤ r → r < many → PenC H' p c (m + 1) → But p H H' → Q (.int r) H'
def spPick (K : PySem.W.Frag) : Sp := fun vs H Q _ => ∃ (p c l : Addr) (m : Nat) (xs : List V), vs = [.ref p, .ref l] ∧ PenC H p c m ∧ m ≤ 1000000000000 ∧ l ≠ p ∧ SqL K H l xs ∧ 0 < xs.length ∧ xs.length ≤ 1000 ∧
  ∀ (v : V) (i : Nat) (H' : Hp), xs[i]? = some v → PenC H' p c (m + 1) → But p H H' → Q v H'
abbrev pN : List Str := ["_law_script", "_law_fold", "_law_cell"]
abbrev dN : List Str := ["_law_pen_here", "_law_many", "_law_cell", "_law_digit", "_law_blend"]
abbrev kN : List Str := ["_law_pen_here", "_law_some"]
theorem int_item {ns : List Int} {i : Nat} {y : V} (h : (ns.map V.int)[i]? = some y) : ∃ z, y = V.int z := by
  rw [List.getElem?_map] at h
  cases e : ns[i]? with
  | none =>
    rw [e] at h
    cases h
  | some u =>
    rw [e] at h
    exact ⟨u, (Option.some.inj h).symm⟩
structure Txt (mg : Str → Option Value) : Prop where
  len : mg "len" = none
  int : mg "int" = none
  list : mg "list" = none
section
variable {P : Program} {w : World} {K : PySem.W.Frag} {mg : Str → Option Value} {base : Heap} {f : Addr} {fd : FuncData}
theorem scPen : FnScope pN ["_law_script"] (defScope sPen) := ⟨rfl, rfl, rfl, by decide +kernel, rfl, by decide +kernel, by decide +kernel⟩
theorem scDraw : FnScope dN ["_law_pen_here", "_law_many"] (defScope sDraw) := ⟨rfl, rfl, rfl, by decide +kernel, rfl, by decide +kernel, by decide +kernel⟩
theorem scPick : FnScope kN ["_law_pen_here", "_law_some"] (defScope sPick) := ⟨rfl, rfl, rfl, by decide +kernel, rfl, by decide +kernel, by decide +kernel⟩
theorem ok_pen {CX : CXT} (F : FnP K "_law_pen" sPen f fd) (T : Txt mg) : FnOk P w K mg base CX 1 f fd ["_law_script"] (spPen K) := by
  refine F.ok scPen (fun vs H Q E h => ?_) (fun cdv A outer s H vs Q E hr h => ?_)
  · obtain ⟨a, ns, rfl, _⟩ := h
    rfl
  · obtain ⟨a, ns, rfl, hS, hl, k⟩ := h
    refine ⟨_, PSs.nox (pss_cons (ps_set (i := 1) scPen.nd rfl (Or.inl rfl) pe_int)
      (pss_cons (ps_for PassesOwn.never rfl (pi_list (pv 0)) (pg_name (i := 2) scPen.nd rfl (Or.inl rfl))
        (pss_one (ps_set (i := 1) scPen.nd rfl (Or.inl rfl) (pe_op op_mod (pe_callTy call_int1 (by rfl) T.int (by decide +kernel) (pa_cons (pe_op op_add (pe_op op_mul (pv 1) pe_int) (pv 2)) pa_nil)) pe_int))))
      (pss_one (ps_ret (pe_disp (pps_cons pe_str (pe_callTy call_list_of (by rfl) T.list (by decide +kernel) (pa_cons (pv 0) pa_nil)) (pps_cons pe_str pe_int (pps_cons pe_str pe_int (pps_cons pe_str pe_int (pps_cons pe_str (pv 1) pps_nil))))) (by rfl) (by rfl) (fun z => by cases z) (by decide)))))), ?_⟩
    refine ⟨_, rfl, a, rfl, ⟨_, hS⟩, for_list (K := K) (a := a) (xs := ns.map V.int) (fun i σ H2 => ∃ (z : Int) (v : Option V), σ = [some (.ref a), some (.int z), v] ∧ H2 = H ∧ 0 ≤ z ∧ z < 1000000007)
      ⟨0, none, rfl, rfl, by decide, by decide⟩ (fun i σ H2 _ ⟨_, _, _, e, _⟩ => by rw [e]; exact hS) ?_ ?_⟩
    · rintro i y σ H2 hi ⟨z, v, rfl, rfl, h0, h1⟩
      obtain ⟨u, rfl⟩ := int_item hi
      refine ⟨_, rfl, _, _, rfl, rfl, .inr ⟨by decide, by decide⟩, _, rfl, _, _, rfl, rfl, .inl ⟨_, rfl, _, _, rfl, rfl, (by show (0 : Int) < 1000000007; decide), ?_⟩⟩
      exact ⟨_, _, rfl, rfl, Int.emod_nonneg _ (by decide), Int.emod_lt_of_pos _ (by decide)⟩
    · rintro σ H2 ⟨z, v, rfl, rfl, h0, h1⟩
      intro p hp
      have sp : Same H2 (upd H2 p (.dK [])) := fun b o e => by
        rw [upd_ne (ne_of_none e hp)]
        exact e
      refine ⟨_, rfl, a, _, rfl, .inl (sp.seq hS), fun l hl0 => ?_⟩
      have npl : p ≠ l := fun q => by
        rw [← q, upd_same] at hl0
        cases hl0
      have hl1 : H2 l = none := by
        rw [upd_ne npl.symm] at hl0
        exact hl0
      refine ⟨_, rfl, by rw [upd_ne npl, upd_same], cols l 0 0 0 z, rfl, (by show 5 ≤ 15; decide), ?_⟩
      refine k p l _ hp (fun b o e => ?_) ⟨ns, 0, 0, 0, z, upd_same, ?_, by omega, by decide, by decide, by decide, h0, by omega⟩
      · rw [upd_ne (ne_of_none e hp), upd_ne (ne_of_none e hl1), upd_ne (ne_of_none e hp)]
        exact e
      · rw [upd_ne npl.symm, upd_same]
theorem ok_draw {CX : CXT} (F : FnP K "_law_draw" sDraw f fd) (T : Txt mg) : FnOk P w K mg base CX 1 f fd ["_law_pen_here", "_law_many"] spDraw := by
  refine F.ok scDraw (fun vs H Q E h => ?_) (fun cdv A outer s H vs Q E hr h => ?_)
  · obtain ⟨p, c, m, many, rfl, _⟩ := h
    rfl
  · obtain ⟨p, c, m, many, rfl, ⟨ns, a, d, n, fo, hp, hc, hz, a0, n0, nm, f0, f1⟩, hm, m0, m1, k⟩ := h
    have hu := hu_of hr
    have ncp : c ≠ p := ne_of hc hp (by intro z; cases z)
    refine ⟨_, PSs.nox (pss_cons (ps_dput hu (pv 0) pe_str (pe_op op_add (pe_dget hu (pv 0) pe_str (fun _ _ => rfl)) pe_int) rfl)
      (C8.pss_cut (ps_if (PW.pt (pw_and (pt_cmpR op_eq (pe_dget hu (pv 0) pe_str (fun _ _ => rfl)) pe_int (nomark _))
          (pw_and1 (pt_cmpR op_lt (pe_dget hu (pv 0) pe_str (fun _ _ => rfl)) (pe_callB call_len_seq (by rfl) T.len PySem.boot_len (pa_cons (pe_dget hu (pv 0) pe_str (fun _ _ => rfl)) pa_nil)) (nomark _)))))
        (pss_cons (ps_set (i := 2) scDraw.nd rfl (Or.inl rfl) (pe_ix ix_list (pe_dget hu (pv 0) pe_str (fun _ _ => rfl)) (pe_dget hu (pv 0) pe_str (fun _ _ => rfl)) (fun _ _ => rfl)))
        (pss_cons (ps_dput hu (pv 0) pe_str (pe_op op_add (pe_dget hu (pv 0) pe_str (fun _ _ => rfl)) pe_int) rfl)
        (pss_one (ps_if (pt_cmpR op_ge (pv 2) (pe_op op_pow pe_int pe_int) (nomark _))
          (pss_one (ps_dput hu (pv 0) pe_str (pe_op op_sub (pv 2) (pe_op op_pow pe_int pe_int)) rfl))
          (pss_one (ps_dput hu (pv 0) pe_str (pe_op op_mod (pe_callTy call_int1 (by rfl) T.int (by decide +kernel) (pa_cons (pe_op op_add (pe_op op_mul (pe_dget hu (pv 0) pe_str (fun _ _ => rfl)) pe_int) (pv 2)) pa_nil)) pe_int) rfl))))))
        pss_nil)
      (pss_cons (ps_if (pt_cmpR op_gt (pe_dget hu (pv 0) pe_str (fun _ _ => rfl)) pe_int (nomark _))
        (pss_cons (ps_set (i := 3) scDraw.nd rfl (Or.inl rfl) (pe_op op_mod (pe_callTy call_int1 (by rfl) T.int (by decide +kernel) (pa_cons (pe_dget hu (pv 0) pe_str (fun _ _ => rfl)) pa_nil)) (pv 1)))
        (pss_cons (ps_dput hu (pv 0) pe_str (pe_op op_fdiv (pe_dget hu (pv 0) pe_str (fun _ _ => rfl)) (pv 1)) rfl)
        (pss_one (ps_ret (pv 3)))))
        pss_nil)
      (pss_cons (ps_set (i := 4) scDraw.nd rfl (Or.inl rfl) (pe_op op_add (pe_op op_add (pe_dget hu (pv 0) pe_str (fun _ _ => rfl)) (pe_op op_mul (pe_dget hu (pv 0) pe_str (fun _ _ => rfl)) pe_int)) pe_int))
      (pss_one (ps_ret (pe_op op_mod (pe_op op_fdiv (pe_callTy call_int1 (by rfl) T.int (by decide +kernel) (pa_cons (pe_op op_mod (pe_op op_pow (pv 4) pe_int) pe_int) pa_nil)) pe_int) (pv 1)))))))), ?_⟩
    -- count
    refine ⟨_, rfl, _, _, rfl, dg_count hp, _, _, rfl, rfl, _, rfl, p, _, rfl, dp_count hp, ?_⟩
    have hp1 : ∀ {o : HO}, upd H p o p = some o := upd_same
    have hc1 : ∀ {o : HO}, upd H p o c = some (.lst (ns.map V.int)) := by
      intro o
      rw [upd_ne ncp]
      exact hc
    refine ⟨fun σ H2 => ∃ (a' d' fo' : Int) (cell : Option V), σ = [some (.ref p), some (.int many), cell, none, none] ∧ H2 = upd H p (.dK (cols c a' d' (n + 1) fo')) ∧ 0 ≤ a' ∧ 0 ≤ fo' ∧ fo' < 2147483648, ?_, ?_⟩
    · refine ⟨_, rfl, _, _, rfl, dg_digits hp1, rfl, _, rfl, ?_⟩
      refine ite2 (fun _ => ?_) (fun _ => ?_)
      · refine ⟨_, rfl, _, _, rfl, dg_at hp1, _, rfl, _, _, rfl, dg_cells hp1, _, _, rfl, .inl (SqL.of hc1), _, _, rfl, rfl, _, rfl, ?_⟩
        refine ite2 (fun hlt => ?_) (fun _ => ?_)
        · have hlt := of_decide_eq_true hlt
          have hj : a.toNat < (ns.map V.int).length := by omega
          obtain ⟨u, hu2⟩ := int_item (List.getElem?_eq_getElem hj)
          have hit : (ns.map V.int)[a.toNat]? = some (V.int u) := by
            rw [List.getElem?_eq_getElem hj, hu2]
          refine ⟨_, rfl, _, _, rfl, dg_cells hp1, _, rfl, _, _, rfl, dg_at hp1, _, _, _, _, rfl, rfl, SqL.of hc1, at_of (j := a.toNat) (by omega) hit, ?_⟩
          refine ⟨_, rfl, _, _, rfl, dg_at hp1, _, _, rfl, rfl, _, rfl, p, _, rfl, dp_at hp1, ?_⟩
          rw [upd_upd]
          refine ⟨_, rfl, _, _, rfl, rfl, ⟨by decide, by decide, by decide⟩, _, _, rfl, rfl, _, rfl, ?_⟩
          refine ite2 (fun _ => ?_) (fun _ => ?_)
          · refine ⟨_, rfl, _, _, rfl, rfl, ⟨by decide, by decide, by decide⟩, _, _, rfl, rfl, _, rfl, p, _, rfl, dp_digits hp1, ?_⟩
            rw [upd_upd]
            exact ⟨_, _, _, _, rfl, rfl, by omega, f0, f1⟩
          · refine ⟨_, rfl, _, _, rfl, dg_fold hp1, _, _, rfl, rfl, .inr ⟨by decide, by decide⟩, _, rfl, _, _, rfl, rfl, .inl ⟨_, rfl, _, _, rfl, rfl, (by show (0 : Int) < 2147483587; decide), ?_⟩⟩
            refine ⟨_, rfl, p, _, rfl, dp_fold hp1, ?_⟩
            rw [upd_upd]
            exact ⟨_, _, _, _, rfl, rfl, by omega, Int.emod_nonneg _ (by decide), Int.lt_trans (Int.emod_lt_of_pos _ (by decide)) (by decide)⟩
        · exact ⟨_, _, _, _, rfl, rfl, a0, f0, f1⟩
      · exact ⟨_, _, _, _, rfl, rfl, a0, f0, f1⟩
    · rintro σ H2 ⟨a', d', fo', cell, rfl, rfl, h0, g0, g1⟩
      refine ⟨_, rfl, _, _, rfl, dg_digits hp1, _, _, rfl, rfl, _, rfl, ?_⟩
      refine ite2 (fun _ => ?_) (fun _ => ?_)
      · refine ⟨_, rfl, _, _, rfl, dg_digits hp1, .inl ⟨_, rfl, _, rfl, _, _, rfl, rfl, m0, ?_⟩⟩
        refine ⟨_, rfl, _, _, rfl, dg_digits hp1, _, rfl, _, _, rfl, rfl, ⟨m0, m1⟩, _, rfl, p, _, rfl, dp_digits hp1, ?_⟩
        rw [upd_upd]
        refine ⟨_, rfl, k _ _ (Int.emod_nonneg _ (by omega)) (Int.emod_lt_of_pos _ m0) ⟨ns, _, _, _, _, hp1, hc1, hz, h0, by omega, by omega, g0, g1⟩ But.upd⟩
      · refine ⟨_, rfl, _, _, rfl, dg_fold hp1, _, rfl, _, _, rfl, dg_count hp1, _, _, rfl, rfl, .inr ⟨by decide, by decide⟩, _, _, rfl, rfl, _, _, rfl, rfl, ?_⟩
        refine ⟨_, rfl, _, _, rfl, rfl, ⟨by decide, by decide, ?_⟩, _, _, rfl, rfl, (by show (0 : Int) < 2305843009213693951; decide), .inl ⟨_, rfl, _, _, rfl, rfl, ⟨by decide, by decide⟩, _, rfl, _, _, rfl, rfl, m0, ?_⟩⟩
        · omega
        · exact k _ _ (Int.emod_nonneg _ (by omega)) (Int.emod_lt_of_pos _ m0) ⟨ns, _, _, _, _, hp1, hc1, hz, h0, by omega, by omega, g0, g1⟩ But.upd
theorem ok_pick {CX : CXT} {fD : Addr} {fdD : FuncData} (F : FnP K "_law_pick" sPick f fd) (T : Txt mg) (FD : FnP K "_law_draw" sDraw fD fdD) (gD : mg "_law_draw" = some (.ref fD)) (hCX : ∀ X, Passes CX X E0 := by exact fun X => pass0) : FnOk P w K mg base CX 2 f fd ["_law_pen_here", "_law_some"] (spPick K) := by
  have GD : FnOk P w K mg base CX0 1 fD fdD ["_law_pen_here", "_law_many"] spDraw := ok_draw FD T
  have bD : Binds K fdD ["_law_pen_here", "_law_many"] [] := FD.bindsN fun _ _ _ _ _ _ us hl => match us, hl with | [_, _], _ => rfl
  refine F.ok scPick (fun vs H Q E h => ?_) (fun cdv A outer s H vs Q E hr h => ?_)
  · obtain ⟨p, c, l, m, xs, rfl, _⟩ := h
    rfl
  · obtain ⟨p, c, l, m, xs, rfl, hP, hm, hlp, hS, h0, h1, k⟩ := h
    refine ⟨_, PSs.nox (pss_one (ps_ret (pe_ix ix_list (pv 1) (pe_call GD hr rfl gD FD.kp bD .nil pass0 (pa_cons (pv 0) (pa_cons (pe_callB call_len_seq (by rfl) T.len PySem.boot_len (pa_cons (pv 1) pa_nil)) pa_nil))) (fun _ _ => rfl)))), ?_⟩
    refine ⟨_, rfl, _, rfl, _, rfl, _, _, rfl, .inl hS, p, c, m, _, rfl, hP, hm, by omega, by omega, fun r H' r0 r1 hP' hB => ?_⟩
    have hj : r.toNat < xs.length := by omega
    have hS' : SqL K H' l xs := by
      rcases hS with (h | ⟨o, h⟩) | h
      · exact .inl (.inl (hB _ _ h hlp))
      · exact .inl (.inr ⟨o, hB _ _ h hlp⟩)
      · exact .inr h
    exact ⟨_, _, _, _, rfl, rfl, hS', at_of (j := r.toNat) (by omega) (List.getElem?_eq_getElem hj), k _ _ _ (List.getElem?_eq_getElem hj) hP' hB⟩
end
end Pen
namespace Ki
open PySem PySem.Spec PyProof.Rows L2 Pen Dat
/-! ## Of which kind a value is -/
structure Tx (mg : Str → Option Value) : Prop where
  isi : mg "isinstance" = none
  int : mg "int" = none
  bool : mg "bool" = none
  tuple : mg "tuple" = none
  list : mg "list" = none
  len : mg "len" = none
  all : mg "all" = none
def betD (d : PyData) (lo hi : Int) : Bool :=
  match d with
  | .int i => decide (lo ≤ i) && decide (i ≤ hi)
  | _ => false
def fromD (d : PyData) (lo : Int) : Bool :=
  match d with
  | .int i => decide (i ≥ lo)
  | _ => false
def rowsD (d : PyData) : List PyData :=
  match d with
  | .list ds => ds
  | .tuple ds => ds
  | _ => []
def rowB (d : PyData) (many lo hi : Int) : Bool := isRowD d && (decide (((rowsD d).length : Int) = many) && (rowsD d).all fun e => betD e lo hi)
def spBetween (K : PySem.W.Frag) : Sp := fun vs H Q _ => ∃ (v : V) (lo hi : Int) (d : PyData), vs = [v, .int lo, .int hi] ∧ Dp K H v d ∧ Q (.bl (betD d lo hi)) H
def spFrom (K : PySem.W.Frag) : Sp := fun vs H Q _ => ∃ (v : V) (lo : Int) (d : PyData), vs = [v, .int lo] ∧ Dp K H v d ∧ Q (.bl (fromD d lo)) H
def spRow (K : PySem.W.Frag) : Sp := fun vs H Q _ => ∃ (v : V) (d : PyData), vs = [v] ∧ Dp K H v d ∧ ∀ H', Same H H' → Q (.bl (isRowD d)) H'
def spRowB (K : PySem.W.Frag) : Sp := fun vs H Q _ => ∃ (v : V) (many lo hi : Int) (d : PyData), vs = [v, .int many, .int lo, .int hi] ∧ Dp K H v d ∧ (rowsD d).length ≤ 1000 ∧ ∀ H', Same H H' → Q (.bl (rowB d many lo hi)) H'
section
variable {P : Program} {w : World} {K : PySem.W.Frag} {mg : Str → Option Value} {base : Heap} {f : Addr} {fd : FuncData}
theorem same_new {H : Hp} {p : Addr} {u : HO} (np : H p = none) : Same H (upd H p u) := fun b o e => by
  rw [upd_ne (ne_of_none e np)]
  exact e
theorem scBetween : FnScope ["value", "least", "most"] ["value", "least", "most"] (defScope sBetween) := ⟨rfl, rfl, rfl, by decide +kernel, rfl, by decide +kernel, by decide +kernel⟩
theorem scFrom : FnScope ["value", "least"] ["value", "least"] (defScope sFrom) := ⟨rfl, rfl, rfl, by decide +kernel, rfl, by decide +kernel, by decide +kernel⟩
theorem scRow : FnScope ["value"] ["value"] (defScope sRow) := ⟨rfl, rfl, rfl, by decide +kernel, rfl, by decide +kernel, by decide +kernel⟩
abbrev rbN : List Str := ["value", "many", "least", "most", "part"]
theorem scRowB : FnScope rbN ["value", "many", "least", "most"] (defScope sRowB) := ⟨rfl, rfl, rfl, by decide +kernel, rfl, by decide +kernel, by decide +kernel⟩
theorem ok_between (F : FnP K "is_between" sBetween f fd) (T : Tx mg) : FnOk P w K mg base CX0 1 f fd ["value", "least", "most"] (spBetween K) := by
  refine F.ok scBetween (fun vs H Q E h => ?_) (fun cdv A outer s H vs Q E hr h => ?_)
  · obtain ⟨v, lo, hi, d, rfl, _⟩ := h
    rfl
  · obtain ⟨v, lo, hi, d, rfl, hd, q⟩ := h
    refine ⟨_, PSs.nox (pss_one (ps_ret (pe_and (pe_callB call_isi (by rfl) T.isi (by decide +kernel) (pa_cons (pv 0) (pa_cons (pe_bltn (v := .ty "int") (by rfl) T.int (by decide +kernel) rfl) pa_nil)))
      (pe_and (pe_not (pe_callB call_isi (by rfl) T.isi (by decide +kernel) (pa_cons (pv 0) (pa_cons (pe_bltn (v := .ty "bool") (by rfl) T.bool (by decide +kernel) rfl) pa_nil))))
      (pe_one (pe_chain op_le op_le (pv 1) (pv 0) (pv 2))))))), ?_⟩
    refine ⟨_, rfl, _, _, _, _, _, rfl, .ty _, ty_of hd, kit_int hd, _, rfl, ?_⟩
    have kb := kit_bool hd
    have tb := ty_of hd
    cases hd with
    | non => exact iteF q
    | str x => exact iteF q
    | lst _ _ => exact iteF q
    | tup _ _ => exact iteF q
    | bl b => exact iteT ⟨_, rfl, _, _, _, _, _, rfl, .ty _, tb, kb, _, rfl, _, rfl, iteF q⟩
    | int i =>
      refine iteT ⟨_, rfl, _, _, _, _, _, rfl, .ty _, tb, kb, _, rfl, _, rfl, iteT ?_⟩
      refine ⟨_, rfl, _, rfl, _, _, rfl, rfl, _, rfl, ite2 (fun h1 => ?_) (fun h1 => ?_)⟩
      · refine ⟨_, rfl, _, _, rfl, rfl, ?_⟩
        have e : (decide (lo ≤ i) && decide (i ≤ hi)) = decide (i ≤ hi) := by
          rw [h1]
          rfl
        show Q (V.bl (decide (i ≤ hi))) H
        rw [← e]
        exact q
      · have e : (decide (lo ≤ i) && decide (i ≤ hi)) = false := by
          rw [Bool.eq_false_iff.mpr h1]
          rfl
        show Q (V.bl false) H
        rw [← e]
        exact q
theorem ok_from (F : FnP K "is_from" sFrom f fd) (T : Tx mg) : FnOk P w K mg base CX0 1 f fd ["value", "least"] (spFrom K) := by
  refine F.ok scFrom (fun vs H Q E h => ?_) (fun cdv A outer s H vs Q E hr h => ?_)
  · obtain ⟨v, lo, d, rfl, _⟩ := h
    rfl
  · obtain ⟨v, lo, d, rfl, hd, q⟩ := h
    refine ⟨_, PSs.nox (pss_one (ps_ret (pe_and (pe_callB call_isi (by rfl) T.isi (by decide +kernel) (pa_cons (pv 0) (pa_cons (pe_bltn (v := .ty "int") (by rfl) T.int (by decide +kernel) rfl) pa_nil)))
      (pe_and (pe_not (pe_callB call_isi (by rfl) T.isi (by decide +kernel) (pa_cons (pv 0) (pa_cons (pe_bltn (v := .ty "bool") (by rfl) T.bool (by decide +kernel) rfl) pa_nil))))
      (pe_one (pe_cmpR op_ge (pv 0) (pv 1) (nomark _))))))), ?_⟩
    refine ⟨_, rfl, _, _, _, _, _, rfl, .ty _, ty_of hd, kit_int hd, _, rfl, ?_⟩
    have kb := kit_bool hd
    have tb := ty_of hd
    cases hd with
    | non => exact iteF q
    | str x => exact iteF q
    | lst _ _ => exact iteF q
    | tup _ _ => exact iteF q
    | bl b => exact iteT ⟨_, rfl, _, _, _, _, _, rfl, .ty _, tb, kb, _, rfl, _, rfl, iteF q⟩
    | int i =>
      refine iteT ⟨_, rfl, _, _, _, _, _, rfl, .ty _, tb, kb, _, rfl, _, rfl, iteT ?_⟩
      exact ⟨_, rfl, _, rfl, _, _, rfl, rfl, q⟩
theorem ok_row (F : FnP K "is_row" sRow f fd) (T : Tx mg) : FnOk P w K mg base CX0 1 f fd ["value"] (spRow K) := by
  refine F.ok scRow (fun vs H Q E h => ?_) (fun cdv A outer s H vs Q E hr h => ?_)
  · obtain ⟨v, d, rfl, _⟩ := h
    rfl
  · obtain ⟨v, d, rfl, hd, q⟩ := h
    refine ⟨_, PSs.nox (pss_one (ps_ret (pe_callB call_isiT (by rfl) T.isi (by decide +kernel) (pa_cons (pv 0) (pa_cons (pe_tup (pa_cons (pe_bltn (v := .ty "tuple") (by rfl) T.tuple (by decide +kernel) rfl) (pa_cons (pe_bltn (v := .ty "list") (by rfl) T.list (by decide +kernel) rfl) pa_nil))) pa_nil))))), ?_⟩
    refine ⟨_, rfl, (by show 2 ≤ sizeLine; decide), fun p np => ?_⟩
    exact ⟨_, _, _, _, _, _, rfl, upd_same, .cons (.ty _) (.cons (.ty _) .nil), ty_of (dp_same (same_new np) hd), kit_row hd, q _ (same_new np)⟩
theorem take_more {α : Type} {xs : List α} {i : Nat} {x : α} (h : xs[i]? = some x) : xs.take (i + 1) = xs.take i ++ [x] := by
  rw [List.take_succ, h]
  rfl
theorem yes_of {σ : L2.St} {H : Hp} {A B : Hp → Prop} (h : A H) : tYes σ H fun b H3 => if b = true then A H3 else B H3 := by
  show if true = true then A H else B H
  exact iteT h
theorem ok_rowB {fB fR : Addr} {fdB fdR : FuncData} (F : FnP K "is_row_between" sRowB f fd) (T : Tx mg) (FB : FnP K "is_between" sBetween fB fdB) (gB : mg "is_between" = some (.ref fB)) (FR : FnP K "is_row" sRow fR fdR) (gR : mg "is_row" = some (.ref fR)) :
    FnOk P w K mg base CX0 2 f fd ["value", "many", "least", "most"] (spRowB K) := by
  have GB : FnOk P w K mg base CX0 1 fB fdB ["value", "least", "most"] (spBetween K) := ok_between FB T
  have GR : FnOk P w K mg base CX0 1 fR fdR ["value"] (spRow K) := ok_row FR T
  have bB : Binds K fdB ["value", "least", "most"] [] := FB.bindsN fun _ _ _ _ _ _ us hl => match us, hl with | [_, _, _], _ => rfl
  have bR : Binds K fdR ["value"] [] := FR.bindsN fun _ _ _ _ _ _ us hl => match us, hl with | [_], _ => rfl
  refine F.ok scRowB (fun vs H Q E h => ?_) (fun cdv A outer s H vs Q E hr h => ?_)
  · obtain ⟨v, many, lo, hi, d, rfl, _⟩ := h
    rfl
  · obtain ⟨v, many, lo, hi, d, rfl, hd, hz, q⟩ := h
    cases hd with
    | lst hs ha =>
      rename_i a vs ds
      have hlen := dps_len ha
      have hz' : ds.length ≤ 1000 := hz
      refine ⟨_, PSs.nox (pss_one (ps_ret (pe_and (pe_call GR hr (by rfl) gR FR.kp bR .nil pass0 (pa_cons (pv 0) pa_nil))
        (pe_and (pe_cmpR op_eq (pe_callB call_len_seq (by rfl) T.len PySem.boot_len (pa_cons (pv 0) pa_nil)) (pv 1) (nomark _))
        (pe_one (pe_callB (cr_all rfl) (by rfl) T.all (by decide +kernel) (pa_cons
          (pe_lc (own := [("part", 4)]) (g := gName 4) (tt := tYes) rfl scRowB.nd (pi_list (pv 0)) (blkOk_by (N := rbN) (sc := defScope sRowB) (by decide +kernel)) (fun _ _ _ _ _ => pg_name (i := 4) scRowB.nd rfl (Or.inl rfl)) (fun _ _ _ _ _ => pts_nil)
            (fun _ _ _ _ _ => pe_call GB hr (by rfl) gB FB.kp bB .nil pass0 (pa_cons (pv 4) (pa_cons (pv 2) (pa_cons (pv 3) pa_nil))))) pa_nil))))))), ?_⟩
      refine ⟨_, rfl, _, _, rfl, .lst hs ha, fun H1 s1 => ⟨_, rfl, iteT ?_⟩⟩
      refine ⟨_, rfl, _, _, rfl, .inl (s1.seq hs), _, rfl, rfl, _, rfl, ite2 (fun e1 => ?_) (fun e1 => ?_)⟩
      · have e2 : (ds.length : Int) = many := by
          rw [← hlen]
          exact V.int.inj (of_decide_eq_true e1)
        refine ⟨_, rfl, a, rfl, ⟨_, s1.seq hs⟩, fun D nD => ?_⟩
        have sD : Same H1 (upd H1 D (.lst [])) := same_new nD
        refine lc_list (K := K) (a := a) (xs := vs) (fun i H2 => Same H1 H2 ∧ H2 D = some (.lst ((ds.take i).map fun e => V.bl (betD e lo hi)))) ⟨sD, by rw [upd_same]; rfl⟩ (fun i H2 _ ⟨s2, _⟩ => s2.seq (s1.seq hs)) ?_ ?_
        · rintro i v H2 hi ⟨s2, h2⟩
          obtain ⟨e, he, hv⟩ := dps_get ha hi
          refine ⟨rfl, yes_of ?_⟩
          refine ⟨_, rfl, _, rfl, _, rfl, _, _, _, e, rfl, dp_same (s1.trans s2) hv, _, h2, ?_, fun b o z => ?_, ?_⟩
          · rw [List.length_map, List.length_take]
            exact Nat.lt_of_le_of_lt (Nat.min_le_right _ _) (Nat.lt_of_le_of_lt hz' (by decide))
          · rw [upd_ne (ne_of_none z nD)]
            exact s2 _ _ z
          · rw [upd_same, take_more he, List.map_append]
            rfl
        · rintro H2 ⟨s2, h2⟩
          rw [hlen, List.take_length] at h2
          refine ⟨D, ds.map fun e => betD e lo hi, rfl, SqL.of ?_, ?_⟩
          · rw [h2, List.map_map]
            rfl
          · have e3 : rowB (.list ds) many lo hi = (ds.map fun e => betD e lo hi).all id := by
              show (true && (decide ((ds.length : Int) = many) && ds.all fun e => betD e lo hi)) = _
              rw [decide_eq_true e2, List.all_map]
              rfl
            rw [← e3]
            exact q _ (s1.trans s2)
      · have e2 : ¬ (ds.length : Int) = many := fun z => e1 (decide_eq_true (by rw [hlen, z]))
        have e3 : rowB (.list ds) many lo hi = false := by
          show (true && (decide ((ds.length : Int) = many) && ds.all fun e => betD e lo hi)) = false
          rw [decide_eq_false e2]
          rfl
        rw [← e3]
        exact q _ s1
    | tup hs ha =>
      rename_i a vs ds
      have hlen := dps_len ha
      have hz' : ds.length ≤ 1000 := hz
      refine ⟨_, PSs.nox (pss_one (ps_ret (pe_and (pe_call GR hr (by rfl) gR FR.kp bR .nil pass0 (pa_cons (pv 0) pa_nil))
        (pe_and (pe_cmpR op_eq (pe_callB call_len_seq (by rfl) T.len PySem.boot_len (pa_cons (pv 0) pa_nil)) (pv 1) (nomark _))
        (pe_one (pe_callB (cr_all rfl) (by rfl) T.all (by decide +kernel) (pa_cons
          (pe_lc (own := [("part", 4)]) (g := gName 4) (tt := tYes) rfl scRowB.nd (pi_tup (pv 0)) (blkOk_by (N := rbN) (sc := defScope sRowB) (by decide +kernel)) (fun _ _ _ _ _ => pg_name (i := 4) scRowB.nd rfl (Or.inl rfl)) (fun _ _ _ _ _ => pts_nil)
            (fun _ _ _ _ _ => pe_call GB hr (by rfl) gB FB.kp bB .nil pass0 (pa_cons (pv 4) (pa_cons (pv 2) (pa_cons (pv 3) pa_nil))))) pa_nil))))))), ?_⟩
      refine ⟨_, rfl, _, _, rfl, .tup hs ha, fun H1 s1 => ⟨_, rfl, iteT ?_⟩⟩
      refine ⟨_, rfl, _, _, rfl, .inr (seqT_same s1 hs), _, rfl, rfl, _, rfl, ite2 (fun e1 => ?_) (fun e1 => ?_)⟩
      · have e2 : (ds.length : Int) = many := by
          rw [← hlen]
          exact V.int.inj (of_decide_eq_true e1)
        refine ⟨_, rfl, a, rfl, ⟨_, seqT_same s1 hs⟩, fun D nD => ?_⟩
        have sD : Same H1 (upd H1 D (.lst [])) := same_new nD
        refine lc_tup (K := K) (a := a) (xs := vs) (fun i H2 => Same H1 H2 ∧ H2 D = some (.lst ((ds.take i).map fun e => V.bl (betD e lo hi)))) ⟨sD, by rw [upd_same]; rfl⟩ (fun i H2 _ ⟨s2, _⟩ => seqT_same s2 (seqT_same s1 hs)) ?_ ?_
        · rintro i v H2 hi ⟨s2, h2⟩
          obtain ⟨e, he, hv⟩ := dps_get ha hi
          refine ⟨rfl, yes_of ?_⟩
          refine ⟨_, rfl, _, rfl, _, rfl, _, _, _, e, rfl, dp_same (s1.trans s2) hv, _, h2, ?_, fun b o z => ?_, ?_⟩
          · rw [List.length_map, List.length_take]
            exact Nat.lt_of_le_of_lt (Nat.min_le_right _ _) (Nat.lt_of_le_of_lt hz' (by decide))
          · rw [upd_ne (ne_of_none z nD)]
            exact s2 _ _ z
          · rw [upd_same, take_more he, List.map_append]
            rfl
        · rintro H2 ⟨s2, h2⟩
          rw [hlen, List.take_length] at h2
          refine ⟨D, ds.map fun e => betD e lo hi, rfl, SqL.of ?_, ?_⟩
          · rw [h2, List.map_map]
            rfl
          · have e3 : rowB (.tuple ds) many lo hi = (ds.map fun e => betD e lo hi).all id := by
              show (true && (decide ((ds.length : Int) = many) && ds.all fun e => betD e lo hi)) = _
              rw [decide_eq_true e2, List.all_map]
              rfl
            rw [← e3]
            exact q _ (s1.trans s2)
      · have e2 : ¬ (ds.length : Int) = many := fun z => e1 (decide_eq_true (by rw [hlen, z]))
        have e3 : rowB (.tuple ds) many lo hi = false := by
          show (true && (decide ((ds.length : Int) = many) && ds.all fun e => betD e lo hi)) = false
          rw [decide_eq_false e2]
          rfl
        rw [← e3]
        exact q _ s1
    | non =>
      refine ⟨_, PSs.nox (pss_one (ps_ret (pe_and (pe_call GR hr (by rfl) gR FR.kp bR .nil pass0 (pa_cons (pv 0) pa_nil))
        (pe_and (pe_cmpR op_eq (pe_callB call_len_seq (by rfl) T.len PySem.boot_len (pa_cons (pv 0) pa_nil)) (pv 1) (nomark _))
        (pe_one (pe_callB (cr_all rfl) (by rfl) T.all (by decide +kernel) (pa_cons
          (pe_lc (own := [("part", 4)]) (g := gName 4) (tt := tYes) rfl scRowB.nd (pi_list (pv 0)) (blkOk_by (N := rbN) (sc := defScope sRowB) (by decide +kernel)) (fun _ _ _ _ _ => pg_name (i := 4) scRowB.nd rfl (Or.inl rfl)) (fun _ _ _ _ _ => pts_nil)
            (fun _ _ _ _ _ => pe_call GB hr (by rfl) gB FB.kp bB .nil pass0 (pa_cons (pv 4) (pa_cons (pv 2) (pa_cons (pv 3) pa_nil))))) pa_nil))))))), ?_⟩
      exact ⟨_, rfl, _, _, rfl, .non, fun H1 s1 => ⟨_, rfl, iteF (q _ s1)⟩⟩
    | bl b =>
      refine ⟨_, PSs.nox (pss_one (ps_ret (pe_and (pe_call GR hr (by rfl) gR FR.kp bR .nil pass0 (pa_cons (pv 0) pa_nil))
        (pe_and (pe_cmpR op_eq (pe_callB call_len_seq (by rfl) T.len PySem.boot_len (pa_cons (pv 0) pa_nil)) (pv 1) (nomark _))
        (pe_one (pe_callB (cr_all rfl) (by rfl) T.all (by decide +kernel) (pa_cons
          (pe_lc (own := [("part", 4)]) (g := gName 4) (tt := tYes) rfl scRowB.nd (pi_list (pv 0)) (blkOk_by (N := rbN) (sc := defScope sRowB) (by decide +kernel)) (fun _ _ _ _ _ => pg_name (i := 4) scRowB.nd rfl (Or.inl rfl)) (fun _ _ _ _ _ => pts_nil)
            (fun _ _ _ _ _ => pe_call GB hr (by rfl) gB FB.kp bB .nil pass0 (pa_cons (pv 4) (pa_cons (pv 2) (pa_cons (pv 3) pa_nil))))) pa_nil))))))), ?_⟩
      exact ⟨_, rfl, _, _, rfl, .bl b, fun H1 s1 => ⟨_, rfl, iteF (q _ s1)⟩⟩
    | int i =>
      refine ⟨_, PSs.nox (pss_one (ps_ret (pe_and (pe_call GR hr (by rfl) gR FR.kp bR .nil pass0 (pa_cons (pv 0) pa_nil))
        (pe_and (pe_cmpR op_eq (pe_callB call_len_seq (by rfl) T.len PySem.boot_len (pa_cons (pv 0) pa_nil)) (pv 1) (nomark _))
        (pe_one (pe_callB (cr_all rfl) (by rfl) T.all (by decide +kernel) (pa_cons
          (pe_lc (own := [("part", 4)]) (g := gName 4) (tt := tYes) rfl scRowB.nd (pi_list (pv 0)) (blkOk_by (N := rbN) (sc := defScope sRowB) (by decide +kernel)) (fun _ _ _ _ _ => pg_name (i := 4) scRowB.nd rfl (Or.inl rfl)) (fun _ _ _ _ _ => pts_nil)
            (fun _ _ _ _ _ => pe_call GB hr (by rfl) gB FB.kp bB .nil pass0 (pa_cons (pv 4) (pa_cons (pv 2) (pa_cons (pv 3) pa_nil))))) pa_nil))))))), ?_⟩
      exact ⟨_, rfl, _, _, rfl, .int i, fun H1 s1 => ⟨_, rfl, iteF (q _ s1)⟩⟩
    | str x =>
      refine ⟨_, PSs.nox (pss_one (ps_ret (pe_and (pe_call GR hr (by rfl) gR FR.kp bR .nil pass0 (pa_cons (pv 0) pa_nil))
        (pe_and (pe_cmpR op_eq (pe_callB call_len_seq (by rfl) T.len PySem.boot_len (pa_cons (pv 0) pa_nil)) (pv 1) (nomark _))
        (pe_one (pe_callB (cr_all rfl) (by rfl) T.all (by decide +kernel) (pa_cons
          (pe_lc (own := [("part", 4)]) (g := gName 4) (tt := tYes) rfl scRowB.nd (pi_list (pv 0)) (blkOk_by (N := rbN) (sc := defScope sRowB) (by decide +kernel)) (fun _ _ _ _ _ => pg_name (i := 4) scRowB.nd rfl (Or.inl rfl)) (fun _ _ _ _ _ => pts_nil)
            (fun _ _ _ _ _ => pe_call GB hr (by rfl) gB FB.kp bB .nil pass0 (pa_cons (pv 4) (pa_cons (pv 2) (pa_cons (pv 3) pa_nil))))) pa_nil))))))), ?_⟩
      exact ⟨_, rfl, _, _, rfl, .str x, fun H1 s1 => ⟨_, rfl, iteF (q _ s1)⟩⟩
end
end Ki
namespace Fi
open PySem PySem.Spec PyProof.Rows L2 Pen Dat
/-! ## What never changes: tuples, locked things, instances -/
def firm : HO → Bool
  | .tup _ => true
  | .frz _ _ => true
  | .ins _ _ _ => true
  | _ => false
def Firm (H H' : Hp) : Prop := ∀ b o, H b = some o → firm o = true → H' b = some o
theorem Firm.refl (H : Hp) : Firm H H := fun _ _ e _ => e
theorem Firm.trans {H H1 H2 : Hp} (a : Firm H H1) (b : Firm H1 H2) : Firm H H2 := fun c o e h => b c o (a c o e h) h
theorem Firm.of {H H' : Hp} (s : Same H H') : Firm H H' := fun b o e _ => s b o e
theorem Firm.upd {H : Hp} {a : Addr} {u o : HO} (h : H a = some u) (hu : firm u = false) : Firm H (upd H a o) := fun b z e hz => by
  rw [upd_ne (fun q => by rw [q, h] at e; cases e; rw [hu] at hz; cases hz)]
  exact e
theorem Firm.but {H H' : Hp} {p : Addr} {u : HO} (c : But p H H') (h : H p = some u) (hu : firm u = false) : Firm H H' := fun b z e hz =>
  c b z e fun q => by
    rw [q, h] at e
    cases e
    rw [hu] at hz
    cases hz
theorem Firm.pen {H H' : Hp} {p c : Addr} {m : Nat} (b : But p H H') (h : PenC H p c m) : Firm H H' := by
  obtain ⟨_, _, _, _, _, h1, _⟩ := h
  exact Firm.but b h1 rfl
/-! ### two lists, item by item -/
inductive All2 {α : Type} (R : V → α → Prop) : List V → List α → Prop
  | nil : All2 R [] []
  | cons {v : V} {x : α} {vs : List V} {xs : List α} : R v x → All2 R vs xs → All2 R (v :: vs) (x :: xs)
section
variable {α : Type} {R R' : V → α → Prop}
theorem All2.len : ∀ {vs : List V} {xs : List α}, All2 R vs xs → vs.length = xs.length
  | _, _, .nil => rfl
  | _, _, .cons _ h => congrArg Nat.succ h.len
theorem All2.imp (f : ∀ v x, R v x → R' v x) : ∀ {vs : List V} {xs : List α}, All2 R vs xs → All2 R' vs xs
  | _, _, .nil => .nil
  | _, _, .cons h t => .cons (f _ _ h) (t.imp f)
theorem All2.get : ∀ {vs : List V} {xs : List α}, All2 R vs xs → ∀ {i : Nat} {v : V}, vs[i]? = some v → ∃ x, xs[i]? = some x ∧ R v x
  | _, _, .nil, i, v, e => by simp at e
  | _, _, .cons (v := v0) (x := x0) h t, 0, v, e => by
    simp at e
    subst e
    exact ⟨x0, rfl, h⟩
  | _, _, .cons h t, i + 1, v, e => by
    simp at e
    obtain ⟨x, q1, q2⟩ := t.get e
    exact ⟨x, by simpa using q1, q2⟩
theorem All2.get' : ∀ {vs : List V} {xs : List α}, All2 R vs xs → ∀ {i : Nat} {x : α}, xs[i]? = some x → ∃ v, vs[i]? = some v ∧ R v x
  | _, _, .nil, i, v, e => by simp at e
  | _, _, .cons (v := v0) (x := x0) h t, 0, v, e => by
    simp at e
    subst e
    exact ⟨v0, rfl, h⟩
  | _, _, .cons h t, i + 1, v, e => by
    simp at e
    obtain ⟨x, q1, q2⟩ := t.get' e
    exact ⟨x, by simpa using q1, q2⟩
theorem All2.snoc {v : V} {x : α} (h : R v x) : ∀ {vs : List V} {xs : List α}, All2 R vs xs → All2 R (vs ++ [v]) (xs ++ [x])
  | _, _, .nil => .cons h .nil
  | _, _, .cons h1 t => .cons h1 (t.snoc h)
theorem All2.append : ∀ {vs ws : List V} {xs ys : List α}, All2 R vs xs → All2 R ws ys → All2 R (vs ++ ws) (xs ++ ys)
  | _, _, _, _, .nil, h => h
  | _, _, _, _, .cons h1 t, h => .cons h1 (t.append h)
theorem All2.take : ∀ {vs : List V} {xs : List α} (n : Nat), All2 R vs xs → All2 R (vs.take n) (xs.take n)
  | _, _, 0, _ => by
    rw [List.take_zero, List.take_zero]
    exact .nil
  | _, _, _ + 1, .nil => .nil
  | _, _, n + 1, .cons h t => .cons h (t.take n)
end
/-! ### pairs, rows of pairs, rows of ints -/
def Pt (K : PySem.W.Frag) (H : Hp) (v : V) (p : Int × Int) : Prop := ∃ q, v = .ref q ∧ SqT K H q [.int p.1, .int p.2]
def Pr (K : PySem.W.Frag) (H : Hp) (v : V) (p : Int × Int) : Prop := ∃ q, v = .ref q ∧ (SqL K H q [.int p.1, .int p.2] ∨ SqT K H q [.int p.1, .int p.2])
def Tu (K : PySem.W.Frag) (H : Hp) (v : V) (r : List Int) : Prop := ∃ q, v = .ref q ∧ SqT K H q (r.map V.int)
def GT (K : PySem.W.Frag) (H : Hp) (g : Addr) (gs : List (Int × Int)) : Prop := ∃ vs, SqT K H g vs ∧ All2 (Pt K H) vs gs
def RowG (K : PySem.W.Frag) (H : Hp) (v : V) (gs : List (Int × Int)) : Prop := ∃ r vs, v = .ref r ∧ (SqL K H r vs ∨ SqT K H r vs) ∧ All2 (Pr K H) vs gs
section
variable {K : PySem.W.Frag} {H H' : Hp}
theorem firm_seq {a : Addr} {xs : List V} (s : Firm H H') (h : SqT K H a xs) : SqT K H' a xs :=
  h.elim (fun h => .inl (h.elim (fun h => .inl (s _ _ h rfl)) fun ⟨o, h⟩ => .inr ⟨o, s _ _ h rfl⟩)) .inr
theorem Pt.firm {v : V} {p : Int × Int} (s : Firm H H') (h : Pt K H v p) : Pt K H' v p := by
  obtain ⟨q, e, h⟩ := h
  exact ⟨q, e, firm_seq s h⟩
theorem Tu.firm {v : V} {r : List Int} (s : Firm H H') (h : Tu K H v r) : Tu K H' v r := by
  obtain ⟨q, e, h⟩ := h
  exact ⟨q, e, firm_seq s h⟩
theorem GT.firm {g : Addr} {gs : List (Int × Int)} (s : Firm H H') (h : GT K H g gs) : GT K H' g gs := by
  obtain ⟨vs, h1, h2⟩ := h
  exact ⟨vs, firm_seq s h1, h2.imp fun _ _ q => q.firm s⟩
theorem Pr.same {v : V} {p : Int × Int} (s : Same H H') (h : Pr K H v p) : Pr K H' v p := by
  obtain ⟨q, e, h⟩ := h
  exact ⟨q, e, h.elim (fun h => .inl (s.seq h)) fun h => .inr (seqT_same s h)⟩
theorem RowG.same {v : V} {gs : List (Int × Int)} (s : Same H H') (h : RowG K H v gs) : RowG K H' v gs := by
  obtain ⟨r, vs, e, h1, h2⟩ := h
  exact ⟨r, vs, e, h1.elim (fun h => .inl (s.seq h)) fun h => .inr (seqT_same s h), h2.imp fun _ _ q => q.same s⟩
theorem Pt.pr {v : V} {p : Int × Int} (h : Pt K H v p) : Pr K H v p := by
  obtain ⟨q, e, h⟩ := h
  exact ⟨q, e, .inr h⟩
theorem GT.row {g : Addr} {gs : List (Int × Int)} (h : GT K H g gs) : RowG K H (.ref g) gs := by
  obtain ⟨vs, h1, h2⟩ := h
  exact ⟨g, vs, rfl, .inr h1, h2.imp fun _ _ q => q.pr⟩
/-- a row of pairs, as data -/
def pD (p : Int × Int) : PyData := .tuple [.int p.1, .int p.2]
def gD (gs : List (Int × Int)) : PyData := .tuple (gs.map pD)
theorem pt_dp {v : V} {p : Int × Int} (h : Pt K H v p) : Dp K H v (pD p) := by
  obtain ⟨q, rfl, h⟩ := h
  exact .tup h (.cons (.int _) (.cons (.int _) .nil))
theorem pts_dp : ∀ {vs : List V} {gs : List (Int × Int)}, All2 (Pt K H) vs gs → DpAll K H vs (gs.map pD)
  | _, _, .nil => .nil
  | _, _, .cons h t => .cons (pt_dp h) (pts_dp t)
theorem GT.dp {g : Addr} {gs : List (Int × Int)} (h : GT K H g gs) : Dp K H (.ref g) (gD gs) := by
  obtain ⟨vs, h1, h2⟩ := h
  exact .tup h1 (pts_dp h2)
theorem ints_dp : ∀ (r : List Int), DpAll K H (r.map V.int) (r.map PyData.int)
  | [] => .nil
  | _ :: r => .cons (.int _) (ints_dp r)
end
end Fi
namespace Gr
open PySem PySem.Spec PyProof.Rows L2 Pen Dat Ki Fi
/-! ## Graphs -/
structure Tx (K : PySem.W.Frag) (mg : Str → Option Value) (C : Addr) : Prop where
  ki : Ki.Tx mg
  cl : Cls K C
  nL : NoAttr K C "leaves"
  nG : NoAttr K C "gates"
  mgC : mg "Graph" = some (.ref C)
  cls : PySem.W.findIn K (.ref C) "__class__" = some (some (.builtin "object.__class__"))
  spc : PySem.W.specialIn K (.builtin "object.__class__") "__get__" = some (some (.builtin "getset_descriptor.__get__"))
  tak : PySem.W.takesIn K (.builtin "object.__class__") = some true
  met : ∀ {H : Hp} {a dx : Addr} {fs : List (Str × V)}, H a = some (.ins C dx fs) → TyOf K H (.ref a) (.ref C)
  own : PySem.W.kitOne K (.ref C) (.ref C) = some true
  tup : PySem.W.kitOne K (.type "tuple") (.ref C) = some false
def flds (n : Int) (g : Addr) : List (Str × V) := putF "gates" (.ref g) (putF "leaves" (.int n) [])
theorem kLG : ¬ (("leaves" : Str) = "gates") := by decide +kernel
theorem flds_eq (n : Int) (g : Addr) : flds n g = ([("leaves", V.int n), ("gates", V.ref g)] : List (Str × V)) := by
  show (if ("leaves" : Str) = "gates" then [(("leaves" : Str), V.ref g)] else (("leaves" : Str), V.int n) :: putF "gates" (V.ref g) []) = ([("leaves", V.int n), ("gates", V.ref g)] : List (Str × V))
  rw [if_neg kLG]
  all_goals rfl
theorem flds_L (n : Int) (g : Addr) : (flds n g).lookup ("leaves" : Str) = some (.int n) := by
  unfold flds
  rw [lookup_putF, if_neg kLG, lookup_putF, if_pos rfl]
theorem flds_G (n : Int) (g : Addr) : (flds n g).lookup ("gates" : Str) = some (.ref g) := by
  unfold flds
  rw [lookup_putF, if_pos rfl]
def GraphAt (K : PySem.W.Frag) (C : Addr) (H : Hp) (p : Addr) (n : Int) (gs : List (Int × Int)) : Prop := ∃ dx g, H p = some (.ins C dx (flds n g)) ∧ GT K H g gs
theorem GraphAt.firm {K : PySem.W.Frag} {C p : Addr} {H H' : Hp} {n : Int} {gs : List (Int × Int)} (s : Firm H H') (h : GraphAt K C H p n gs) : GraphAt K C H' p n gs := by
  obtain ⟨dx, g, h1, h2⟩ := h
  exact ⟨dx, g, s _ _ h1 rfl, h2.firm s⟩
def goB : Int → List PyData → Bool
  | _, [] => true
  | m, e :: r => rowB e 2 0 m && goB (m + 2) r
def gatesB (n : Int) (d : PyData) : Bool := isRowD d && goB (2 * n + 1) (rowsD d)
def within (a m : Int) : Bool := decide (0 ≤ a) && decide (a ≤ m)
def okG : Int → List (Int × Int) → Bool
  | _, [] => true
  | m, p :: r => (within p.1 m && within p.2 m) && okG (m + 2) r
theorem pr_dp {K : PySem.W.Frag} {H : Hp} {v : V} {p : Int × Int} (h : Pr K H v p) : ∃ e, Dp K H v e ∧ (rowsD e).length ≤ 1000 ∧ ∀ m, rowB e 2 0 m = (within p.1 m && within p.2 m) := by
  obtain ⟨q, rfl, h | h⟩ := h
  · exact ⟨_, .lst h (.cons (.int _) (.cons (.int _) .nil)), by show 2 ≤ 1000; decide, fun m => by show (true && (decide (((2 : Nat) : Int) = 2) && (within p.1 m && (within p.2 m && true)))) = _; rw [decide_eq_true (by rfl), Bool.and_true]; rfl⟩
  · exact ⟨_, .tup h (.cons (.int _) (.cons (.int _) .nil)), by show 2 ≤ 1000; decide, fun m => by show (true && (decide (((2 : Nat) : Int) = 2) && (within p.1 m && (within p.2 m && true)))) = _; rw [decide_eq_true (by rfl), Bool.and_true]; rfl⟩
theorem prs_dp {K : PySem.W.Frag} {H : Hp} : ∀ {vs : List V} {gs : List (Int × Int)}, All2 (Pr K H) vs gs → ∃ ds, DpAll K H vs ds ∧ ds.length = gs.length ∧ (∀ e ∈ ds, (rowsD e).length ≤ 1000) ∧ ∀ m, goB m ds = okG m gs
  | _, _, .nil => ⟨[], .nil, rfl, (fun e z => absurd z List.not_mem_nil), fun m => rfl⟩
  | _, _, .cons h t => by
    obtain ⟨e, e1, e2, e3⟩ := pr_dp h
    obtain ⟨ds, d1, d2, d3, d4⟩ := prs_dp t
    refine ⟨e :: ds, .cons e1 d1, congrArg Nat.succ d2, fun z hz => ?_, fun m => ?_⟩
    · rcases List.mem_cons.mp hz with rfl | hz
      · exact e2
      · exact d3 z hz
    · show (rowB e 2 0 m && goB (m + 2) ds) = _
      rw [e3, d4]
      rfl
theorem row_dp {K : PySem.W.Frag} {H : Hp} {v : V} {gs : List (Int × Int)} (h : RowG K H v gs) : ∃ d, Dp K H v d ∧ (rowsD d).length = gs.length ∧ (∀ e ∈ rowsD d, (rowsD e).length ≤ 1000) ∧ ∀ n, gatesB n d = okG (2 * n + 1) gs := by
  obtain ⟨r, vs, rfl, h1, h2⟩ := h
  obtain ⟨ds, d1, d2, d3, d4⟩ := prs_dp h2
  rcases h1 with h1 | h1
  · exact ⟨.list ds, .lst h1 d1, d2, d3, fun n => d4 _⟩
  · exact ⟨.tuple ds, .tup h1 d1, d2, d3, fun n => d4 _⟩
def spNeed : Sp := fun vs H Q _ => ∃ n : Int, vs = [.int n] ∧ n ≥ 0 ∧ Q .non H
def spGates (K : PySem.W.Frag) : Sp := fun vs H Q _ => ∃ (n : Int) (v : V) (d : PyData), vs = [.int n, v] ∧ Dp K H v d ∧ (rowsD d).length ≤ 1000 ∧ (∀ e ∈ rowsD d, (rowsD e).length ≤ 1000) ∧ ∀ H', Same H H' → Q (.bl (gatesB n d)) H'
def spInit (K : PySem.W.Frag) (C : Addr) : Sp := fun vs H Q _ => ∃ (p dx : Addr) (n : Int) (v : V) (gs : List (Int × Int)), vs = [.ref p, .int n, v] ∧ H p = some (.ins C dx []) ∧ n ≥ 0 ∧ RowG K H v gs ∧ gs.length ≤ 1000 ∧ okG (2 * n + 1) gs = true ∧
  ∀ H', (∀ b o, H b = some o → b ≠ p → H' b = some o) → GraphAt K C H' p n gs → Q .non H'
def spEqG (K : PySem.W.Frag) (C : Addr) : Sp := fun vs H Q _ => ∃ (p : Addr) (v : V) (n : Int) (gs : List (Int × Int)), vs = [.ref p, v] ∧ GraphAt K C H p n gs ∧
  ((∃ (q : Addr) (n' : Int) (gs' : List (Int × Int)), v = .ref q ∧ GraphAt K C H q n' gs' ∧ Q (.bl (decide (n = n') && PyData.eqv (gD gs) (gD gs'))) H) ∨ ∃ (t : Addr) (xs : List V), v = .ref t ∧ SqT K H t xs ∧ Q (.bl false) H)
theorem can_pD : ∀ gs : List (Int × Int), PyData.canLayAll0 (gs.map pD) = true
  | [] => rfl
  | _ :: r => can_pD r
theorem deep_pD : ∀ gs : List (Int × Int), PyData.depthAll (gs.map pD) ≤ 1
  | [] => Nat.zero_le _
  | p :: r => Nat.max_le.mpr ⟨Nat.le_refl _, deep_pD r⟩
theorem shaped_gD (gs : List (Int × Int)) : SeqAt.shaped (gD gs) = true := by
  have h1 := can_pD gs
  have h2 := deep_pD gs
  unfold SeqAt.shaped
  rw [Bool.and_eq_true]
  exact ⟨h1, decide_eq_true (by show PyData.depthAll (gs.map pD) + 1 ≤ 64; omega)⟩
def rTupOf (K : PySem.W.Frag) : List V → Hp → VK → Prop := fun xs H Q => ∃ p ys, xs = [V.ref p] ∧ ((SqL K H p ys ∧ ∀ l, H l = none → Q (.ref l) (upd H l (.tup ys))) ∨ (SqT K H p ys ∧ Q (.ref p) H))
section
variable {P : Program} {w : World} {K : PySem.W.Frag} {mg : Str → Option Value} {base : Heap} {f C : Addr} {fd : FuncData}
theorem start_int (n : Int) : 2 * n + 1 = 2 * n + 1 + 2 * ((0 : Nat) : Int) := by omega
theorem start_eq (n : Int) (a : Addr) : ([some (.int n), some (.ref a), some (.int (2 * n + 1)), none] : List (Option V)) = [some (.int n), some (.ref a), some (.int (2 * n + 1 + 2 * ((0 : Nat) : Int))), none] := by
  rw [← start_int]
theorem scNeed : FnScope ["leaves"] ["leaves"] (defScope sNeed) := ⟨rfl, rfl, rfl, by decide +kernel, rfl, by decide +kernel, by decide +kernel⟩
theorem scGates : FnScope ["leaves", "value", "most", "pair"] ["leaves", "value"] (defScope sGates) := ⟨rfl, rfl, rfl, by decide +kernel, rfl, by decide +kernel, by decide +kernel⟩
abbrev sInit : Stmt := inClass cGraph 0
abbrev sEq : Stmt := inClass cGraph 1
abbrev inN : List Str := ["self", "leaves", "gates", "pair"]
theorem scInit : FnScope inN ["self", "leaves", "gates"] (defScope sInit) := ⟨rfl, rfl, rfl, by decide +kernel, rfl, by decide +kernel, by decide +kernel⟩
theorem scEq : FnScope ["self", "other"] ["self", "other"] (defScope sEq) := ⟨rfl, rfl, rfl, by decide +kernel, rfl, by decide +kernel, by decide +kernel⟩
abbrev FnI (K : PySem.W.Frag) (f : Addr) (fd : FuncData) : Prop := FunD K "__init__" "Graph.__init__" (defArgs sInit) (defBody sInit) (defScope sInit) [] [] f fd
abbrev FnE (K : PySem.W.Frag) (f : Addr) (fd : FuncData) : Prop := FunD K "__eq__" "Graph.__eq__" (defArgs sEq) (defBody sEq) (defScope sEq) [] [] f fd
theorem ok_need {fF : Addr} {fdF : FuncData} (F : FnP K "need_leaves" sNeed f fd) (T : Ki.Tx mg) (FF : FnP K "is_from" sFrom fF fdF) (gF : mg "is_from" = some (.ref fF)) : FnOk P w K mg base CX0 2 f fd ["leaves"] spNeed := by
  have GF : FnOk P w K mg base CX0 1 fF fdF ["value", "least"] (spFrom K) := ok_from FF T
  have bF : Binds K fdF ["value", "least"] [] := FF.bindsN fun _ _ _ _ _ _ us hl => match us, hl with | [_, _], _ => rfl
  refine F.ok scNeed (fun vs H Q E h => ?_) (fun cdv A outer s H vs Q E hr h => ?_)
  · obtain ⟨n, rfl, _⟩ := h
    rfl
  · obtain ⟨n, rfl, hn, q⟩ := h
    refine ⟨_, PSs.nox (pss_one (ps_if (pt_not (pt_val (pe_call GF hr (by rfl) gF FF.kp bF .nil pass0 (pa_cons (pv 0) (pa_cons pe_int pa_nil))))) (pss_one ps_never) pss_nil)), ?_⟩
    refine ⟨_, rfl, _, _, .int n, rfl, .int n, _, rfl, ?_⟩
    exact iteNS hn q
theorem ok_gates {fR fB : Addr} {fdR fdB : FuncData} (F : FnP K "are_gates" sGates f fd) (T : Ki.Tx mg) (FR : FnP K "is_row" sRow fR fdR) (gR : mg "is_row" = some (.ref fR)) (FB : FnP K "is_row_between" sRowB fB fdB) (gB : mg "is_row_between" = some (.ref fB))
    {fW : Addr} {fdW : FuncData} (FW : FnP K "is_between" sBetween fW fdW) (gW : mg "is_between" = some (.ref fW)) : FnOk P w K mg base CX0 3 f fd ["leaves", "value"] (spGates K) := by
  have GR : FnOk P w K mg base CX0 1 fR fdR ["value"] (spRow K) := ok_row FR T
  have GB : FnOk P w K mg base CX0 2 fB fdB ["value", "many", "least", "most"] (spRowB K) := ok_rowB FB T FW gW FR gR
  have bR : Binds K fdR ["value"] [] := FR.bindsN fun _ _ _ _ _ _ us hl => match us, hl with | [_], _ => rfl
  have bB : Binds K fdB ["value", "many", "least", "most"] [] := FB.bindsN fun _ _ _ _ _ _ us hl => match us, hl with | [_, _, _, _], _ => rfl
  refine F.ok scGates (fun vs H Q E h => ?_) (fun cdv A outer s H vs Q E hr h => ?_)
  · obtain ⟨n, v, d, rfl, _⟩ := h
    rfl
  · obtain ⟨n, v, d, rfl, hd, hz, hzz, q⟩ := h
    have hr1 := hr.mono (j := 1) (by decide)
    cases hd with
    | lst hs ha =>
      rename_i a vs ds
      have hlen := dps_len ha
      refine ⟨_, PSs.nox (pss_cons (ps_if (pt_not (pt_val (pe_call GR hr1 (by rfl) gR FR.kp bR .nil pass0 (pa_cons (pv 1) pa_nil)))) (pss_one (ps_ret pe_bl)) pss_nil)
        (pss_cons (ps_set (i := 2) scGates.nd rfl (Or.inl rfl) (pe_op op_add (pe_op op_mul pe_int (pv 0)) pe_int))
        (pss_cons (ps_for PassesOwn.never rfl (pi_list (pv 1)) (pg_name (i := 3) scGates.nd rfl (Or.inl rfl))
          (pss_cons (ps_if (pt_not (pt_val (pe_call GB hr (by rfl) gB FB.kp bB .nil pass0 (pa_cons (pv 3) (pa_cons pe_int (pa_cons pe_int (pa_cons (pv 2) pa_nil))))))) (pss_one (ps_ret pe_bl)) pss_nil)
          (pss_one (ps_aug (i := 2) scGates.nd rfl (Or.inl rfl) pe_int ip_add))))
        (pss_one (ps_ret pe_bl))))), ?_⟩
      refine ⟨_, rfl, _, _, rfl, .lst hs ha, fun H1 s1 => ⟨_, rfl, iteF ?_⟩⟩
      refine ⟨_, rfl, _, _, rfl, rfl, .inl ⟨by decide, by decide⟩, _, _, rfl, rfl, ?_⟩
      refine ⟨_, rfl, a, rfl, ⟨_, s1.seq hs⟩, for_list (K := K) (a := a) (xs := vs) (fun i σ H2 => ∃ v : Option V, σ = [some (.int n), some (.ref a), some (.int (2 * n + 1 + 2 * i)), v] ∧ Same H1 H2 ∧ goB (2 * n + 1) ds = goB (2 * n + 1 + 2 * i) (ds.drop i))
        ⟨none, start_eq n a, Same.refl _, by rw [List.drop_zero]; exact congrArg (fun z => goB z ds) (start_int n)⟩ (fun i σ H2 _ ⟨_, _, s2, _⟩ => s2.seq (s1.seq hs)) ?_ ?_⟩
      · rintro i v σ H2 hi ⟨w0, rfl, s2, e2⟩
        obtain ⟨e, he, hv⟩ := dps_get ha hi
        have hm : e ∈ ds := List.mem_of_getElem? he
        have hdrop : ds.drop i = e :: ds.drop (i + 1) := by
          obtain ⟨hlt, e5⟩ := List.getElem?_eq_some_iff.mp he
          rw [← e5]
          exact List.drop_eq_getElem_cons hlt
        rw [hdrop] at e2
        refine ⟨_, rfl, _, rfl, _, _, _, _, e, rfl, dp_same (s1.trans s2) hv, hzz e hm, fun H3 s3 => ⟨_, rfl, ?_⟩⟩
        cases er : rowB e 2 0 (2 * n + 1 + 2 * i) with
        | false =>
          refine iteT ?_
          have e4 : gatesB n (.list ds) = false := by
            show (true && goB (2 * n + 1) ds) = false
            rw [e2]
            show (rowB e 2 0 (2 * n + 1 + 2 * i) && goB _ _) = false
            rw [er]
            rfl
          show Q (V.bl false) H3
          rw [← e4]
          exact q _ ((s1.trans s2).trans s3)
        | true =>
          refine iteF ?_
          refine ⟨_, rfl, _, _, rfl, rfl, some v, ?_, s2.trans s3, ?_⟩
          · show _ = _
            have e5 : 2 * n + 1 + 2 * (i : Int) + 2 = 2 * n + 1 + 2 * ((i + 1 : Nat) : Int) := by omega
            rw [← e5]
            rfl
          · rw [e2]
            show (rowB e 2 0 (2 * n + 1 + 2 * i) && goB _ _) = _
            rw [er]
            have e5 : 2 * n + 1 + 2 * (i : Int) + 2 = 2 * n + 1 + 2 * ((i + 1 : Nat) : Int) := by omega
            rw [← e5]
            rfl
      · rintro σ H2 ⟨w0, rfl, s2, e2⟩
        rw [hlen, List.drop_length] at e2
        have e4 : gatesB n (.list ds) = true := by
          show (true && goB (2 * n + 1) ds) = true
          rw [e2]
          rfl
        show Q (V.bl true) H2
        rw [← e4]
        exact q _ (s1.trans s2)
    | tup hs ha =>
      rename_i a vs ds
      have hlen := dps_len ha
      refine ⟨_, PSs.nox (pss_cons (ps_if (pt_not (pt_val (pe_call GR hr1 (by rfl) gR FR.kp bR .nil pass0 (pa_cons (pv 1) pa_nil)))) (pss_one (ps_ret pe_bl)) pss_nil)
        (pss_cons (ps_set (i := 2) scGates.nd rfl (Or.inl rfl) (pe_op op_add (pe_op op_mul pe_int (pv 0)) pe_int))
        (pss_cons (ps_for PassesOwn.never rfl (pi_tup (pv 1)) (pg_name (i := 3) scGates.nd rfl (Or.inl rfl))
          (pss_cons (ps_if (pt_not (pt_val (pe_call GB hr (by rfl) gB FB.kp bB .nil pass0 (pa_cons (pv 3) (pa_cons pe_int (pa_cons pe_int (pa_cons (pv 2) pa_nil))))))) (pss_one (ps_ret pe_bl)) pss_nil)
          (pss_one (ps_aug (i := 2) scGates.nd rfl (Or.inl rfl) pe_int ip_add))))
        (pss_one (ps_ret pe_bl))))), ?_⟩
      refine ⟨_, rfl, _, _, rfl, .tup hs ha, fun H1 s1 => ⟨_, rfl, iteF ?_⟩⟩
      refine ⟨_, rfl, _, _, rfl, rfl, .inl ⟨by decide, by decide⟩, _, _, rfl, rfl, ?_⟩
      refine ⟨_, rfl, a, rfl, ⟨_, seqT_same s1 hs⟩, for_tup (K := K) (a := a) (xs := vs) (fun i σ H2 => ∃ v : Option V, σ = [some (.int n), some (.ref a), some (.int (2 * n + 1 + 2 * i)), v] ∧ Same H1 H2 ∧ goB (2 * n + 1) ds = goB (2 * n + 1 + 2 * i) (ds.drop i))
        ⟨none, start_eq n a, Same.refl _, by rw [List.drop_zero]; exact congrArg (fun z => goB z ds) (start_int n)⟩ (fun i σ H2 _ ⟨_, _, s2, _⟩ => seqT_same s2 (seqT_same s1 hs)) ?_ ?_⟩
      · rintro i v σ H2 hi ⟨w0, rfl, s2, e2⟩
        obtain ⟨e, he, hv⟩ := dps_get ha hi
        have hm : e ∈ ds := List.mem_of_getElem? he
        have hdrop : ds.drop i = e :: ds.drop (i + 1) := by
          obtain ⟨hlt, e5⟩ := List.getElem?_eq_some_iff.mp he
          rw [← e5]
          exact List.drop_eq_getElem_cons hlt
        rw [hdrop] at e2
        refine ⟨_, rfl, _, rfl, _, _, _, _, e, rfl, dp_same (s1.trans s2) hv, hzz e hm, fun H3 s3 => ⟨_, rfl, ?_⟩⟩
        cases er : rowB e 2 0 (2 * n + 1 + 2 * i) with
        | false =>
          refine iteT ?_
          have e4 : gatesB n (.tuple ds) = false := by
            show (true && goB (2 * n + 1) ds) = false
            rw [e2]
            show (rowB e 2 0 (2 * n + 1 + 2 * i) && goB _ _) = false
            rw [er]
            rfl
          show Q (V.bl false) H3
          rw [← e4]
          exact q _ ((s1.trans s2).trans s3)
        | true =>
          refine iteF ?_
          refine ⟨_, rfl, _, _, rfl, rfl, some v, ?_, s2.trans s3, ?_⟩
          · show _ = _
            have e5 : 2 * n + 1 + 2 * (i : Int) + 2 = 2 * n + 1 + 2 * ((i + 1 : Nat) : Int) := by omega
            rw [← e5]
            rfl
          · rw [e2]
            show (rowB e 2 0 (2 * n + 1 + 2 * i) && goB _ _) = _
            rw [er]
            have e5 : 2 * n + 1 + 2 * (i : Int) + 2 = 2 * n + 1 + 2 * ((i + 1 : Nat) : Int) := by omega
            rw [← e5]
            rfl
      · rintro σ H2 ⟨w0, rfl, s2, e2⟩
        rw [hlen, List.drop_length] at e2
        have e4 : gatesB n (.tuple ds) = true := by
          show (true && goB (2 * n + 1) ds) = true
          rw [e2]
          rfl
        show Q (V.bl true) H2
        rw [← e4]
        exact q _ (s1.trans s2)
    | non =>
      refine ⟨_, PSs.nox (pss_cons (ps_if (pt_not (pt_val (pe_call GR hr1 (by rfl) gR FR.kp bR .nil pass0 (pa_cons (pv 1) pa_nil)))) (pss_one (ps_ret pe_bl)) pss_nil)
        (pss_cons (ps_set (i := 2) scGates.nd rfl (Or.inl rfl) (pe_op op_add (pe_op op_mul pe_int (pv 0)) pe_int))
        (pss_cons (ps_for PassesOwn.never rfl (pi_list (pv 1)) (pg_name (i := 3) scGates.nd rfl (Or.inl rfl))
          (pss_cons (ps_if (pt_not (pt_val (pe_call GB hr (by rfl) gB FB.kp bB .nil pass0 (pa_cons (pv 3) (pa_cons pe_int (pa_cons pe_int (pa_cons (pv 2) pa_nil))))))) (pss_one (ps_ret pe_bl)) pss_nil)
          (pss_one (ps_aug (i := 2) scGates.nd rfl (Or.inl rfl) pe_int ip_add))))
        (pss_one (ps_ret pe_bl))))), ?_⟩
      exact ⟨_, rfl, _, _, rfl, .non, fun H1 s1 => ⟨_, rfl, iteT (q _ s1)⟩⟩
    | bl b =>
      refine ⟨_, PSs.nox (pss_cons (ps_if (pt_not (pt_val (pe_call GR hr1 (by rfl) gR FR.kp bR .nil pass0 (pa_cons (pv 1) pa_nil)))) (pss_one (ps_ret pe_bl)) pss_nil)
        (pss_cons (ps_set (i := 2) scGates.nd rfl (Or.inl rfl) (pe_op op_add (pe_op op_mul pe_int (pv 0)) pe_int))
        (pss_cons (ps_for PassesOwn.never rfl (pi_list (pv 1)) (pg_name (i := 3) scGates.nd rfl (Or.inl rfl))
          (pss_cons (ps_if (pt_not (pt_val (pe_call GB hr (by rfl) gB FB.kp bB .nil pass0 (pa_cons (pv 3) (pa_cons pe_int (pa_cons pe_int (pa_cons (pv 2) pa_nil))))))) (pss_one (ps_ret pe_bl)) pss_nil)
          (pss_one (ps_aug (i := 2) scGates.nd rfl (Or.inl rfl) pe_int ip_add))))
        (pss_one (ps_ret pe_bl))))), ?_⟩
      exact ⟨_, rfl, _, _, rfl, .bl b, fun H1 s1 => ⟨_, rfl, iteT (q _ s1)⟩⟩
    | int i =>
      refine ⟨_, PSs.nox (pss_cons (ps_if (pt_not (pt_val (pe_call GR hr1 (by rfl) gR FR.kp bR .nil pass0 (pa_cons (pv 1) pa_nil)))) (pss_one (ps_ret pe_bl)) pss_nil)
        (pss_cons (ps_set (i := 2) scGates.nd rfl (Or.inl rfl) (pe_op op_add (pe_op op_mul pe_int (pv 0)) pe_int))
        (pss_cons (ps_for PassesOwn.never rfl (pi_list (pv 1)) (pg_name (i := 3) scGates.nd rfl (Or.inl rfl))
          (pss_cons (ps_if (pt_not (pt_val (pe_call GB hr (by rfl) gB FB.kp bB .nil pass0 (pa_cons (pv 3) (pa_cons pe_int (pa_cons pe_int (pa_cons (pv 2) pa_nil))))))) (pss_one (ps_ret pe_bl)) pss_nil)
          (pss_one (ps_aug (i := 2) scGates.nd rfl (Or.inl rfl) pe_int ip_add))))
        (pss_one (ps_ret pe_bl))))), ?_⟩
      exact ⟨_, rfl, _, _, rfl, .int i, fun H1 s1 => ⟨_, rfl, iteT (q _ s1)⟩⟩
    | str x =>
      refine ⟨_, PSs.nox (pss_cons (ps_if (pt_not (pt_val (pe_call GR hr1 (by rfl) gR FR.kp bR .nil pass0 (pa_cons (pv 1) pa_nil)))) (pss_one (ps_ret pe_bl)) pss_nil)
        (pss_cons (ps_set (i := 2) scGates.nd rfl (Or.inl rfl) (pe_op op_add (pe_op op_mul pe_int (pv 0)) pe_int))
        (pss_cons (ps_for PassesOwn.never rfl (pi_list (pv 1)) (pg_name (i := 3) scGates.nd rfl (Or.inl rfl))
          (pss_cons (ps_if (pt_not (pt_val (pe_call GB hr (by rfl) gB FB.kp bB .nil pass0 (pa_cons (pv 3) (pa_cons pe_int (pa_cons pe_int (pa_cons (pv 2) pa_nil))))))) (pss_one (ps_ret pe_bl)) pss_nil)
          (pss_one (ps_aug (i := 2) scGates.nd rfl (Or.inl rfl) pe_int ip_add))))
        (pss_one (ps_ret pe_bl))))), ?_⟩
      exact ⟨_, rfl, _, _, rfl, .str x, fun H1 s1 => ⟨_, rfl, iteT (q _ s1)⟩⟩
theorem ok_init {fN fA : Addr} {fdN fdA : FuncData} (F : FnI K f fd) (T : Tx K mg C) (GN : FnOk P w K mg base CX0 2 fN fdN ["leaves"] spNeed) (gN : mg "need_leaves" = some (.ref fN)) (kN : PySem.W.keepIn K (.ref fN) = true) (bN : Binds K fdN ["leaves"] [])
    (GA : FnOk P w K mg base CX0 3 fA fdA ["leaves", "value"] (spGates K)) (gA : mg "are_gates" = some (.ref fA)) (kA : PySem.W.keepIn K (.ref fA) = true) (bA : Binds K fdA ["leaves", "value"] []) : FnOk P w K mg base CX0 4 f fd ["self", "leaves", "gates"] (spInit K C) := by
  refine F.ok scInit (fun vs H Q E h => ?_) (fun cdv A outer s H vs Q E hr h => ?_)
  · obtain ⟨p, dx, n, v, gs, rfl, _⟩ := h
    rfl
  · obtain ⟨p, dx, n, v, gs, rfl, hp, hn, hv, hz, hok, q⟩ := h
    have hr2 := hr.mono (j := 2) (by decide)
    obtain ⟨d, d1, d2, d3, d4⟩ := row_dp hv
    obtain ⟨r, vs, rfl, hs, ha⟩ := id hv
    rcases hs with hs | hs
    · refine ⟨_, PSs.nox (pss_cons (ps_expr (pe_call GN hr2 (by rfl) gN kN bN .nil pass0 (pa_cons (pv 1) pa_nil)))
        (pss_cons (ps_if (pt_not (pt_val (pe_call GA hr (by rfl) gA kA bA .nil pass0 (pa_cons (pv 1) (pa_cons (pv 2) pa_nil))))) (pss_one ps_never) pss_nil)
        (pss_cons (ps_fld (pv 0) (pv 1) rfl)
        (pss_one (ps_fld (pv 0) (pe_callTy call_tuple_of (by rfl) T.ki.tuple (by decide +kernel) (pa_cons
          (pe_lc (own := [("pair", 3)]) (g := gName 3) (tt := tYes) rfl scInit.nd (pi_list (pv 2)) (blkOk_by (N := inN) (sc := defScope sInit) (by decide +kernel)) (fun _ _ _ _ _ => pg_name (i := 3) scInit.nd rfl (Or.inl rfl)) (fun _ _ _ _ _ => pts_nil)
            (fun _ _ _ _ _ => pe_callTy (T := "tuple") (r := rTupOf K) (by exact call_tuple_of) (by rfl) T.ki.tuple (by decide +kernel) (pa_cons (pv 3) pa_nil))) pa_nil)) rfl))))), ?_⟩
      refine ⟨_, rfl, n, rfl, hn, ?_⟩
      refine ⟨_, rfl, _, rfl, n, _, d, rfl, d1, by omega, d3, fun H1 s1 => ⟨_, rfl, ?_⟩⟩
      rw [d4, hok]
      refine iteF ?_
      have hp1 := s1 _ _ hp
      refine ⟨_, rfl, _, rfl, p, C, dx, _, rfl, hp1, T.cl, T.nL, (by show 0 < 1000; decide), ?_⟩
      have hrp : ∀ {b : Addr} {u : HO}, H b = some u → (∀ C dx fs, u ≠ .ins C dx fs) → (upd H1 p (.ins C dx (putF "leaves" (.int n) []))) b = some u := fun {b u} e ne => by
        rw [upd_ne (fun z => by rw [z, hp] at e; cases e; exact ne _ _ _ rfl)]
        exact s1 _ _ e
      have hs3 : SqL K (upd H1 p (.ins C dx (putF "leaves" (.int n) []))) r vs := by
        rcases hs with (h | ⟨o, h⟩) | h
        · exact .inl (.inl (hrp h (by intro C dx fs z; cases z)))
        · exact .inl (.inr ⟨o, hrp h (by intro C dx fs z; cases z)⟩)
        · exact .inr h
      have pr3 : ∀ {v : V} {z : Int × Int}, Pr K H v z → Pr K (upd H1 p (.ins C dx (putF "leaves" (.int n) []))) v z := by
        rintro v z ⟨q, e, h⟩
        refine ⟨q, e, ?_⟩
        rcases h with ((h | ⟨o, h⟩) | h) | ((h | ⟨o, h⟩) | h)
        · exact .inl (.inl (.inl (hrp h (by intro C dx fs z; cases z))))
        · exact .inl (.inl (.inr ⟨o, hrp h (by intro C dx fs z; cases z)⟩))
        · exact .inl (.inr h)
        · exact .inr (.inl (.inl (hrp h (by intro C dx fs z; cases z))))
        · exact .inr (.inl (.inr ⟨o, hrp h (by intro C dx fs z; cases z)⟩))
        · exact .inr (.inr h)
      have hp3 : (upd H1 p (.ins C dx (putF "leaves" (.int n) []))) p = some (.ins C dx (putF "leaves" (.int n) [])) := upd_same
      have out3 : ∀ b o, H b = some o → b ≠ p → (upd H1 p (.ins C dx (putF "leaves" (.int n) []))) b = some o := fun b o e ne => by
        rw [upd_ne ne]
        exact s1 _ _ e
      generalize (upd H1 p (.ins C dx (putF "leaves" (.int n) []))) = H3 at hs3 pr3 hp3 out3 ⊢
      refine ⟨_, rfl, r, rfl, ⟨_, hs3⟩, fun D nD => ?_⟩
      refine lc_list (K := K) (a := r) (xs := vs) (fun i H4 => Same H3 H4 ∧ ∃ ys, H4 D = some (.lst ys) ∧ All2 (Pt K H4) ys (gs.take i)) ⟨same_new nD, [], upd_same, .nil⟩ (fun i H4 _ ⟨s4, _⟩ => s4.seq hs3) ?_ ?_
      · rintro i v H4 hi ⟨s4, ys, h4, a4⟩
        obtain ⟨z, hz1, hz2⟩ := ha.get hi
        obtain ⟨q0, rfl, hq⟩ := (pr3 hz2).same s4
        have lys : ys.length < sizeLine := by
          rw [a4.len, List.length_take]
          exact Nat.lt_of_le_of_lt (Nat.min_le_right _ _) (Nat.lt_of_le_of_lt hz (by decide))
        have keep : ∀ {H5 : Hp} {zs : List V}, Same H4 H5 → Same H3 (upd H5 D (.lst zs)) := fun {H5 zs} s5 b o e => by
          rw [upd_ne (ne_of_none e nD)]
          exact s5 _ _ (s4 _ _ e)
        refine ⟨rfl, yes_of ?_⟩
        rcases hq with hq | hq
        · refine ⟨_, rfl, q0, _, rfl, .inl ⟨hq, fun l nl => ?_⟩⟩
          have s5 : Same H4 (upd H4 l (.tup [.int z.1, .int z.2])) := same_new nl
          refine ⟨_, s5 _ _ h4, lys, keep s5, _, upd_same, ?_⟩
          rw [take_more hz1]
          have fi : Firm (upd H4 l (.tup [.int z.1, .int z.2])) (upd (upd H4 l (.tup [.int z.1, .int z.2])) D (.lst (ys ++ [.ref l]))) := Firm.upd (s5 _ _ h4) rfl
          exact (a4.imp fun _ _ h => (h.firm (Firm.of s5)).firm fi).snoc ⟨l, rfl, firm_seq fi (SqT.of upd_same)⟩
        · refine ⟨_, rfl, q0, _, rfl, .inr ⟨hq, ?_⟩⟩
          refine ⟨_, h4, lys, keep (Same.refl _), _, upd_same, ?_⟩
          rw [take_more hz1]
          have fi : Firm H4 (upd H4 D (.lst (ys ++ [.ref q0]))) := Firm.upd h4 rfl
          exact (a4.imp fun _ _ h => h.firm fi).snoc ⟨q0, rfl, firm_seq fi hq⟩
      · rintro H4 ⟨s4, ys, h4, a4⟩
        rw [ha.len, List.take_length] at a4
        refine ⟨D, ys, rfl, .inl ⟨SqL.of h4, fun g ng => ?_⟩⟩
        have hp4 := s4 _ _ hp3
        have s5 : Same H4 (upd H4 g (.tup ys)) := same_new ng
        refine ⟨_, rfl, p, C, dx, _, rfl, s5 _ _ hp4, T.cl, T.nG, (by show 1 < 1000; decide), ?_⟩
        refine q _ (fun b o e ne => ?_) ⟨dx, g, upd_same, ys, ?_, ?_⟩
        · rw [upd_ne ne]
          exact s5 _ _ (s4 _ _ (out3 b o e ne))
        · have ngp : g ≠ p := fun e => by
            rw [e, hp4] at ng
            cases ng
          exact SqT.of (by rw [upd_ne ngp, upd_same])
        · refine a4.imp fun _ _ h => ?_
          obtain ⟨q1, e1, h1⟩ := h.firm (Firm.of s5)
          refine ⟨q1, e1, ?_⟩
          rcases h1 with (h | ⟨o, h⟩) | h
          · exact .inl (.inl (by rw [upd_ne (fun e => by rw [e, s5 _ _ hp4] at h; cases h)]; exact h))
          · exact .inl (.inr ⟨o, by rw [upd_ne (fun e => by rw [e, s5 _ _ hp4] at h; cases h)]; exact h⟩)
          · exact .inr h
    · refine ⟨_, PSs.nox (pss_cons (ps_expr (pe_call GN hr2 (by rfl) gN kN bN .nil pass0 (pa_cons (pv 1) pa_nil)))
        (pss_cons (ps_if (pt_not (pt_val (pe_call GA hr (by rfl) gA kA bA .nil pass0 (pa_cons (pv 1) (pa_cons (pv 2) pa_nil))))) (pss_one ps_never) pss_nil)
        (pss_cons (ps_fld (pv 0) (pv 1) rfl)
        (pss_one (ps_fld (pv 0) (pe_callTy call_tuple_of (by rfl) T.ki.tuple (by decide +kernel) (pa_cons
          (pe_lc (own := [("pair", 3)]) (g := gName 3) (tt := tYes) rfl scInit.nd (pi_tup (pv 2)) (blkOk_by (N := inN) (sc := defScope sInit) (by decide +kernel)) (fun _ _ _ _ _ => pg_name (i := 3) scInit.nd rfl (Or.inl rfl)) (fun _ _ _ _ _ => pts_nil)
            (fun _ _ _ _ _ => pe_callTy (T := "tuple") (r := rTupOf K) (by exact call_tuple_of) (by rfl) T.ki.tuple (by decide +kernel) (pa_cons (pv 3) pa_nil))) pa_nil)) rfl))))), ?_⟩
      refine ⟨_, rfl, n, rfl, hn, ?_⟩
      refine ⟨_, rfl, _, rfl, n, _, d, rfl, d1, by omega, d3, fun H1 s1 => ⟨_, rfl, ?_⟩⟩
      rw [d4, hok]
      refine iteF ?_
      have hp1 := s1 _ _ hp
      refine ⟨_, rfl, _, rfl, p, C, dx, _, rfl, hp1, T.cl, T.nL, (by show 0 < 1000; decide), ?_⟩
      have hrp : ∀ {b : Addr} {u : HO}, H b = some u → (∀ C dx fs, u ≠ .ins C dx fs) → (upd H1 p (.ins C dx (putF "leaves" (.int n) []))) b = some u := fun {b u} e ne => by
        rw [upd_ne (fun z => by rw [z, hp] at e; cases e; exact ne _ _ _ rfl)]
        exact s1 _ _ e
      have hs3 : SqT K (upd H1 p (.ins C dx (putF "leaves" (.int n) []))) r vs := by
        rcases hs with (h | ⟨o, h⟩) | h
        · exact .inl (.inl (hrp h (by intro C dx fs z; cases z)))
        · exact .inl (.inr ⟨o, hrp h (by intro C dx fs z; cases z)⟩)
        · exact .inr h
      have pr3 : ∀ {v : V} {z : Int × Int}, Pr K H v z → Pr K (upd H1 p (.ins C dx (putF "leaves" (.int n) []))) v z := by
        rintro v z ⟨q, e, h⟩
        refine ⟨q, e, ?_⟩
        rcases h with ((h | ⟨o, h⟩) | h) | ((h | ⟨o, h⟩) | h)
        · exact .inl (.inl (.inl (hrp h (by intro C dx fs z; cases z))))
        · exact .inl (.inl (.inr ⟨o, hrp h (by intro C dx fs z; cases z)⟩))
        · exact .inl (.inr h)
        · exact .inr (.inl (.inl (hrp h (by intro C dx fs z; cases z))))
        · exact .inr (.inl (.inr ⟨o, hrp h (by intro C dx fs z; cases z)⟩))
        · exact .inr (.inr h)
      have hp3 : (upd H1 p (.ins C dx (putF "leaves" (.int n) []))) p = some (.ins C dx (putF "leaves" (.int n) [])) := upd_same
      have out3 : ∀ b o, H b = some o → b ≠ p → (upd H1 p (.ins C dx (putF "leaves" (.int n) []))) b = some o := fun b o e ne => by
        rw [upd_ne ne]
        exact s1 _ _ e
      generalize (upd H1 p (.ins C dx (putF "leaves" (.int n) []))) = H3 at hs3 pr3 hp3 out3 ⊢
      refine ⟨_, rfl, r, rfl, ⟨_, hs3⟩, fun D nD => ?_⟩
      refine lc_tup (K := K) (a := r) (xs := vs) (fun i H4 => Same H3 H4 ∧ ∃ ys, H4 D = some (.lst ys) ∧ All2 (Pt K H4) ys (gs.take i)) ⟨same_new nD, [], upd_same, .nil⟩ (fun i H4 _ ⟨s4, _⟩ => seqT_same s4 hs3) ?_ ?_
      · rintro i v H4 hi ⟨s4, ys, h4, a4⟩
        obtain ⟨z, hz1, hz2⟩ := ha.get hi
        obtain ⟨q0, rfl, hq⟩ := (pr3 hz2).same s4
        have lys : ys.length < sizeLine := by
          rw [a4.len, List.length_take]
          exact Nat.lt_of_le_of_lt (Nat.min_le_right _ _) (Nat.lt_of_le_of_lt hz (by decide))
        have keep : ∀ {H5 : Hp} {zs : List V}, Same H4 H5 → Same H3 (upd H5 D (.lst zs)) := fun {H5 zs} s5 b o e => by
          rw [upd_ne (ne_of_none e nD)]
          exact s5 _ _ (s4 _ _ e)
        refine ⟨rfl, yes_of ?_⟩
        rcases hq with hq | hq
        · refine ⟨_, rfl, q0, _, rfl, .inl ⟨hq, fun l nl => ?_⟩⟩
          have s5 : Same H4 (upd H4 l (.tup [.int z.1, .int z.2])) := same_new nl
          refine ⟨_, s5 _ _ h4, lys, keep s5, _, upd_same, ?_⟩
          rw [take_more hz1]
          have fi : Firm (upd H4 l (.tup [.int z.1, .int z.2])) (upd (upd H4 l (.tup [.int z.1, .int z.2])) D (.lst (ys ++ [.ref l]))) := Firm.upd (s5 _ _ h4) rfl
          exact (a4.imp fun _ _ h => (h.firm (Firm.of s5)).firm fi).snoc ⟨l, rfl, firm_seq fi (SqT.of upd_same)⟩
        · refine ⟨_, rfl, q0, _, rfl, .inr ⟨hq, ?_⟩⟩
          refine ⟨_, h4, lys, keep (Same.refl _), _, upd_same, ?_⟩
          rw [take_more hz1]
          have fi : Firm H4 (upd H4 D (.lst (ys ++ [.ref q0]))) := Firm.upd h4 rfl
          exact (a4.imp fun _ _ h => h.firm fi).snoc ⟨q0, rfl, firm_seq fi hq⟩
      · rintro H4 ⟨s4, ys, h4, a4⟩
        rw [ha.len, List.take_length] at a4
        refine ⟨D, ys, rfl, .inl ⟨SqL.of h4, fun g ng => ?_⟩⟩
        have hp4 := s4 _ _ hp3
        have s5 : Same H4 (upd H4 g (.tup ys)) := same_new ng
        refine ⟨_, rfl, p, C, dx, _, rfl, s5 _ _ hp4, T.cl, T.nG, (by show 1 < 1000; decide), ?_⟩
        refine q _ (fun b o e ne => ?_) ⟨dx, g, upd_same, ys, ?_, ?_⟩
        · rw [upd_ne ne]
          exact s5 _ _ (s4 _ _ (out3 b o e ne))
        · have ngp : g ≠ p := fun e => by
            rw [e, hp4] at ng
            cases ng
          exact SqT.of (by rw [upd_ne ngp, upd_same])
        · refine a4.imp fun _ _ h => ?_
          obtain ⟨q1, e1, h1⟩ := h.firm (Firm.of s5)
          refine ⟨q1, e1, ?_⟩
          rcases h1 with (h | ⟨o, h⟩) | h
          · exact .inl (.inl (by rw [upd_ne (fun e => by rw [e, s5 _ _ hp4] at h; cases h)]; exact h))
          · exact .inl (.inr ⟨o, by rw [upd_ne (fun e => by rw [e, s5 _ _ hp4] at h; cases h)]; exact h⟩)
          · exact .inr h
theorem ok_eq (F : FnE K f fd) (T : Tx K mg C) : FnOk P w K mg base CX0 1 f fd ["self", "other"] (spEqG K C) := by
  refine F.ok scEq (fun vs H Q E h => ?_) (fun cdv A outer s H vs Q E hr h => ?_)
  · obtain ⟨p, v, n, gs, rfl, _⟩ := h
    rfl
  · obtain ⟨p, v, n, gs, rfl, hp, q⟩ := h
    obtain ⟨dx, g, h1, h2⟩ := hp
    refine ⟨_, PSs.nox (pss_one (ps_ret (pe_and (pe_callB call_isi (by rfl) T.ki.isi (by decide +kernel) (pa_cons (pv 1) (pa_cons (pe_glob (v := V.ref C) (by rfl) T.mgC rfl) pa_nil)))
      (pe_and (pe_cmpR op_eq (pe_fld (pv 0) rfl) (pe_fld (pv 1) rfl) (nomark _)) (pe_one (pe_cmpR (op_eqD hr.units) (pe_fld (pv 0) rfl) (pe_fld (pv 1) rfl) (nomark _))))))), ?_⟩
    rcases q with ⟨q, n', gs', rfl, hq, k⟩ | ⟨t, xs, rfl, ht, k⟩
    · obtain ⟨dy, g', e1, e2⟩ := hq
      refine ⟨_, rfl, _, _, _, _, _, rfl, .own _, .base (T.met e1), T.own, _, rfl, iteT ?_⟩
      refine ⟨_, rfl, p, C, dx, _, _, rfl, h1, T.cl, T.nL, flds_L _ _, _, rfl, q, C, dy, _, _, rfl, e1, T.cl, T.nL, flds_L _ _, rfl, _, rfl, ite2 (fun c => ?_) (fun c => ?_)⟩
      · refine ⟨_, rfl, p, C, dx, _, _, rfl, h1, T.cl, T.nG, flds_G _ _, _, rfl, q, C, dy, _, _, rfl, e1, T.cl, T.nG, flds_G _ _, _, _, h2.dp, e2.dp, ?_, ?_, ?_⟩
        · exact shaped_gD gs
        · exact shaped_gD gs'
        · have e : n = n' := V.int.inj (of_decide_eq_true c)
          rw [decide_eq_true e] at k
          exact k
      · have e : ¬ n = n' := fun z => c (decide_eq_true (congrArg V.int z))
        rw [decide_eq_false e] at k
        exact k
    · exact ⟨_, rfl, _, _, _, _, _, rfl, .own _, ty_tup ht, T.tup, _, rfl, iteF k⟩
end
end Gr
namespace No
open PySem PySem.Spec PyProof.Rows L2 Pen Dat Ki Fi Gr
/-! ## Values of nodes and literals -/
/-- abs, as its rule tells it -/
def ab (z : Int) : Int := if z < 0 then -z else z
def lit (f : List Int) (a : Int) : Int := ab (f.getD (a / 2).toNat 0 - a % 2)
def step (f : List Int) (p : Int × Int) : List Int := f ++ [lit f p.1 * lit f p.2]
def vals (bs : List Int) (gs : List (Int × Int)) : List Int := gs.foldl step (0 :: bs)
def B01 (f : List Int) : Prop := ∀ z ∈ f, z = 0 ∨ z = 1
theorem getD_01 {f : List Int} (h : B01 f) (j : Nat) : f.getD j 0 = 0 ∨ f.getD j 0 = 1 := by
  rw [List.getD_eq_getElem?_getD]
  cases e : f[j]? with
  | none => exact .inl rfl
  | some z => exact h z (List.mem_of_getElem? e)
theorem lit_01 {f : List Int} (h : B01 f) (a : Int) : lit f a = 0 ∨ lit f a = 1 := by
  have h1 := getD_01 h (a / 2).toNat
  have h2 : a % 2 = 0 ∨ a % 2 = 1 := by omega
  unfold lit ab
  rcases h1 with e1 | e1 <;> rcases h2 with e2 | e2 <;> rw [e1, e2] <;> decide
theorem mul_01 {x y : Int} (hx : x = 0 ∨ x = 1) (hy : y = 0 ∨ y = 1) : x * y = 0 ∨ x * y = 1 := by
  rcases hx with rfl | rfl <;> rcases hy with rfl | rfl <;> decide
theorem step_01 {f : List Int} (h : B01 f) (p : Int × Int) : B01 (step f p) := fun z hz => by
  rcases List.mem_append.mp hz with q | q
  · exact h z q
  · rw [List.mem_singleton.mp q]
    exact mul_01 (lit_01 h _) (lit_01 h _)
theorem foldl_len : ∀ (gs : List (Int × Int)) (f : List Int), (gs.foldl step f).length = f.length + gs.length
  | [], f => rfl
  | p :: r, f => by
    show (r.foldl step (step f p)).length = _
    rw [foldl_len r]
    unfold step
    rw [List.length_append]
    show f.length + 1 + r.length = f.length + (r.length + 1)
    omega
theorem foldl_01 : ∀ (gs : List (Int × Int)) {f : List Int}, B01 f → B01 (gs.foldl step f)
  | [], _, h => h
  | p :: r, _, h => foldl_01 r (step_01 h p)
theorem vals_take (bs : List Int) {gs : List (Int × Int)} {i : Nat} {p : Int × Int} (h : gs[i]? = some p) : vals bs (gs.take (i + 1)) = step (vals bs (gs.take i)) p := by
  unfold vals
  rw [take_more h, List.foldl_append]
  rfl
theorem vals_len (bs : List Int) (gs : List (Int × Int)) : (vals bs gs).length = bs.length + 1 + gs.length := by
  unfold vals
  rw [foldl_len]
  rfl
theorem vals_01 {bs : List Int} (gs : List (Int × Int)) (h : B01 bs) : B01 (vals bs gs) :=
  foldl_01 gs fun z hz => by
    rcases List.mem_cons.mp hz with rfl | hz
    · exact .inl rfl
    · exact h z hz
/-- the literals of gate i are of nodes ahead -/
theorem okG_at : ∀ {gs : List (Int × Int)} {m : Int} {i : Nat} {p : Int × Int}, okG m gs = true → gs[i]? = some p → (0 ≤ p.1 ∧ p.1 ≤ m + 2 * i) ∧ 0 ≤ p.2 ∧ p.2 ≤ m + 2 * i
  | [], _, _, _, _, e => by simp at e
  | q :: r, m, 0, p, h, e => by
    simp at e
    subst e
    unfold okG within at h
    simp only [Bool.and_eq_true, decide_eq_true_eq] at h
    obtain ⟨⟨⟨a, b⟩, c, d⟩, _⟩ := h
    exact ⟨⟨a, by omega⟩, c, by omega⟩
  | q :: r, m, i + 1, p, h, e => by
    simp at e
    unfold okG at h
    rw [Bool.and_eq_true] at h
    obtain ⟨⟨a, b⟩, c, d⟩ := okG_at h.2 e
    exact ⟨⟨a, by omega⟩, c, by omega⟩
theorem half_lt {a m : Int} (h0 : 0 ≤ a) (h : a ≤ 2 * m + 1) : (a / 2).toNat < (m + 1).toNat := by omega
/-- x ^ (a & 1), x a bit -/
theorem flip_bit {x a : Int} (hx : x = 0 ∨ x = 1) : Builtin.bitXor x (Builtin.bitAnd a 1) = ab (x - a % 2) := by
  have e := bitAnd_m1 a
  rw [e]
  have h2 : a % 2 = 0 ∨ a % 2 = 1 := by omega
  rcases hx with rfl | rfl <;> rcases h2 with e2 | e2 <;> rw [e2] <;> decide
theorem and_bits {x y : Int} (hx : x = 0 ∨ x = 1) (hy : y = 0 ∨ y = 1) : Builtin.bitAnd x y = x * y := by
  rcases hx with rfl | rfl <;> rcases hy with rfl | rfl <;> decide
theorem getD_of {f : List Int} {j : Nat} (h : j < f.length) : (f.map V.int)[j]? = some (.int (f.getD j 0)) := by
  rw [List.getElem?_map, List.getD_eq_getElem?_getD, List.getElem?_eq_getElem h]
  rfl
/-- a row of ints, list or tuple -/
def SeqI (K : PySem.W.Frag) (H : Hp) (v : V) (bs : List Int) : Prop := ∃ r, v = .ref r ∧ (SqL K H r (bs.map V.int) ∨ SqT K H r (bs.map V.int))
theorem SeqI.same {K : PySem.W.Frag} {H H' : Hp} {v : V} {bs : List Int} (s : Same H H') (h : SeqI K H v bs) : SeqI K H' v bs := by
  obtain ⟨r, e, h⟩ := h
  exact ⟨r, e, h.elim (fun h => .inl (s.seq h)) fun h => .inr (seqT_same s h)⟩
theorem bet_all {bs : List Int} (h : B01 bs) : ((bs.map PyData.int).all fun e => betD e 0 1) = true := by
  rw [List.all_map, List.all_eq_true]
  intro z hz
  rcases h z hz with rfl | rfl <;> rfl
theorem seqI_dp {K : PySem.W.Frag} {H : Hp} {v : V} {bs : List Int} (h : SeqI K H v bs) (hb : B01 bs) : ∃ d, Dp K H v d ∧ (rowsD d).length = bs.length ∧ rowB d (bs.length : Int) 0 1 = true := by
  have e : ∀ l : List PyData, l = bs.map PyData.int → (true && (decide (((l.length : Nat) : Int) = bs.length) && l.all fun e => betD e 0 1)) = true := by
    rintro l rfl
    rw [bet_all hb, List.length_map, decide_eq_true rfl]
    rfl
  obtain ⟨r, rfl, h | h⟩ := h
  · exact ⟨_, .lst h (ints_dp bs), List.length_map .., e _ rfl⟩
  · exact ⟨_, .tup h (ints_dp bs), List.length_map .., e _ rfl⟩
def spNode (K : PySem.W.Frag) (C : Addr) : Sp := fun vs H Q _ => ∃ (p : Addr) (v : V) (gs : List (Int × Int)) (bs : List Int), vs = [.ref p, v] ∧ GraphAt K C H p bs.length gs ∧ SeqI K H v bs ∧ B01 bs ∧ okG (2 * bs.length + 1) gs = true ∧ bs.length ≤ 500 ∧ gs.length ≤ 500 ∧
  ∀ (H' : Hp) (t : Addr), Same H H' → SqT K H' t ((vals bs gs).map V.int) → Q (.ref t) H'
def spLit (K : PySem.W.Frag) : Sp := fun vs H Q _ => ∃ (t : Addr) (xs : List V) (a : Int) (v : V), vs = [.ref t, .int a] ∧ SqT K H t xs ∧ 0 ≤ a ∧ xs[(a / 2).toNat]? = some v ∧
  ((v = .non ∧ Q .non H) ∨ ∃ x : Int, v = .int x ∧ (x = 0 ∨ x = 1) ∧ Q (.int (ab (x - a % 2))) H)
section
variable {P : Program} {w : World} {K : PySem.W.Frag} {mg : Str → Option Value} {base : Heap} {f C : Addr} {fd : FuncData}
abbrev noN : List Str := ["graph", "bits", "found", "one", "other"]
theorem scNode : FnScope noN ["graph", "bits"] (defScope sNode) := ⟨rfl, rfl, rfl, by decide +kernel, rfl, by decide +kernel, by decide +kernel⟩
theorem scLit : FnScope ["found", "literal", "value"] ["found", "literal"] (defScope sLit) := ⟨rfl, rfl, rfl, by decide +kernel, rfl, by decide +kernel, by decide +kernel⟩
theorem ok_lit (F : FnP K "literal_value" sLit f fd) : FnOk P w K mg base CX0 1 f fd ["found", "literal"] (spLit K) := by
  refine F.ok scLit (fun vs H Q E h => ?_) (fun cdv A outer s H vs Q E hr h => ?_)
  · obtain ⟨t, xs, a, v, rfl, _⟩ := h
    rfl
  · obtain ⟨t, xs, a, v, rfl, ht, ha, hv, q⟩ := h
    refine ⟨_, PSs.nox (pss_cons (ps_set (i := 2) scLit.nd rfl (Or.inl rfl) (pe_ix ix_tup (pv 0) (pe_op op_shr (pv 1) pe_int) (fun _ _ => rfl)))
      (pss_cons (ps_if (pt_cmpR op_isN (pv 2) pe_non (nomark _)) (pss_one (ps_ret pe_non)) pss_nil)
      (pss_one (ps_ret (pe_op op_xor (pv 2) (pe_op op_and (pv 1) pe_int)))))), ?_⟩
    have ej : a / 2 ^ (1 : Int).toNat = (((a / 2).toNat : Nat) : Int) := by
      show a / 2 = _
      omega
    refine ⟨_, rfl, _, rfl, _, _, rfl, rfl, (by show (0 : Int) ≤ 1; decide), t, _, _, _, rfl, rfl, ht, at_of (j := (a / 2).toNat) ej hv, ?_⟩
    rcases q with ⟨rfl, q⟩ | ⟨x, rfl, hx, q⟩
    · exact ⟨_, rfl, rfl, _, rfl, iteT q⟩
    · refine ⟨_, rfl, rfl, _, rfl, iteF ?_⟩
      refine ⟨_, rfl, _, rfl, _, _, rfl, rfl, _, _, rfl, rfl, ?_⟩
      show Q (.int (Builtin.bitXor x (Builtin.bitAnd a 1))) H
      rw [flip_bit hx]
      exact q
theorem ok_node {fB : Addr} {fdB : FuncData} (F : FnP K "node_values" sNode f fd) (T : Tx K mg C) (GB : FnOk P w K mg base CX0 2 fB fdB ["value", "many", "least", "most"] (spRowB K)) (gB : mg "is_row_between" = some (.ref fB)) (kB : PySem.W.keepIn K (.ref fB) = true)
    (bB : Binds K fdB ["value", "many", "least", "most"] []) : FnOk P w K mg base CX0 3 f fd ["graph", "bits"] (spNode K C) := by
  refine F.ok scNode (fun vs H Q E h => ?_) (fun cdv A outer s H vs Q E hr h => ?_)
  · obtain ⟨p, v, gs, bs, rfl, _⟩ := h
    rfl
  · obtain ⟨p, v, gs, bs, rfl, hG, hB, hb, hok, hz1, hz2, q⟩ := h
    obtain ⟨d, d1, d2, d3⟩ := seqI_dp hB hb
    obtain ⟨dx, g, h1, h2⟩ := hG
    obtain ⟨ps, hg, ha⟩ := id h2
    obtain ⟨r, rfl, hr1⟩ := id hB
    refine ⟨_, PSs.nox (pss_cons (ps_if (pt_not (pt_val (pe_call GB hr (by rfl) gB kB bB .nil pass0 (pa_cons (pv 1) (pa_cons (pe_fld (pv 0) rfl) (pa_cons pe_int (pa_cons pe_int pa_nil))))))) (pss_one ps_never) pss_nil)
      (pss_cons (ps_set (i := 2) scNode.nd rfl (Or.inl rfl) (pe_lst (pa_cons pe_int (StX.pa_star (pv 1) pa_nil))))
      (pss_cons (ps_for PassesOwn.never rfl (pi_tup (pe_fld (pv 0) rfl)) (pg_tup rfl (pgs_cons (pg_name (i := 3) scNode.nd rfl (Or.inl rfl)) (pgs_cons (pg_name (i := 4) scNode.nd rfl (Or.inl rfl)) pgs_nil)))
        (pss_one (ps_expr (pe_bm PySem.F.plainAttrs_list PySem.F.slot_list_append PySem.F.type_list_append mt_append (pv 2) (pa_cons (pe_op op_and
          (pe_op op_xor (pe_ix ix_list (pv 2) (pe_op op_shr (pv 3) pe_int) (fun _ _ => rfl)) (pe_op op_and (pv 3) pe_int))
          (pe_op op_xor (pe_ix ix_list (pv 2) (pe_op op_shr (pv 4) pe_int) (fun _ _ => rfl)) (pe_op op_and (pv 4) pe_int))) pa_nil)))))
      (pss_one (ps_ret (pe_callTy call_tuple_of (by rfl) T.ki.tuple (by decide +kernel) (pa_cons (pv 2) pa_nil))))))), ?_⟩
    refine ⟨_, rfl, _, rfl, p, C, dx, _, _, rfl, h1, T.cl, T.nL, flds_L _ _, _, _, _, _, d, rfl, d1, by omega, fun H1 s1 => ⟨_, rfl, ?_⟩⟩
    rw [d3]
    refine iteF ?_
    have hr2 : SqT K H1 r (bs.map V.int) ∨ SqL K H1 r (bs.map V.int) := hr1.elim (fun h => .inr (s1.seq h)) fun h => .inl (seqT_same s1 h)
    refine ⟨_, rfl, r, _, rfl, hr2, ?_, fun l nl => ?_⟩
    · show (V.int 0 :: (bs.map V.int ++ [])).length ≤ sizeLine
      rw [List.append_nil, List.length_cons, List.length_map]
      exact Nat.le_trans (Nat.succ_le_succ hz1) (by decide)
    have sl : Same H1 (upd H1 l (.lst (V.int 0 :: (bs.map V.int ++ [])))) := same_new nl
    refine ⟨_, rfl, p, C, dx, _, _, rfl, sl _ _ (s1 _ _ h1), T.cl, T.nG, flds_G _ _, g, rfl, ⟨_, seqT_same (s1.trans sl) hg⟩, for_tup (K := K) (a := g) (xs := ps)
      (fun i σ H2 => ∃ u w : Option V, σ = [some (.ref p), some (.ref r), some (.ref l), u, w] ∧ Same H1 H2 ∧ H2 l = some (.lst ((vals bs (gs.take i)).map V.int)))
      ⟨none, none, rfl, sl, ?_⟩ (fun i σ H2 _ ⟨_, _, _, s2, _⟩ => seqT_same (s1.trans s2) hg) ?_ ?_⟩
    · rw [upd_same, List.append_nil]
      rfl
    · rintro i x σ H2 hi ⟨u, w, rfl, s2, h2'⟩
      obtain ⟨z, hz, hx⟩ := ha.get hi
      obtain ⟨q0, rfl, hq⟩ := hx
      have hi2 : i < gs.length := (List.getElem?_eq_some_iff.mp hz).1
      obtain ⟨⟨a0, a1⟩, b0, b1⟩ := okG_at hok hz
      have lv : (vals bs (gs.take i)).length = bs.length + 1 + i := by
        rw [vals_len, List.length_take, Nat.min_eq_left (Nat.le_of_lt hi2)]
      have v01 := vals_01 (gs.take i) hb
      have j1 : (z.1 / 2).toNat < (vals bs (gs.take i)).length := by omega
      have j2 : (z.2 / 2).toNat < (vals bs (gs.take i)).length := by omega
      have e1 : z.1 / 2 ^ (1 : Int).toNat = (((z.1 / 2).toNat : Nat) : Int) := by
        show z.1 / 2 = _
        omega
      have e2 : z.2 / 2 ^ (1 : Int).toNat = (((z.2 / 2).toNat : Nat) : Int) := by
        show z.2 / 2 = _
        omega
      refine ⟨q0, _, rfl, seqT_same (s1.trans s2) hq, rfl, _, _, rfl, _, _, rfl, rfl, ?_⟩
      refine ⟨_, rfl, .inl ⟨rfl, _, SqL.of h2'⟩, _, rfl, _, rfl, _, _, rfl, rfl, (by show (0 : Int) ≤ 1; decide), l, _, _, _, rfl, rfl, SqL.of h2', at_of e1 (getD_of j1), _, rfl, _, _, rfl, rfl, _, _, rfl, rfl,
        _, rfl, _, rfl, _, _, rfl, rfl, (by show (0 : Int) ≤ 1; decide), l, _, _, _, rfl, rfl, SqL.of h2', at_of e2 (getD_of j2), _, rfl, _, _, rfl, rfl, _, _, rfl, rfl, _, _, rfl, rfl, l, _, _, rfl, rfl, h2', ?_, ?_⟩
      · rw [List.length_map, lv]
        exact Nat.lt_of_lt_of_le (by omega : bs.length + 1 + i < 1002) (by decide)
      · refine ⟨_, _, rfl, fun b o e => ?_, ?_⟩
        · rw [upd_ne (ne_of_none e nl)]
          exact s2 _ _ e
        · rw [upd_same, vals_take bs hz]
          unfold step
          rw [List.map_append]
          show some (HO.lst (_ ++ [V.int (Builtin.bitAnd (Builtin.bitXor _ (Builtin.bitAnd z.1 1)) (Builtin.bitXor _ (Builtin.bitAnd z.2 1)))])) = _
          rw [flip_bit (getD_01 v01 _), flip_bit (getD_01 v01 _)]
          have f1 := lit_01 v01 z.1
          have f2 := lit_01 v01 z.2
          unfold lit at f1 f2
          rw [and_bits f1 f2]
          rfl
    · rintro σ H2 ⟨u, w, rfl, s2, h2'⟩
      rw [ha.len, List.take_length] at h2'
      refine ⟨_, rfl, l, _, rfl, .inl ⟨SqL.of h2', fun t nt => ?_⟩⟩
      exact q _ t (s1.trans (s2.trans (same_new nt))) (SqT.of upd_same)
end
end No
namespace Lf
open PySem PySem.Spec PyProof.Rows L2 Pen Dat Ki Fi Gr No
/-! ## The law's own functions -/
structure Tx (mg : Str → Option Value) : Prop where
  pen : Pen.Txt mg
  abs : mg "abs" = none
  range : mg "range" = none
  tuple : mg "tuple" = none
def longer (rs : List (List Int)) : List (List Int) := rs.flatMap fun r => [r ++ [0], r ++ [1]]
def rowsM : Nat → List (List Int)
  | 0 => [[]]
  | n + 1 => longer (rowsM n)
theorem longer_cons (r : List Int) (rs : List (List Int)) : longer (r :: rs) = (r ++ [0]) :: (r ++ [1]) :: longer rs := rfl
theorem longer_app (rs ts : List (List Int)) : longer (rs ++ ts) = longer rs ++ longer ts := List.flatMap_append
theorem longer_len : ∀ rs : List (List Int), (longer rs).length = 2 * rs.length
  | [] => rfl
  | r :: rs => by
    rw [longer_cons, List.length_cons, List.length_cons, longer_len rs, List.length_cons]
    omega
theorem longer_mem : ∀ {rs : List (List Int)} {n : Nat}, (∀ r ∈ rs, r.length = n ∧ B01 r) → ∀ r ∈ longer rs, r.length = n + 1 ∧ B01 r
  | [], _, _, r, h => by cases h
  | t :: rs, n, hr, r, h => by
    have ht := hr t List.mem_cons_self
    rw [longer_cons] at h
    have one : ∀ z : Int, (z = 0 ∨ z = 1) → (t ++ [z]).length = n + 1 ∧ B01 (t ++ [z]) := fun z hz => ⟨by rw [List.length_append, ht.1]; rfl, fun y hy => by
      rcases List.mem_append.mp hy with q | q
      · exact ht.2 y q
      · rw [List.mem_singleton.mp q]
        exact hz⟩
    rcases List.mem_cons.mp h with rfl | h
    · exact one 0 (.inl rfl)
    · rcases List.mem_cons.mp h with rfl | h
      · exact one 1 (.inr rfl)
      · exact longer_mem (fun r hr2 => hr r (List.mem_cons_of_mem _ hr2)) r h
theorem rowsM_mem : ∀ (n : Nat), ∀ r ∈ rowsM n, r.length = n ∧ B01 r
  | 0, r, h => by
    rw [List.mem_singleton.mp h]
    exact ⟨rfl, fun z hz => by cases hz⟩
  | n + 1, r, h => longer_mem (rowsM_mem n) r h
theorem rowsM_len : ∀ n : Nat, (rowsM n).length = 2 ^ n
  | 0 => rfl
  | n + 1 => by
    show (longer (rowsM n)).length = _
    rw [longer_len, rowsM_len n, Nat.pow_succ, Nat.mul_comm]
theorem okG_snoc : ∀ {gs : List (Int × Int)} {m : Int} {p : Int × Int}, okG m gs = true → 0 ≤ p.1 → p.1 ≤ m + 2 * gs.length → 0 ≤ p.2 → p.2 ≤ m + 2 * gs.length → okG m (gs ++ [p]) = true
  | [], m, p, _, a, b, c, d => by
    show ((within p.1 m && within p.2 m) && true) = true
    unfold within
    have b' : p.1 ≤ m := by simpa using b
    have d' : p.2 ≤ m := by simpa using d
    rw [decide_eq_true a, decide_eq_true b', decide_eq_true c, decide_eq_true d']
    rfl
  | q :: r, m, p, h, a, b, c, d => by
    unfold okG at h
    rw [Bool.and_eq_true] at h
    show ((within q.1 m && within q.2 m) && okG (m + 2) (r ++ [p])) = true
    rw [h.1, okG_snoc h.2 a (by rw [List.length_cons] at b; omega) c (by rw [List.length_cons] at d; omega)]
    rfl
def spBit (K : PySem.W.Frag) : Sp := fun vs H Q _ => ∃ (l : Addr) (xs : List Int) (a : Int), vs = [.ref l, .int a] ∧ SqL K H l (xs.map V.int) ∧ 0 ≤ a ∧ (a / 2).toNat < xs.length ∧ Q (.int (lit xs a)) H
def spValues (K : PySem.W.Frag) : Sp := fun vs H Q _ => ∃ (u : V) (g r : Addr) (gs : List (Int × Int)) (bs : List Int), vs = [u, .ref g, .ref r] ∧ GT K H g gs ∧ SqT K H r (bs.map V.int) ∧ B01 bs ∧ okG (2 * bs.length + 1) gs = true ∧ bs.length ≤ 500 ∧ gs.length ≤ 500 ∧
  ∀ (H' : Hp) (l : Addr), Same H H' → H l = none → H' l = some (.lst ((vals bs gs).map V.int)) → Q (.ref l) H'
def spDrawn (K : PySem.W.Frag) : Sp := fun vs H Q _ => ∃ (p c : Addr) (k : Nat) (n m : Int), vs = [.ref p, .int n, .int m] ∧ PenC H p c k ∧ k ≤ 100000000000 ∧ 0 ≤ n ∧ n ≤ 100 ∧ 0 ≤ m ∧ m ≤ 100 ∧
  ∀ (H' : Hp) (g : Addr) (gs : List (Int × Int)), PenC H' p c (k + 2 * m.toNat) → But p H H' → GT K H' g gs → okG (2 * n + 1) gs = true → gs.length = m.toNat → Q (.ref g) H'
def spLonger (K : PySem.W.Frag) : Sp := fun vs H Q _ => ∃ (l : Addr) (ws : List V) (rs : List (List Int)), vs = [.ref l, .int 2] ∧ SqL K H l ws ∧ All2 (Tu K H) ws rs ∧ rs.length ≤ 200 ∧ (∀ r ∈ rs, r.length ≤ 100) ∧
  ∀ (H' : Hp) (l' : Addr) (zs : List V), Same H H' → H' l' = some (.lst zs) → All2 (Tu K H') zs (longer rs) → Q (.ref l') H'
def spRows (K : PySem.W.Frag) : Sp := fun vs H Q _ => ∃ (m : Int), vs = [.int m] ∧ 0 ≤ m ∧ m ≤ 7 ∧
  ∀ (H' : Hp) (l : Addr) (ws : List V), Same H H' → H' l = some (.lst ws) → All2 (Tu K H') ws (rowsM m.toNat) → Q (.ref l) H'
section
variable {P : Program} {w : World} {K : PySem.W.Frag} {mg : Str → Option Value} {base : Heap} {f C : Addr} {fd : FuncData}
abbrev vaN : List Str := ["_law_leaves", "_law_gates", "_law_bits", "_law_found", "_law_one", "_law_two"]
abbrev drN : List Str := ["_law_pen_here", "_law_leaves", "_law_many", "_law_gates", "_law_k", "_law_ahead"]
abbrev loN : List Str := ["_law_rows_here", "_law_many", "_law_found", "_law_row", "_law_number"]
theorem scBit : FnScope ["_law_found", "_law_literal"] ["_law_found", "_law_literal"] (defScope sBit) := ⟨rfl, rfl, rfl, by decide +kernel, rfl, by decide +kernel, by decide +kernel⟩
theorem scValues : FnScope vaN ["_law_leaves", "_law_gates", "_law_bits"] (defScope sValues) := ⟨rfl, rfl, rfl, by decide +kernel, rfl, by decide +kernel, by decide +kernel⟩
theorem scDrawn : FnScope drN ["_law_pen_here", "_law_leaves", "_law_many"] (defScope sDrawn) := ⟨rfl, rfl, rfl, by decide +kernel, rfl, by decide +kernel, by decide +kernel⟩
theorem scLonger : FnScope loN ["_law_rows_here", "_law_many"] (defScope sLonger) := ⟨rfl, rfl, rfl, by decide +kernel, rfl, by decide +kernel, by decide +kernel⟩
theorem scRows : FnScope ["_law_many", "_law_rows_here", "_law_k"] ["_law_many"] (defScope sRows) := ⟨rfl, rfl, rfl, by decide +kernel, rfl, by decide +kernel, by decide +kernel⟩
theorem ok_bit (F : FnP K "_law_bit" sBit f fd) (T : Tx mg) : FnOk P w K mg base CX0 1 f fd ["_law_found", "_law_literal"] (spBit K) := by
  refine F.ok scBit (fun vs H Q E h => ?_) (fun cdv A outer s H vs Q E hr h => ?_)
  · obtain ⟨l, xs, a, rfl, _⟩ := h
    rfl
  · obtain ⟨l, xs, a, rfl, hl, ha, hz, q⟩ := h
    refine ⟨_, PSs.nox (pss_one (ps_ret (pe_callB call_abs (by rfl) T.abs (by decide +kernel) (pa_cons (pe_op op_sub (pe_ix ix_list (pv 0) (pe_op op_fdiv (pv 1) pe_int) (fun _ _ => rfl))
      (pe_op op_mod (pe_callTy call_int1 (by rfl) T.pen.int (by decide +kernel) (pa_cons (pv 1) pa_nil)) pe_int)) pa_nil)))), ?_⟩
    have e : a / 2 = (((a / 2).toNat : Nat) : Int) := by omega
    exact ⟨_, rfl, _, rfl, _, _, rfl, rfl, ⟨by decide, by decide⟩, l, _, _, _, rfl, rfl, hl, at_of e (getD_of hz), _, rfl, .inl ⟨_, rfl, _, _, rfl, rfl, (by show (0 : Int) < 2; decide), _, _, rfl, rfl, _, rfl, q⟩⟩
theorem ok_values {fB : Addr} {fdB : FuncData} (F : FnP K "_law_values" sValues f fd) (T : Tx mg) (FB : FnP K "_law_bit" sBit fB fdB) (gB : mg "_law_bit" = some (.ref fB)) : FnOk P w K mg base CX0 2 f fd ["_law_leaves", "_law_gates", "_law_bits"] (spValues K) := by
  have GB : FnOk P w K mg base CX0 1 fB fdB ["_law_found", "_law_literal"] (spBit K) := ok_bit FB T
  have bB : Binds K fdB ["_law_found", "_law_literal"] [] := FB.bindsN fun _ _ _ _ _ _ us hl => match us, hl with | [_, _], _ => rfl
  refine F.ok scValues (fun vs H Q E h => ?_) (fun cdv A outer s H vs Q E hr h => ?_)
  · obtain ⟨u, g, r, gs, bs, rfl, _⟩ := h
    rfl
  · obtain ⟨u, g, r, gs, bs, rfl, hG, hB, hb, hok, hz1, hz2, q⟩ := h
    obtain ⟨ps, hg, ha⟩ := id hG
    refine ⟨_, PSs.nox (pss_cons (ps_set (i := 3) scValues.nd rfl (Or.inl rfl) (pe_op op_cat (pe_lst (pa_cons pe_int pa_nil)) (pe_callTy call_list_of (by rfl) T.pen.list (by decide +kernel) (pa_cons (pv 2) pa_nil))))
      (pss_cons (ps_for PassesOwn.never rfl (pi_tup (pv 1)) (pg_tup rfl (pgs_cons (pg_name (i := 4) scValues.nd rfl (Or.inl rfl)) (pgs_cons (pg_name (i := 5) scValues.nd rfl (Or.inl rfl)) pgs_nil)))
        (pss_one (ps_expr (pe_bm PySem.F.plainAttrs_list PySem.F.slot_list_append PySem.F.type_list_append mt_append (pv 3) (pa_cons (pe_op op_mul
          (pe_call GB hr (by rfl) gB FB.kp bB .nil pass0 (pa_cons (pv 3) (pa_cons (pv 4) pa_nil)))
          (pe_call GB hr (by rfl) gB FB.kp bB .nil pass0 (pa_cons (pv 3) (pa_cons (pv 5) pa_nil)))) pa_nil)))))
      (pss_one (ps_ret (pv 3))))), ?_⟩
    refine ⟨(by show 1 ≤ sizeLine; decide), fun l1 n1 => ?_⟩
    have s1 : Same H (upd H l1 (.lst [.int 0])) := same_new n1
    refine ⟨_, rfl, r, _, rfl, .inr (seqT_same s1 hB), fun l2 n2 => ?_⟩
    have s2 := same_new (u := .lst (bs.map V.int)) n2
    refine ⟨_, _, _, _, rfl, rfl, s2 _ _ upd_same, upd_same, ?_, fun l n3 => ?_⟩
    · rw [List.length_map]
      show 1 + bs.length ≤ sizeLine
      exact Nat.le_trans (by omega : 1 + bs.length ≤ 501) (by decide)
    have s3 := same_new (u := .lst ([V.int 0] ++ bs.map V.int)) n3
    have s123 := s1.trans (s2.trans s3)
    have nl : H l = none := (s1.trans s2).free n3
    generalize hH : upd _ l _ = H1 at s123
    have h1 : H1 l = some (.lst ((vals bs []).map V.int)) := by
      rw [← hH, upd_same]
      rfl
    clear hH s3 n3
    refine ⟨_, rfl, g, rfl, ⟨_, seqT_same s123 hg⟩, for_tup (K := K) (a := g) (xs := ps)
      (fun i σ H2 => ∃ x y : Option V, σ = [some u, some (.ref g), some (.ref r), some (.ref l), x, y] ∧ Same H H2 ∧ H2 l = some (.lst ((vals bs (gs.take i)).map V.int)))
      ⟨none, none, rfl, s123, h1⟩ (fun i σ H2 _ ⟨_, _, _, z, _⟩ => seqT_same z hg) ?_ ?_⟩
    · rintro i x σ H2 hi ⟨y, y', rfl, z2, h2⟩
      obtain ⟨z, hz, hx⟩ := ha.get hi
      obtain ⟨q0, rfl, hq⟩ := hx
      have hi2 : i < gs.length := (List.getElem?_eq_some_iff.mp hz).1
      obtain ⟨⟨a0, a1⟩, b0, b1⟩ := okG_at hok hz
      have lv : (vals bs (gs.take i)).length = bs.length + 1 + i := by
        rw [vals_len, List.length_take, Nat.min_eq_left (Nat.le_of_lt hi2)]
      have v01 := vals_01 (gs.take i) hb
      have f1 := lit_01 v01 z.1
      refine ⟨q0, _, rfl, seqT_same z2 hq, rfl, _, _, rfl, _, _, rfl, rfl, ?_⟩
      refine ⟨_, rfl, .inl ⟨rfl, _, SqL.of h2⟩, _, rfl, _, rfl, l, _, z.1, rfl, SqL.of h2, a0, by omega, _, rfl, _, rfl, l, _, z.2, rfl, SqL.of h2, b0, by omega, _, _, rfl, rfl, .inl ?_, l, _, _, rfl, rfl, h2, ?_, ?_⟩
      · rcases f1 with e | e <;> rw [e] <;> exact ⟨by decide, by decide⟩
      · rw [List.length_map, lv]
        exact Nat.lt_of_lt_of_le (by omega : bs.length + 1 + i < 1002) (by decide)
      · refine ⟨_, _, rfl, fun b o e => ?_, ?_⟩
        · rw [upd_ne (ne_of_none e nl)]
          exact z2 _ _ e
        · rw [upd_same, vals_take bs hz]
          unfold No.step
          rw [List.map_append]
          rfl
    · rintro σ H2 ⟨y, y', rfl, z2, h2⟩
      rw [ha.len, List.take_length] at h2
      exact ⟨_, rfl, q _ l z2 nl h2⟩
theorem ok_drawn {fD : Addr} {fdD : FuncData} (F : FnP K "_law_drawn_gates" sDrawn f fd) (T : Tx mg) (FD : FnP K "_law_draw" sDraw fD fdD) (gD : mg "_law_draw" = some (.ref fD)) : FnOk P w K mg base CX0 2 f fd ["_law_pen_here", "_law_leaves", "_law_many"] (spDrawn K) := by
  have GD : FnOk P w K mg base CX0 1 fD fdD ["_law_pen_here", "_law_many"] spDraw := ok_draw FD T.pen
  have bD : Binds K fdD ["_law_pen_here", "_law_many"] [] := FD.bindsN fun _ _ _ _ _ _ us hl => match us, hl with | [_, _], _ => rfl
  refine F.ok scDrawn (fun vs H Q E h => ?_) (fun cdv A outer s H vs Q E hr h => ?_)
  · obtain ⟨p, c, k, n, m, rfl, _⟩ := h
    rfl
  · obtain ⟨p, c, k, n, m, rfl, hP, hk, n0, n1, m0, m1, q⟩ := h
    refine ⟨_, PSs.nox (pss_cons (ps_set (i := 3) scDrawn.nd rfl (Or.inl rfl) (pe_lst pa_nil))
      (pss_cons (ps_for PassesOwn.never rfl (pi_range1 (by rfl) T.range (pa_cons (pv 2) pa_nil)) (pg_name (i := 4) scDrawn.nd rfl (Or.inl rfl))
        (pss_cons (ps_set (i := 5) scDrawn.nd rfl (Or.inl rfl) (pe_op op_mul pe_int (pe_op op_add (pe_op op_add pe_int (pv 1)) (pv 4))))
        (pss_one (ps_expr (pe_bm PySem.F.plainAttrs_list PySem.F.slot_list_append PySem.F.type_list_append mt_append (pv 3) (pa_cons (pe_tup (pa_cons
          (pe_call GD hr (by rfl) gD FD.kp bD .nil pass0 (pa_cons (pv 0) (pa_cons (pv 5) pa_nil))) (pa_cons
          (pe_call GD hr (by rfl) gD FD.kp bD .nil pass0 (pa_cons (pv 0) (pa_cons (pv 5) pa_nil))) pa_nil))) pa_nil))))))
      (pss_one (ps_ret (pe_callTy call_tuple_of (by rfl) T.tuple (by decide +kernel) (pa_cons (pv 3) pa_nil)))))), ?_⟩
    refine ⟨(by show 0 ≤ sizeLine; decide), fun l nl => ?_⟩
    obtain ⟨lp, lc⟩ := hP.free nl
    have sl := same_new (u := .lst []) nl
    refine ⟨_, rfl, m, rfl, ?_, ?_, for_range (lo := 0) (n := m.toNat)
      (fun i σ H2 => ∃ (x y : Option V) (ys : List V) (gs : List (Int × Int)), σ = [some (.ref p), some (.int n), some (.int m), some (.ref l), x, y] ∧ PenC H2 p c (k + 2 * i) ∧ (∀ b o, H b = some o → b ≠ p → H2 b = some o) ∧
        H2 l = some (.lst ys) ∧ All2 (Pt K H2) ys gs ∧ okG (2 * n + 1) gs = true ∧ gs.length = i)
      ⟨none, none, [], [], rfl, hP.same sl, fun b o e _ => sl _ _ e, upd_same, .nil, rfl, rfl⟩ ?_ ?_⟩
    · omega
    · omega
    · rintro i σ H2 hi ⟨x, y, ys, gs, rfl, hP2, keep, h2, ha, hok, hlen⟩
      have him : (i : Int) < m := by omega
      refine ⟨_, rfl, _, _, rfl, rfl, _, rfl, _, _, rfl, rfl, _, _, rfl, rfl, .inl ⟨by decide, by decide⟩, ?_⟩
      refine ⟨_, rfl, .inl ⟨rfl, _, SqL.of h2⟩, _, rfl, _, rfl, p, c, k + 2 * i, _, rfl, hP2, by omega, by omega, by omega, fun r1 H3 r10 r11 P3 B3 => ?_⟩
      refine ⟨_, rfl, _, rfl, p, c, k + 2 * i + 1, _, rfl, P3, by omega, by omega, by omega, fun r2 H4 r20 r21 P4 B4 => ?_⟩
      refine ⟨(by show 2 ≤ sizeLine; decide), fun t nt => ?_⟩
      have st := same_new (u := .tup [V.int r1, V.int r2]) nt
      have h4 : H4 l = some (.lst ys) := B4 _ _ (B3 _ _ h2 lp) lp
      have f34 : Firm H2 H4 := (Firm.pen B3 hP2).trans (Firm.pen B4 P3)
      refine ⟨l, _, _, rfl, rfl, st _ _ h4, ?_, ?_⟩
      · rw [ha.len, hlen]
        exact Nat.lt_of_lt_of_le (by omega : i < 101) (by decide)
      · have fl : Firm (upd H4 t (.tup [V.int r1, V.int r2])) (upd (upd H4 t (.tup [V.int r1, V.int r2])) l (.lst (ys ++ [.ref t]))) := Firm.upd (st _ _ h4) rfl
        refine ⟨_, _, ys ++ [.ref t], gs ++ [(r1, r2)], rfl, ?_, fun b o e ne => ?_, upd_same, ?_, ?_, ?_⟩
        · have z := (P4.same st).upd (o := .lst (ys ++ [.ref t])) lp lc
          rw [show k + 2 * (i + 1) = k + 2 * i + 1 + 1 by omega]
          exact z
        · rw [upd_ne (ne_of_none e nl)]
          exact st _ _ (B4 _ _ (B3 _ _ (keep b o e ne) ne) ne)
        · exact (ha.imp fun _ _ h => ((h.firm f34).firm (Firm.of st)).firm fl).snoc ⟨t, rfl, firm_seq fl (SqT.of upd_same)⟩
        · exact okG_snoc hok r10 (by show r1 ≤ _; rw [hlen]; omega) r20 (by show r2 ≤ _; rw [hlen]; omega)
        · rw [List.length_append, hlen]
          rfl
    · rintro σ H2 ⟨x, y, ys, gs, rfl, hP2, keep, h2, ha, hok, hlen⟩
      refine ⟨_, rfl, l, _, rfl, .inl ⟨SqL.of h2, fun g ng => ?_⟩⟩
      have sg := same_new (u := .tup ys) ng
      exact q _ g gs (hP2.same sg) (fun b o e ne => sg _ _ (keep b o e ne)) ⟨ys, SqT.of upd_same, ha.imp fun _ _ h => h.firm (Firm.of sg)⟩ hok hlen
theorem ok_longer (F : FnP K "_law_longer" sLonger f fd) (T : Tx mg) : FnOk P w K mg base CX0 1 f fd ["_law_rows_here", "_law_many"] (spLonger K) := by
  refine F.ok scLonger (fun vs H Q E h => ?_) (fun cdv A outer s H vs Q E hr h => ?_)
  · obtain ⟨l, ws, rs, rfl, _⟩ := h
    rfl
  · obtain ⟨l, ws, rs, rfl, hl, ha, hzn, hz2, q⟩ := h
    refine ⟨_, PSs.nox (pss_cons (ps_set (i := 2) scLonger.nd rfl (Or.inl rfl) (pe_lst pa_nil))
      (pss_cons (ps_for PassesOwn.never rfl (pi_list (pv 0)) (pg_name (i := 3) scLonger.nd rfl (Or.inr rfl))
        (pss_one (ps_set (i := 2) scLonger.nd rfl (Or.inl rfl) (pe_op op_cat (pv 2) (pe_lc (own := [("_law_number", 4)]) (g := gName 4) (tt := tYes) rfl scLonger.nd (pi_range1 (by rfl) T.range (pa_cons (pv 1) pa_nil)) (blkOk_by (N := loN) (sc := defScope sLonger) (by decide +kernel))
          (fun _ _ _ _ _ => pg_name (i := 4) scLonger.nd rfl (Or.inl rfl)) (fun _ _ _ _ _ => pts_nil) (fun _ _ _ _ _ => pe_op (r := rCatA K) (by exact op_catA) (pv 3) (pe_tup (pa_cons (pv 4) pa_nil))))))))
      (pss_one (ps_ret (pv 2))))), ?_⟩
    refine ⟨(by show 0 ≤ sizeLine; decide), fun l0 n0 => ?_⟩
    have s0 := same_new (u := .lst []) n0
    refine ⟨_, rfl, l, rfl, ⟨_, s0.seq hl⟩, for_list (K := K) (a := l) (xs := ws)
      (fun i σ H2 => ∃ (x : Option V) (t : Addr) (zs : List V), σ = [some (.ref l), some (.int 2), some (.ref t), x, none] ∧ Same H H2 ∧ H2 t = some (.lst zs) ∧ All2 (Tu K H2) zs (longer (rs.take i)))
      ⟨none, l0, [], rfl, s0, upd_same, .nil⟩ (fun i σ H2 _ ⟨_, _, _, _, z, _⟩ => z.seq hl) ?_ ?_⟩
    · rintro i x σ H2 hi ⟨y, t, zs, rfl, s2, h2, hz⟩
      obtain ⟨r, hr1, hr2⟩ := ha.get hi
      obtain ⟨q0, rfl, hq⟩ := hr2
      have hq2 := seqT_same s2 hq
      refine ⟨_, rfl, _, rfl, 2, rfl, by decide, by decide, fun D nD => ?_⟩
      refine lc_range (lo := 0) (n := 2) (fun j H3 => Same H2 H3 ∧ ∃ us, H3 D = some (.lst us) ∧ All2 (Tu K H3) us ((List.range j).map fun (k : Nat) => r ++ [0 + (k : Int)])) ⟨same_new nD, [], upd_same, .nil⟩ ?_ ?_
      · rintro j H3 hj ⟨s3, us, h3, h3a⟩
        have ul : us.length < sizeLine := by
          rw [h3a.len, List.length_map, List.length_range]
          exact Nat.lt_trans hj (by decide)
        have fin : ∀ (t2 : Addr) (H4 : Hp), Same H3 H4 → SqT K H4 t2 ((r ++ [0 + (j : Int)]).map V.int) → ∃ acc, H4 D = some (.lst acc) ∧ acc.length < sizeLine ∧ Same H2 (upd H4 D (.lst (acc ++ [.ref t2]))) ∧
            ∃ us, (upd H4 D (.lst (acc ++ [.ref t2]))) D = some (.lst us) ∧ All2 (Tu K (upd H4 D (.lst (acc ++ [.ref t2])))) us ((List.range (j + 1)).map fun (k : Nat) => r ++ [0 + (k : Int)]) := fun t2 H4 s4 ht => by
          have fi : Firm H4 (upd H4 D (.lst (us ++ [.ref t2]))) := Firm.upd (s4 _ _ h3) rfl
          refine ⟨us, s4 _ _ h3, ul, fun b o e => ?_, us ++ [.ref t2], upd_same, ?_⟩
          · rw [upd_ne (ne_of_none e nD)]
            exact s4 _ _ (s3 _ _ e)
          · rw [List.range_succ, List.map_append]
            exact (h3a.imp fun _ _ h => (h.firm (Firm.of s4)).firm fi).snoc ⟨t2, rfl, firm_seq fi ht⟩
        refine ⟨rfl, yes_of ?_⟩
        refine ⟨_, rfl, _, rfl, (by show 1 ≤ sizeLine; decide), fun t1 nt1 => ?_⟩
        have s1 := same_new (u := .tup [V.int (0 + (j : Int))]) nt1
        have hr3 := hz2 r (List.mem_of_getElem? hr1)
        refine ⟨q0, t1, _, _, rfl, rfl, seqT_same (s3.trans s1) hq2, SqT.of upd_same, ?_, fun e => ?_, fun _ e => ?_, fun e _ t2 nt2 => ?_⟩
        · rw [List.length_map]
          exact Nat.le_trans (by show r.length + 1 ≤ 101; omega) (by decide)
        · have er : r = [] := List.map_eq_nil_iff.mp e
          exact fin t1 _ s1 (by rw [er]; exact SqT.of upd_same)
        · cases e
        · have s2' := same_new (u := .tup (r.map V.int ++ [V.int (0 + (j : Int))])) nt2
          exact fin t2 _ (s1.trans s2') (by rw [List.map_append]; exact SqT.of upd_same)
      · rintro H3 ⟨s3, us, h3, h3a⟩
        have hu2 : us.length = 2 := by
          rw [h3a.len]
          rfl
        have hzl := hz.len
        have tl : (rs.take i).length ≤ 200 := by
          rw [List.length_take]
          exact Nat.le_trans (Nat.min_le_right _ _) hzn
        refine ⟨t, D, zs, us, rfl, rfl, s3 _ _ h2, h3, ?_, fun t2 nt2 => ?_⟩
        · rw [hzl, longer_len, hu2]
          exact Nat.le_trans (by omega : 2 * (rs.take i).length + 2 ≤ 402) (by decide)
        · have s4 := same_new (u := .lst (zs ++ us)) nt2
          refine ⟨_, t2, zs ++ us, rfl, s2.trans (s3.trans s4), upd_same, ?_⟩
          rw [take_more hr1, longer_app]
          exact (hz.imp fun _ _ h => h.firm (Firm.of (s3.trans s4))).append (h3a.imp fun _ _ h => h.firm (Firm.of s4))
    · rintro σ H2 ⟨y, t, zs, rfl, s2, h2, hz⟩
      rw [ha.len, List.take_length] at hz
      exact ⟨_, rfl, q _ t zs s2 h2 hz⟩
theorem ok_rows {fL : Addr} {fdL : FuncData} (F : FnP K "_law_rows" sRows f fd) (T : Tx mg) (FL : FnP K "_law_longer" sLonger fL fdL) (gL : mg "_law_longer" = some (.ref fL)) : FnOk P w K mg base CX0 2 f fd ["_law_many"] (spRows K) := by
  have GL : FnOk P w K mg base CX0 1 fL fdL ["_law_rows_here", "_law_many"] (spLonger K) := ok_longer FL T
  have bL : Binds K fdL ["_law_rows_here", "_law_many"] [] := FL.bindsN fun _ _ _ _ _ _ us hl => match us, hl with | [_, _], _ => rfl
  refine F.ok scRows (fun vs H Q E h => ?_) (fun cdv A outer s H vs Q E hr h => ?_)
  · obtain ⟨m, rfl, _⟩ := h
    rfl
  · obtain ⟨m, rfl, m0, m1, q⟩ := h
    refine ⟨_, PSs.nox (pss_cons (ps_set (i := 1) scRows.nd rfl (Or.inl rfl) (pe_lst (pa_cons (pe_tup pa_nil) pa_nil)))
      (pss_cons (ps_for PassesOwn.never rfl (pi_range1 (by rfl) T.range (pa_cons (pv 0) pa_nil)) (pg_name (i := 2) scRows.nd rfl (Or.inl rfl))
        (pss_one (ps_set (i := 1) scRows.nd rfl (Or.inl rfl) (pe_call GL hr (by rfl) gL FL.kp bL .nil pass0 (pa_cons (pv 1) (pa_cons pe_int pa_nil))))))
      (pss_one (ps_ret (pv 1))))), ?_⟩
    refine ⟨(by show 0 ≤ sizeLine; decide), fun t nt => ⟨(by show 1 ≤ sizeLine; decide), fun l nl => ?_⟩⟩
    have s1 := same_new (u := .tup []) nt
    have s2 := same_new (u := .lst [.ref t]) nl
    refine ⟨_, rfl, m, rfl, ?_, ?_, for_range (lo := 0) (n := m.toNat)
      (fun i σ H2 => ∃ (x : Option V) (l : Addr) (zs : List V), σ = [some (.int m), some (.ref l), x] ∧ Same H H2 ∧ H2 l = some (.lst zs) ∧ All2 (Tu K H2) zs (rowsM i))
      ⟨none, l, [.ref t], rfl, s1.trans s2, upd_same, .cons ⟨t, rfl, seqT_same s2 (SqT.of upd_same)⟩ .nil⟩ ?_ ?_⟩
    · omega
    · omega
    · rintro i σ H2 hi ⟨x, l, zs, rfl, s3, h3, ha⟩
      have hi7 : i < 7 := by omega
      have hpow : (rowsM i).length ≤ 200 := by
        rw [rowsM_len]
        exact Nat.le_trans (Nat.pow_le_pow_right (by decide) (by omega : i ≤ 7)) (by decide)
      refine ⟨_, rfl, l, zs, rowsM i, rfl, SqL.of h3, ha, hpow, fun r hr => ?_, fun H4 l' ws s4 h4 ha4 => ?_⟩
      · rw [(rowsM_mem i r hr).1]
        omega
      · exact ⟨_, l', ws, rfl, s3.trans s4, h4, ha4⟩
    · rintro σ H2 ⟨x, l, zs, rfl, s3, h3, ha⟩
      exact ⟨_, rfl, q _ l zs s3 h3 ha⟩
end
end Lf
namespace Ow
open PySem PySem.Spec PyProof.Rows L2
/-! ## x == y by the own == of x's class, whatever it tells; y an instance of the class, or a tuple -/
def rOwn (K : PySem.W.Frag) (C : Addr) (sp : Sp) (E : XK) : R2 := fun x y H Q => ∃ (a dx : Addr) (fs : List (Str × V)), x = .ref a ∧ H a = some (.ins C dx fs) ∧
  ((∃ (b dy : Addr) (gs : List (Str × V)), y = .ref b ∧ H b = some (.ins C dy gs)) ∨ ∃ (t : Addr) (xs : List V), y = .ref t ∧ SqT K H t xs) ∧ sp [x, y] H (fun v H' => ∃ k : Bool, v = .bl k ∧ Q (.bl k) H') E
section
variable {X : Cx}
theorem op_own {CX : CXT} {n : Nat} {f C : Addr} {fd : FuncData} {ps : List Str} {sp : Sp} {E : XK} (F : FnOk X.prog X.w X.K X.mg X.base CX n f fd ps sp) (hr : Room n X.A)
    (hs : PySem.W.findIn X.K (.ref C) "__eq__" = some (some (.ref f))) (hf : PySem.W.isFn X.K (.ref f) = true) (ht : PySem.W.subIn X.K (.type "tuple") (.ref C) = some false) (hb : Binds X.K fd ps []) (hx : Passes CX X E) :
    OpR X (compareOp .Eq) (rOwn X.K C sp E) := by
  intro pins s σ H x y v u Q I rx ry h
  obtain ⟨a, dx, fs, rfl, ha, hy, hq⟩ := h
  have hv : v = Value.ref a := rx
  subst hv
  have side : ∃ tb, PySem.W.Looks (model X.prog X.w) s.heap (typeOf u) tb ∧ PySem.W.notFirst X.K C tb = true := by
    rcases hy with ⟨b, dy, gs, rfl, e⟩ | ⟨t, xs, rfl, e⟩
    · have hu : u = Value.ref b := ry
      subst hu
      obtain ⟨_, J, _⟩ := ins_get I.hok e
      obtain ⟨_, J, _⟩ := J.look
      exact ⟨.ref C, J.type, by simp [PySem.W.notFirst]⟩
    · have hu : u = Value.ref t := ry
      subst hu
      obtain ⟨_, _, ⟨o, ho, hc, _⟩, _⟩ := I.tuple e
      exact ⟨.type "tuple", hc ▸ (PySem.W.Looks.ld ho).andThen .now, by simp [PySem.W.notFirst, ht]⟩
  obtain ⟨tb, l1, l2⟩ := side
  obtain ⟨_, J, _⟩ := ins_get I.hok ha
  obtain ⟨_, J, _⟩ := J.look
  obtain ⟨_, hF⟩ := I.fr
  show wpAny (model X.prog X.w) X.A (richCompare .Eq (.ref a) u) (EP X pins σ Q) X.xe s
  refine PySem.W.cmp_K (op := .Eq) hr.units0 hF I.ok.mod.kin J l1 l2 hs hf ?_
  have bind : BindsTo s fd ⟨[.ref a, u], []⟩ (ps.zip [Value.ref a, u]) := by
    have z := hb s [.ref a, u] I.kIn (by simpa using F.len _ _ _ _ hq)
    simpa using z
  refine wpAny_call (codeAny_mono (F.run X.A X.stack s H ⟨[.ref a, u], []⟩ [.ref a, u] [.ref a, y] _ E hr I.env0 bind (.cons rfl (.cons ry .nil)) hq) fun r s' z => ?_)
  match r, z with
  | .error e, z => exact hx pins σ H s e s' I z
  | .ok .next, z => exact z.elim
  | .ok .brk, z => exact z.elim
  | .ok .cont, z => exact z.elim
  | .ok (.ret u'), z =>
    obtain ⟨v, H', I', rv, k, rfl, q⟩ := I.after z
    have hu : u' = Value.bool k := rv
    subst hu
    exact ⟨.bl k, H', I', rfl, q⟩
end
end Ow
namespace Rp
open PySem PySem.Spec PyProof.Rows L2 Fi
/-! ## What may be handed to repr -/
structure ROk (d : PyData) : Prop where
  show_ : d.showable = true
  dict : d.hasDict = false
  deep : d.depth ≤ 60
  long : d.shown.length ≤ sizeLine
def Small (i : Int) : Prop := 0 ≤ i ∧ i < 1000
theorem log_small : ∀ n : Nat, n < 1000 → n.log2 < 10 := by decide +kernel
theorem abs_small {i : Int} (h : Small i) : i.natAbs < 1000 := by
  obtain ⟨a, b⟩ := h
  omega
theorem show_small {i : Int} (h : Small i) : (PyData.int i).showable = true := by
  have := log_small _ (abs_small h)
  exact decide_eq_true (Nat.lt_trans this (by decide))
theorem weigh_small {i : Int} (h : Small i) : (PyData.int i).weight ≤ 10 := by
  have := log_small _ (abs_small h)
  show (if i == 0 then 0 else i.natAbs.log2 + 1) ≤ 10
  split <;> omega
theorem short_small {i : Int} (h : Small i) : (PyData.int i).intsShort 13 = true := by
  have := abs_small h
  exact decide_eq_true (PyData.shown_int_le (Nat.lt_trans this (by decide)))
theorem ints_all : ∀ {ns : List Int}, (∀ z ∈ ns, Small z) → PyData.showableAll (ns.map .int) = true ∧ PyData.hasDictAll (ns.map .int) = false ∧ PyData.depthAll (ns.map .int) = 0 ∧ PyData.canLayAll0 (ns.map .int) = true ∧
    PyData.intsShortAll 13 (ns.map .int) = true ∧ PyData.weightAll (ns.map .int) ≤ 11 * ns.length
  | [], _ => ⟨rfl, rfl, rfl, rfl, rfl, Nat.zero_le _⟩
  | z :: r, h => by
    have hz := h z List.mem_cons_self
    obtain ⟨a, b, c, d, e, g⟩ := ints_all (ns := r) fun y hy => h y (List.mem_cons_of_mem _ hy)
    refine ⟨?_, b, ?_, d, ?_, ?_⟩
    · show ((PyData.int z).showable && PyData.showableAll (r.map .int)) = true
      rw [show_small hz, a]
      rfl
    · show max 0 (PyData.depthAll (r.map .int)) = 0
      rw [c]
      rfl
    · show ((PyData.int z).intsShort 13 && PyData.intsShortAll 13 (r.map .int)) = true
      rw [short_small hz, e]
      rfl
    · show (PyData.int z).weight + 1 + PyData.weightAll (r.map .int) ≤ 11 * (r.length + 1)
      have := weigh_small hz
      omega
theorem row_ok {ns : List Int} (h : ∀ z ∈ ns, Small z) (hz : ns.length ≤ 1000) : ROk (.tuple (ns.map .int)) := by
  obtain ⟨a, b, c, d, e, g⟩ := ints_all h
  refine ⟨a, b, by show PyData.depthAll (ns.map .int) + 1 ≤ 60; omega, PyData.shown_fits_of_layable0 (B := 13) (by decide) (by decide) ?_ e⟩
  show ((PyData.canLayAll0 (ns.map .int) && decide (PyData.depthAll (ns.map .int) + 1 ≤ 64)) && decide (PyData.weightAll (ns.map .int) ≤ 2 ^ 20)) = true
  rw [d, decide_eq_true (by omega), decide_eq_true (Nat.le_trans g (Nat.le_trans (Nat.mul_le_mul_left 11 hz) (by decide)))]
  rfl
def SmallP (p : Int × Int) : Prop := Small p.1 ∧ Small p.2
theorem pairs_all : ∀ {gs : List (Int × Int)}, (∀ p ∈ gs, SmallP p) → PyData.showableAll (gs.map pD) = true ∧ PyData.hasDictAll (gs.map pD) = false ∧ PyData.depthAll (gs.map pD) ≤ 1 ∧ PyData.canLayAll0 (gs.map pD) = true ∧
    PyData.intsShortAll 13 (gs.map pD) = true ∧ PyData.weightAll (gs.map pD) ≤ 30 * gs.length
  | [], _ => ⟨rfl, rfl, Nat.zero_le _, rfl, rfl, Nat.zero_le _⟩
  | p :: r, h => by
    obtain ⟨p1, p2⟩ := h p List.mem_cons_self
    obtain ⟨a, b, c, d, e, g⟩ := pairs_all (gs := r) fun y hy => h y (List.mem_cons_of_mem _ hy)
    refine ⟨?_, b, ?_, d, ?_, ?_⟩
    · show (((PyData.int p.1).showable && ((PyData.int p.2).showable && true)) && PyData.showableAll (r.map pD)) = true
      rw [show_small p1, show_small p2, a]
      rfl
    · show max 1 (PyData.depthAll (r.map pD)) ≤ 1
      exact Nat.max_le.mpr ⟨Nat.le_refl _, c⟩
    · show (((PyData.int p.1).intsShort 13 && ((PyData.int p.2).intsShort 13 && true)) && PyData.intsShortAll 13 (r.map pD)) = true
      rw [short_small p1, short_small p2, e]
      rfl
    · show ((PyData.int p.1).weight + 1 + ((PyData.int p.2).weight + 1 + 0)) + 1 + PyData.weightAll (r.map pD) ≤ 30 * (r.length + 1)
      have h1 := weigh_small p1
      have h2 := weigh_small p2
      omega
theorem gates_ok {gs : List (Int × Int)} (h : ∀ p ∈ gs, SmallP p) (hz : gs.length ≤ 1000) : ROk (gD gs) := by
  obtain ⟨a, b, c, d, e, g⟩ := pairs_all h
  refine ⟨a, b, by show PyData.depthAll (gs.map pD) + 1 ≤ 60; omega, PyData.shown_fits_of_layable0 (B := 13) (by decide) (by decide) ?_ e⟩
  show ((PyData.canLayAll0 (gs.map pD) && decide (PyData.depthAll (gs.map pD) + 1 ≤ 64)) && decide (PyData.weightAll (gs.map pD) ≤ 2 ^ 20)) = true
  rw [d, decide_eq_true (by omega), decide_eq_true (Nat.le_trans g (Nat.le_trans (Nat.mul_le_mul_left 30 hz) (by decide)))]
  rfl
theorem shaped_ints {ns : List Int} (h : ∀ z ∈ ns, Small z) : SeqAt.shaped (.list (ns.map .int)) = true ∧ SeqAt.shaped (.tuple (ns.map .int)) = true := by
  obtain ⟨a, b, c, d, e, g⟩ := ints_all h
  have k : (PyData.canLayAll0 (ns.map .int) && decide (PyData.depthAll (ns.map .int) + 1 ≤ 64)) = true := by
    rw [d, decide_eq_true (by omega)]
    rfl
  exact ⟨k, k⟩
theorem eqv_len : ∀ (xs ys : List PyData), PyData.eqvAll xs ys = true → xs.length = ys.length
  | [], [], _ => rfl
  | [], _ :: _, h => by
    unfold PyData.eqvAll at h
    cases h
  | _ :: _, [], h => by
    unfold PyData.eqvAll at h
    cases h
  | x :: xs, y :: ys, h => by
    unfold PyData.eqvAll at h
    exact congrArg Nat.succ (eqv_len xs ys (Bool.and_eq_true_iff.mp h).2)
theorem eqv_self (gs : List (Int × Int)) : PyData.eqv (gD gs) (gD gs) = true := SeqAt.eqv_refl _ (Gr.can_pD gs)
theorem eqv_cut {gs hs : List (Int × Int)} (h : gs.length ≠ hs.length) : PyData.eqv (gD gs) (gD hs) = false := by
  cases e : PyData.eqv (gD gs) (gD hs) with
  | false => rfl
  | true =>
    have e' : PyData.eqvAll (gs.map pD) (hs.map pD) = true := by
      unfold gD PyData.eqv at e
      exact e
    have := eqv_len _ _ e'
    rw [List.length_map, List.length_map] at this
    exact absurd this h
end Rp
namespace Lw
open PySem PySem.Spec PyProof.Rows L2 Pen Dat Ki Fi Gr No Lf Rp Gd
structure Tx (K : PySem.W.Frag) (mg : Str → Option Value) (C fE : Addr) : Prop where
  gr : Gr.Tx K mg C
  lf : Lf.Tx mg
  rep : mg "repr" = none
  eqAt : PySem.W.findIn K (.ref C) "__eq__" = some (some (.ref fE))
  eqFn : PySem.W.isFn K (.ref fE) = true
  sub : PySem.W.subIn K (.type "tuple") (.ref C) = some false
def rListOf (K : PySem.W.Frag) : List V → Hp → VK → Prop := fun xs H Q => ∃ p ys, xs = [V.ref p] ∧ (SqL K H p ys ∨ SqT K H p ys) ∧ ∀ l, H l = none → Q (.ref l) (upd H l (.lst ys))
/-- a pair, in a list that is being made at D: whatever stands at D -/
def PrX (K : PySem.W.Frag) (H : Hp) (D : Addr) (v : V) (z : Int × Int) : Prop := ∀ o, Pr K (upd H D o) v z
theorem same_upd {H H' : Hp} {D : Addr} {o : HO} (s : Same H H') : Same (upd H D o) (upd H' D o) := fun b u e => by
  by_cases h : b = D
  · rw [h, upd_same] at e ⊢
    exact e
  · rw [upd_ne h] at e ⊢
    exact s _ _ e
theorem but_upd {p : Addr} {H H' : Hp} {D : Addr} {o : HO} (s : But p H H') : But p (upd H D o) (upd H' D o) := fun b u e ne => by
  by_cases h : b = D
  · rw [h, upd_same] at e ⊢
    exact e
  · rw [upd_ne h] at e ⊢
    exact s _ _ e ne
section
variable {K : PySem.W.Frag} {H H' : Hp} {D p c : Addr} {m : Nat} {v : V} {z : Int × Int}
theorem seqL_but {a : Addr} {xs : List V} (b : But p H H') (hp : PenC H p c m) (h : SqL K H a xs) : SqL K H' a xs := by
  obtain ⟨ns, x, d, n, f, h1, _⟩ := hp
  rcases h with (h | ⟨o, h⟩) | h
  · exact .inl (.inl (b _ _ h fun e => by rw [e, h1] at h; cases h))
  · exact .inl (.inr ⟨o, b _ _ h fun e => by rw [e, h1] at h; cases h⟩)
  · exact .inr h
theorem PrX.upd {o : HO} (h : PrX K H D v z) : PrX K (upd H D o) D v z := fun u => by
  rw [upd_upd]
  exact h u
theorem PrX.same (s : Same H H') (h : PrX K H D v z) : PrX K H' D v z := fun o => (h o).same (same_upd s)
theorem PrX.but (b : But p H H') (hp : PenC H p c m) (n1 : D ≠ p) (n2 : D ≠ c) (h : PrX K H D v z) : PrX K H' D v z := fun o => by
  obtain ⟨q, e, h⟩ := h o
  have b' := but_upd (D := D) (o := o) b
  have hp' := hp.upd (o := o) n1 n2
  exact ⟨q, e, h.elim (fun h => .inl (seqL_but b' hp' h)) fun h => .inr (firm_seq (Firm.pen b' hp') h)⟩
theorem PrX.pr {o : HO} (e : H D = some o) (h : PrX K H D v z) : Pr K H v z := (h o).same fun b u q => by
  by_cases hb : b = D
  · rw [hb, upd_same] at q
    rw [hb, e]
    exact q
  · rw [upd_ne hb] at q
    exact q
end
section
variable {K : PySem.W.Frag} {C x y : Addr} {H : Hp} {n n' : Int} {v : V} {gs gs' : List (Int × Int)} {Q : VK} {E : XK}
theorem mk_use {dx : Addr} {R : VK} (nx : H x = none) (nd : H dx = none) (n0 : n ≥ 0) (hv : RowG K H v gs) (hz : gs.length ≤ 1000) (hok : okG (2 * n + 1) gs = true) (k : ∀ H', Same H H' → GraphAt K C H' x n gs → R .non H') :
    spInit K C [.ref x, .int n, v] (upd (upd H dx (.own x)) x (.ins C dx [])) R E := by
  have s : Same H (upd (upd H dx (.own x)) x (.ins C dx [])) := fun b o e => by
    rw [upd_ne (ne_of_none e nx), upd_ne (ne_of_none e nd)]
    exact e
  exact ⟨x, dx, n, v, gs, rfl, upd_same, n0, hv.same s, hz, hok, fun H' k9 G => k H' (Same.made nx nd k9) G⟩
theorem own_use (hx : GraphAt K C H x n gs) (hy : GraphAt K C H y n' gs') {k : Bool} (e : (decide (n = n') && PyData.eqv (gD gs) (gD gs')) = k) (q : Q (.bl k) H) : Ow.rOwn K C (spEqG K C) E (.ref x) (.ref y) H Q := by
  obtain ⟨dx, g, h1, h2⟩ := hx
  obtain ⟨dy, g', e1, e2⟩ := hy
  subst e
  exact ⟨x, dx, _, rfl, h1, .inl ⟨y, dy, _, rfl, e1⟩, x, _, n, gs, rfl, ⟨dx, g, h1, h2⟩, .inl ⟨y, n', gs', rfl, ⟨dy, g', e1, e2⟩, _, rfl, q⟩⟩
theorem own_tup {t : Addr} {xs : List V} (hx : GraphAt K C H x n gs) (ht : SqT K H t xs) (q : Q (.bl false) H) : Ow.rOwn K C (spEqG K C) E (.ref x) (.ref t) H Q := by
  obtain ⟨dx, g, h1, h2⟩ := hx
  exact ⟨x, dx, _, rfl, h1, .inr ⟨t, xs, rfl, ht⟩, x, _, n, gs, rfl, ⟨dx, g, h1, h2⟩, .inr ⟨t, xs, rfl, ht, _, rfl, q⟩⟩
theorem rep_use {a : Addr} {d : PyData} (hd : Dp K H (.ref a) d) (ok : ROk d) (q : Q (.str d.shown) H) : rRepr K [.ref a] H Q := ⟨a, d, rfl, hd, ok.show_, ok.dict, ok.deep, ok.long, q⟩
theorem okG_take : ∀ {gs : List (Int × Int)} {m : Int} (k : Nat), okG m gs = true → okG m (gs.take k) = true
  | [], _, _, h => by
    rw [List.take_nil]
    exact h
  | _ :: _, _, 0, _ => rfl
  | p :: r, m, k + 1, h => by
    unfold okG at h
    rw [Bool.and_eq_true] at h
    show ((within p.1 m && within p.2 m) && okG (m + 2) (r.take k)) = true
    rw [h.1, okG_take k h.2]
    rfl
theorem okG_small {gs : List (Int × Int)} {m : Int} (h : okG m gs = true) (hm : m + 2 * gs.length < 1000) : ∀ p ∈ gs, SmallP p := fun p hp => by
  obtain ⟨i, hi, e⟩ := List.getElem_of_mem hp
  have e2 : gs[i]? = some p := by rw [List.getElem?_eq_getElem hi, e]
  obtain ⟨⟨a, b⟩, c, d⟩ := okG_at h e2
  exact ⟨⟨a, by omega⟩, c, by omega⟩
theorem cut_ix {n : Nat} (h : 0 < n) : HT.sIx n n (some (-1)) = n - 1 := by
  show (if (-1 : Int) < 0 then ((-1 : Int) + (n : Int)).toNat else min (-1 : Int).toNat n) = _
  rw [if_pos (by decide)]
  omega
theorem cut_last {xs : List V} (h : xs ≠ []) : cutV xs none (some (-1)) = xs.take (xs.length - 1) := by
  show (xs.drop 0).take (HT.sIx xs.length xs.length (some (-1)) - 0) = _
  rw [cut_ix (List.length_pos_iff.mpr h)]
  rfl
end
def spLaw (K : PySem.W.Frag) : Sp := fun vs H Q _ => ∃ (a : Addr) (ns : List Int), vs = [.ref a] ∧ SqL K H a (ns.map V.int) ∧ ns.length ≤ 63 ∧ ∀ H', Q (.bl true) H'
section
variable {P : Program} {w : World} {K : PySem.W.Frag} {mg : Str → Option Value} {base : Heap} {f C fE : Addr} {fd : FuncData}
abbrev lwN : List Str := ["_law_script", "_law_pen_here", "_law_lap", "_law_leaves", "_law_gates", "_law_given", "_law_graph", "_law_bits", "_law_found", "_law_gate", "_law_one"]
theorem scLaw : FnScope lwN ["_law_script"] (defScope sLaw) := ⟨rfl, rfl, rfl, by decide +kernel, rfl, by decide +kernel, by decide +kernel⟩
theorem ok_law (F : FnP K "law" sLaw f fd) (T : Tx K mg C fE) {fI fP fD fW fK fV fN fL fB fR : Addr} {dI dE dP dD dW dK dV dN dL dB dR : FuncData}
    (M : Mk K C fI) (GI : FnOk P w K mg base CX0 4 fI dI ["self", "leaves", "gates"] (spInit K C)) (bI : Binds K dI ["self", "leaves", "gates"] [])
    (GE : FnOk P w K mg base CX0 1 fE dE ["self", "other"] (spEqG K C)) (bE : Binds K dE ["self", "other"] [])
    (GP : FnOk P w K mg base CX0 1 fP dP ["_law_script"] (spPen K)) (gP : mg "_law_pen" = some (.ref fP)) (kP : PySem.W.keepIn K (.ref fP) = true) (bP : Binds K dP ["_law_script"] [])
    (GD : FnOk P w K mg base CX0 1 fD dD ["_law_pen_here", "_law_many"] spDraw) (gD : mg "_law_draw" = some (.ref fD)) (kD : PySem.W.keepIn K (.ref fD) = true) (bD : Binds K dD ["_law_pen_here", "_law_many"] [])
    (GW : FnOk P w K mg base CX0 2 fW dW ["_law_pen_here", "_law_leaves", "_law_many"] (spDrawn K)) (gW : mg "_law_drawn_gates" = some (.ref fW)) (kW : PySem.W.keepIn K (.ref fW) = true) (bW : Binds K dW ["_law_pen_here", "_law_leaves", "_law_many"] [])
    (GK : FnOk P w K mg base CX0 2 fK dK ["_law_pen_here", "_law_some"] (spPick K)) (gK : mg "_law_pick" = some (.ref fK)) (kK : PySem.W.keepIn K (.ref fK) = true) (bK : Binds K dK ["_law_pen_here", "_law_some"] [])
    (GV : FnOk P w K mg base CX0 2 fV dV ["_law_leaves", "_law_gates", "_law_bits"] (spValues K)) (gV : mg "_law_values" = some (.ref fV)) (kV : PySem.W.keepIn K (.ref fV) = true) (bV : Binds K dV ["_law_leaves", "_law_gates", "_law_bits"] [])
    (GN : FnOk P w K mg base CX0 3 fN dN ["graph", "bits"] (spNode K C)) (gN : mg "node_values" = some (.ref fN)) (kN : PySem.W.keepIn K (.ref fN) = true) (bN : Binds K dN ["graph", "bits"] [])
    (GL : FnOk P w K mg base CX0 1 fL dL ["found", "literal"] (spLit K)) (gL : mg "literal_value" = some (.ref fL)) (kL : PySem.W.keepIn K (.ref fL) = true) (bL : Binds K dL ["found", "literal"] [])
    (GB : FnOk P w K mg base CX0 1 fB dB ["_law_found", "_law_literal"] (spBit K)) (gB : mg "_law_bit" = some (.ref fB)) (kB : PySem.W.keepIn K (.ref fB) = true) (bB : Binds K dB ["_law_found", "_law_literal"] [])
    (GR : FnOk P w K mg base CX0 2 fR dR ["_law_many"] (spRows K)) (gR : mg "_law_rows" = some (.ref fR)) (kR : PySem.W.keepIn K (.ref fR) = true) (bR : Binds K dR ["_law_many"] []) :
    FnG P w K mg base CX0 6 f fd ["_law_script"] (spLaw K) := by
  refine FnG.mk_of F scLaw (fun vs H Q E h => ?_) (fun cdv A outer s H vs Q E hg hr h => ?_)
  · obtain ⟨a, ns, rfl, _⟩ := h
    rfl
  · obtain ⟨a, ns, rfl, hS, hl, q⟩ := h
    refine ⟨_, PSs.nox (pss_cons (ps_set (i := 1) scLaw.nd rfl (Or.inr rfl) (pe_call GP (hr.mono (by decide)) (by rfl) gP kP bP .nil pass0 (pa_cons (pv 0) pa_nil))) (pss_cons (ps_for PassesOwn.never rfl (pi_range1 (by rfl) T.lf.range (pa_cons pe_int pa_nil)) (pg_name (i := 2) scLaw.nd rfl (Or.inl rfl)) (pss_cons (ps_set (i := 3) scLaw.nd rfl (Or.inl rfl) (pe_call GD (hr.mono (by decide)) (by rfl) gD kD bD .nil pass0 (pa_cons (pv 1) (pa_cons pe_int pa_nil)))) (pss_cons (ps_set (i := 4) scLaw.nd rfl (Or.inl rfl) (pe_call GW (hr.mono (by decide)) (by rfl) gW kW bW .nil pass0 (pa_cons (pv 1) (pa_cons (pv 3) (pa_cons (pe_call GD (hr.mono (by decide)) (by rfl) gD kD bD .nil pass0 (pa_cons (pv 1) (pa_cons pe_int pa_nil))) pa_nil))))) (pss_cons (ps_setLc (i := 5) (own := [("_law_gate", 9)]) (g := gName 9) (tt := tYes) (by rfl) scLaw.nd rfl rfl (sw_true rfl rfl rfl (by decide +kernel)) (pi_tup (pv 4)) (blkOk_by (N := lwN) (sc := defScope sLaw) (by decide +kernel)) (fun _ _ _ _ _ => pg_name (i := 9) scLaw.nd rfl (Or.inl rfl)) (fun _ _ _ _ _ => pts_nil) (fun _ _ _ _ _ => (pe_call GK (hr.mono (by decide)) (by rfl) gK kK bK .nil pass0 (pa_cons (pv 1) (pa_cons (pe_lst (pa_cons (pe_callTy (T := "list") (r := rListOf K) (by exact call_list_of) (by rfl) T.gr.ki.list (by decide +kernel) (pa_cons (pv 9) pa_nil)) (pa_cons (pv 9) pa_nil))) pa_nil))))) (pss_cons (ps_set (i := 6) scLaw.nd rfl (Or.inl rfl) (pe_make M GI (hr.mono (by decide)) (by rfl) T.gr.mgC bI .nil pass0 (pa_cons (pv 3) (pa_cons (pe_call GK (hr.mono (by decide)) (by rfl) gK kK bK .nil pass0 (pa_cons (pv 1) (pa_cons (pe_lst (pa_cons (pv 5) (pa_cons (pe_callTy (T := "tuple") (r := rTupOf K) (by exact call_tuple_of) (by rfl) T.gr.ki.tuple (by decide +kernel) (pa_cons (pv 5) pa_nil)) pa_nil))) pa_nil))) pa_nil)))) (pss_cons (ps_if (PW.pt (pw_or (pt_cmpR op_ne (pe_fld (pv 6) rfl) (pv 3) (nomark _)) (pw_or (pt_cmpR op_ne (pe_callB (Gd.call_repr hg hr) (by rfl) T.rep (by decide +kernel) (pa_cons (pe_fld (pv 6) rfl) pa_nil)) (pe_callB (Gd.call_repr hg hr) (by rfl) T.rep (by decide +kernel) (pa_cons (pv 4) pa_nil)) (nomark _)) (pw_or1 (pt_not (pt_cmpR (Ow.op_own GE (hr.mono (by decide)) T.eqAt T.eqFn T.sub bE pass0) (pv 6) (pe_make M GI (hr.mono (by decide)) (by rfl) T.gr.mgC bI .nil pass0 (pa_cons (pv 3) (pa_cons (pv 4) pa_nil))) (nomark _))))))) (pss_one (ps_ret pe_bl)) pss_nil) (C8.pss_cut (ps_if (PW.pt (pw_or (pt_cmpR (Ow.op_own GE (hr.mono (by decide)) T.eqAt T.eqFn T.sub bE pass0) (pv 6) (pe_make M GI (hr.mono (by decide)) (by rfl) T.gr.mgC bI .nil pass0 (pa_cons (pe_op op_add (pv 3) pe_int) (pa_cons (pe_lst pa_nil) pa_nil))) (nomark _)) (pw_or (pt_cmpR (Ow.op_own GE (hr.mono (by decide)) T.eqAt T.eqFn T.sub bE pass0) (pv 6) (pv 4) (nomark _)) (pw_or1 (PW.pt (pw_and (pt_cmpR (op_neD hr.units) (pv 4) (pe_tup pa_nil) (nomark _)) (pw_and1 (pt_cmpR (Ow.op_own GE (hr.mono (by decide)) T.eqAt T.eqFn T.sub bE pass0) (pv 6) (pe_make M GI (hr.mono (by decide)) (by rfl) T.gr.mgC bI .nil pass0 (pa_cons (pv 3) (pa_cons (pe_slice sl_tupA (pv 4) po_none (po_some (pe_un un_neg pe_int))) pa_nil))) (nomark _))))))))) (pss_one (ps_ret pe_bl)) pss_nil) (C8.pss_cut (ps_if (pt_cmpR (op_neD hr.units) (pv 4) (pe_tup pa_nil) (nomark _)) (pss_cons (ps_asg (pe_tup (pa_cons pe_int (pa_cons pe_int pa_nil))) (pg_sub (pv 5) pe_int set_list)) (pss_one (ps_if (pt_cmpR op_ne (pe_callB (Gd.call_repr hg hr) (by rfl) T.rep (by decide +kernel) (pa_cons (pe_fld (pv 6) rfl) pa_nil)) (pe_callB (Gd.call_repr hg hr) (by rfl) T.rep (by decide +kernel) (pa_cons (pv 4) pa_nil)) (nomark _)) (pss_one (ps_ret pe_bl)) pss_nil))) pss_nil) (pss_one (ps_for PassesOwn.never rfl (pi_list (pe_call GR (hr.mono (by decide)) (by rfl) gR kR bR .nil pass0 (pa_cons (pv 3) pa_nil))) (pg_name (i := 7) scLaw.nd rfl (Or.inl rfl)) (pss_cons (ps_set (i := 8) scLaw.nd rfl (Or.inr rfl) (pe_call GV (hr.mono (by decide)) (by rfl) gV kV bV .nil pass0 (pa_cons (pv 3) (pa_cons (pv 4) (pa_cons (pv 7) pa_nil))))) (pss_cons (ps_if (pt_cmpR op_ne (pe_callB (Gd.call_repr hg hr) (by rfl) T.rep (by decide +kernel) (pa_cons (pe_call GN (hr.mono (by decide)) (by rfl) gN kN bN .nil pass0 (pa_cons (pv 6) (pa_cons (pe_call GK (hr.mono (by decide)) (by rfl) gK kK bK .nil pass0 (pa_cons (pv 1) (pa_cons (pe_lst (pa_cons (pv 7) (pa_cons (pe_callTy (T := "list") (r := rListOf K) (by exact call_list_of) (by rfl) T.gr.ki.list (by decide +kernel) (pa_cons (pv 7) pa_nil)) pa_nil))) pa_nil))) pa_nil))) pa_nil)) (pe_callB (Gd.call_repr hg hr) (by rfl) T.rep (by decide +kernel) (pa_cons (pe_callTy (T := "tuple") (r := rTupOf K) (by exact call_tuple_of) (by rfl) T.gr.ki.tuple (by decide +kernel) (pa_cons (pv 8) pa_nil)) pa_nil)) (nomark _)) (pss_one (ps_ret pe_bl)) pss_nil) (pss_one (ps_if (pt_cmpR (op_neD hr.units) (pe_lc (own := [("_law_one", 10)]) (g := gName 10) (tt := tYes) rfl scLaw.nd (pi_range1 (by rfl) T.lf.range (pa_cons (pe_op op_mul pe_int (pe_callB call_len_seq (by rfl) T.gr.ki.len PySem.boot_len (pa_cons (pv 8) pa_nil))) pa_nil)) (blkOk_by (N := lwN) (sc := defScope sLaw) (by decide +kernel)) (fun _ _ _ _ _ => pg_name (i := 10) scLaw.nd rfl (Or.inl rfl)) (fun _ _ _ _ _ => pts_nil) (fun _ _ _ _ _ => (pe_call GL (hr.mono (by decide)) (by rfl) gL kL bL .nil pass0 (pa_cons (pe_callTy (T := "tuple") (r := rTupOf K) (by exact call_tuple_of) (by rfl) T.gr.ki.tuple (by decide +kernel) (pa_cons (pv 8) pa_nil)) (pa_cons (pv 10) pa_nil))))) (pe_lc (own := [("_law_one", 10)]) (g := gName 10) (tt := tYes) rfl scLaw.nd (pi_range1 (by rfl) T.lf.range (pa_cons (pe_op op_mul pe_int (pe_callB call_len_seq (by rfl) T.gr.ki.len PySem.boot_len (pa_cons (pv 8) pa_nil))) pa_nil)) (blkOk_by (N := lwN) (sc := defScope sLaw) (by decide +kernel)) (fun _ _ _ _ _ => pg_name (i := 10) scLaw.nd rfl (Or.inl rfl)) (fun _ _ _ _ _ => pts_nil) (fun _ _ _ _ _ => (pe_call GB (hr.mono (by decide)) (by rfl) gB kB bB .nil pass0 (pa_cons (pv 8) (pa_cons (pv 10) pa_nil))))) (nomark _)) (pss_one (ps_ret pe_bl)) pss_nil)))))))))))))) (pss_one (ps_ret (pe_cmpR (op_eqD hr.units) (pe_lc (own := [("_law_one", 10)]) (g := gName 10) (tt := tYes) rfl scLaw.nd (pi_range1 (by rfl) T.lf.range (pa_cons pe_int pa_nil)) (blkOk_by (N := lwN) (sc := defScope sLaw) (by decide +kernel)) (fun _ _ _ _ _ => pg_name (i := 10) scLaw.nd rfl (Or.inl rfl)) (fun _ _ _ _ _ => pts_nil) (fun _ _ _ _ _ => (pe_call GL (hr.mono (by decide)) (by rfl) gL kL bL .nil pass0 (pa_cons (pe_tup (pa_cons pe_int (pa_cons pe_non (pa_cons pe_int pa_nil)))) (pa_cons (pv 10) pa_nil))))) (pe_lst (pa_cons pe_int (pa_cons pe_int (pa_cons pe_non (pa_cons pe_non (pa_cons pe_int (pa_cons pe_int pa_nil))))))) (nomark _)))))), ?_⟩
    refine ⟨_, rfl, a, ns, rfl, hS, hl, fun p c H1 np s1 P1 => ?_⟩
    refine ⟨3, rfl, by decide, by decide, for_range (lo := 0) (n := 3)
      (fun i σ H2 => ∃ (x2 x3 x4 x5 x6 x7 x8 : Option V), σ = [some (.ref a), some (.ref p), x2, x3, x4, x5, x6, x7, x8, none, none] ∧ PenC H2 p c (200 * i))
      ⟨none, none, none, none, none, none, none, rfl, P1⟩ ?_ ?_⟩
    · rintro i σ H2 hi ⟨x2, x3, x4, x5, x6, x7, x8, rfl, P2⟩
      refine ⟨_, rfl, p, c, 200 * i, 7, rfl, P2, by omega, by decide, by decide, fun n H3 n0 n7 P3 B3 => ?_⟩
      refine ⟨_, rfl, _, rfl, _, rfl, p, c, 200 * i + 1, 15, rfl, P3, by omega, by decide, by decide, fun m H4 m0 m15 P4 B4 => ?_⟩
      refine ⟨p, c, 200 * i + 2, n, m, rfl, P4, by omega, n0, by omega, m0, by omega, fun H5 g gs P5 B5 G5 ok5 len5 => ?_⟩
      obtain ⟨ps, hg, ha⟩ := id G5
      refine ⟨_, rfl, g, rfl, ⟨_, hg⟩, fun D nD => ?_⟩
      obtain ⟨nDp, nDc⟩ := P5.free nD
      have sD := same_new (u := .lst []) nD
      refine lc_tup (K := K) (a := g) (xs := ps) (fun j H6 => PenC H6 p c (200 * i + 2 + 2 * m.toNat + j) ∧ But p H5 H6 ∧ ∃ ys, H6 D = some (.lst ys) ∧ All2 (PrX K H6 D) ys (gs.take j))
        ⟨P5.same sD, fun b o e _ => sD b o e, [], upd_same, .nil⟩ (fun j H6 _ ⟨P6, k6, _⟩ => firm_seq (Firm.pen k6 P5) hg) ?_ ?_
      · rintro j v H6 hj ⟨P6, k6, ys, h6, a6⟩
        obtain ⟨z, hz1, hz2⟩ := ha.get hj
        obtain ⟨q0, rfl, hq⟩ := hz2
        have hjm : j < m.toNat := by
          rw [← len5]
          exact (List.getElem?_eq_some_iff.mp hz1).1
        have hq6 := firm_seq (Firm.pen k6 P5) hq
        refine ⟨rfl, yes_of ?_⟩
        refine ⟨_, rfl, _, rfl, q0, _, rfl, .inr hq6, fun l1 nl1 => ⟨_, rfl, (by show 2 ≤ sizeLine; decide), fun l2 nl2 => ?_⟩⟩
        have s1 := same_new (u := .lst [V.int z.1, V.int z.2]) nl1
        have s2 := same_new (u := .lst [V.ref l1, V.ref q0]) nl2
        have P7 := P6.same (s1.trans s2)
        refine ⟨p, c, l2, 200 * i + 2 + 2 * m.toNat + j, [V.ref l1, V.ref q0], rfl, P7, by omega, ((P6.same s1).free nl2).1, SqL.of upd_same, (by show 0 < 2; decide), (by show 2 ≤ 1000; decide), fun v k H8 hv P8 B8 => ?_⟩
        have h7 := (s1.trans s2) _ _ h6
        have h8 : H8 D = some (.lst ys) := B8 _ _ h7 nDp
        have d1 : l1 ≠ D := fun e => by
          rw [e, h6] at nl1
          cases nl1
        have hX : PrX K (upd (upd H6 l1 (.lst [V.int z.1, V.int z.2])) l2 (.lst [V.ref l1, V.ref q0])) D v z := by
          match k, hv with
          | 0, hv =>
            have e : v = V.ref l1 := (Option.some.inj hv).symm
            subst e
            exact fun o => ⟨l1, rfl, .inl (SqL.of (by rw [upd_ne d1]; exact s2 _ _ upd_same))⟩
          | 1, hv =>
            have e : v = V.ref q0 := (Option.some.inj hv).symm
            subst e
            exact fun o => ⟨q0, rfl, .inr (firm_seq (Firm.upd h7 rfl) (seqT_same (s1.trans s2) hq6))⟩
          | k + 2, hv => cases hv
        have h9 := (hX.but B8 P7 nDp nDc).upd (o := .lst (ys ++ [v]))
        refine ⟨ys, h8, ?_, P8.upd nDp nDc, fun b o e ne => ?_, ys ++ [v], upd_same, ?_⟩
        · rw [a6.len, List.length_take]
          exact Nat.lt_of_le_of_lt (Nat.min_le_left _ _) (Nat.lt_trans hjm (Nat.lt_of_lt_of_le (by omega : m.toNat < 100) (by decide)))
        · rw [upd_ne (ne_of_none e nD)]
          exact B8 _ _ ((s1.trans s2) _ _ (k6 b o e ne)) ne
        · rw [take_more hz1]
          exact (a6.imp fun _ _ h => ((h.same (s1.trans s2)).but B8 P7 nDp nDc).upd).snoc h9
      · rintro H6 ⟨P6, k6, ys, h6, a6⟩
        rw [ha.len, List.take_length] at a6
        have hgl : gs.length ≤ 14 := by omega
        have hsm : ∀ p ∈ gs, SmallP p := okG_small ok5 (by omega)
        have rok : ROk (Fi.gD gs) := gates_ok hsm (by omega)
        have hyl : ys.length = gs.length := a6.len
        have P6' : PenC H6 p c (200 * i + 50) := P6.more (by rw [ha.len]; omega)
        -- the graph
        refine ⟨_, rfl, _, rfl, _, rfl, _, rfl, D, ys, rfl, .inl ⟨SqL.of h6, fun t nt => ⟨(by show 2 ≤ sizeLine; decide), fun l2 nl2 => ?_⟩⟩⟩
        have s1 := same_new (u := .tup ys) nt
        have s2 := same_new (u := .lst [V.ref D, V.ref t]) nl2
        have P7 := P6'.same (s1.trans s2)
        refine ⟨p, c, l2, 200 * i + 50, [V.ref D, V.ref t], rfl, P7, by omega, ((P6'.same s1).free nl2).1, SqL.of upd_same, (by show 0 < 2; decide), (by show 2 ≤ 1000; decide), fun v k H8 hv P8 B8 => ?_⟩
        have h7 := (s1.trans s2) _ _ h6
        have h8 : H8 D = some (.lst ys) := B8 _ _ h7 nDp
        have a8 : All2 (Pr K H8) ys gs := a6.imp fun _ _ h => ((h.same (s1.trans s2)).but B8 P7 nDp nDc).pr h8
        have r8 : RowG K H8 v gs := by
          match k, hv with
          | 0, hv =>
            have e : v = V.ref D := (Option.some.inj hv).symm
            subst e
            exact ⟨D, ys, rfl, .inl (SqL.of h8), a8⟩
          | 1, hv =>
            have e : v = V.ref t := (Option.some.inj hv).symm
            subst e
            exact ⟨t, ys, rfl, .inr (firm_seq (Firm.pen B8 P7) (seqT_same s2 (SqT.of upd_same))), a8⟩
          | k + 2, hv => cases hv
        have G8 : GT K H8 g gs := ((G5.firm (Firm.pen k6 P5)).firm (Firm.of (s1.trans s2))).firm (Firm.pen B8 P7)
        intro x dx0 nx nd _
        refine mk_use nx nd n0 r8 (by omega) ok5 fun H9 s9 g9 => ⟨rfl, ?_⟩
        have P9 := P8.same s9
        have G9 := G8.firm (Firm.of s9)
        have h9 := s9 _ _ h8
        clear nx nd r8 h8 h7 B8 P7 s1 s2 nt nl2 a6 h6 P6 P6' k6
        obtain ⟨dx, g', x1, x2'⟩ := id g9
        -- the first question
        refine ⟨_, rfl, x, C, dx, _, _, rfl, x1, T.gr.cl, T.gr.nL, flds_L _ _, _, rfl, rfl, _, rfl, iteNS rfl ?_⟩
        refine ⟨_, rfl, x, C, dx, _, _, rfl, x1, T.gr.cl, T.gr.nG, flds_G _ _, g', _, rfl, x2'.dp, rok.show_, rok.dict, rok.deep, rok.long, ?_⟩
        refine ⟨_, rfl, g, _, rfl, G9.dp, rok.show_, rok.dict, rok.deep, rok.long, ?_⟩
        refine ⟨rfl, _, rfl, iteNS rfl ?_⟩
        refine ⟨_, rfl, _, rfl, _, rfl, fun y dy ny nd _ => ?_⟩
        refine mk_use ny nd n0 G9.row (by omega) ok5 fun H10 s10 g10 => ⟨rfl, ?_⟩
        obtain ⟨dy1, gy, y1, y2⟩ := id g10
        refine ⟨x, dx, _, rfl, s10 _ _ x1, .inl ⟨y, dy1, _, rfl, y1⟩, x, _, n, gs, rfl, g9.firm (Firm.of s10), .inl ⟨y, n, gs, rfl, g10, _, rfl, _, rfl, ?_⟩⟩
        rw [eqv_self, decide_eq_true rfl]
        refine iteF ?_
        -- the second one
        refine ⟨fun σ H12 => σ = [some (.ref a), some (.ref p), some (.int (0 + (i : Int))), some (.int n), some (.ref g), some (.ref D), some (.ref x), x7, x8, none, none] ∧ Same H9 H12, ?_, ?_⟩
        · refine ⟨_, rfl, _, rfl, _, _, rfl, rfl, (by show 0 ≤ sizeLine; decide), fun l3 nl3 => ?_⟩
          intro y2 dy2 ny2 nd2 _
          refine mk_use (n := n + 1) ny2 nd2 (by omega) ⟨l3, [], rfl, .inl (SqL.of upd_same), .nil⟩ (by show 0 ≤ 1000; decide) rfl fun H11 s11 g11 => ⟨rfl, ?_⟩
          obtain ⟨dy3, g3, z1, z2⟩ := id g11
          have s911 : Same H9 H11 := s10.trans ((same_new nl3).trans s11)
          have f911 := Firm.of s911
          refine ⟨x, dx, _, rfl, s911 _ _ x1, .inl ⟨y2, dy3, _, rfl, z1⟩, x, _, n, gs, rfl, g9.firm f911, .inl ⟨y2, n + 1, [], rfl, g11, _, rfl, _, rfl, ?_⟩⟩
          rw [decide_eq_false (by omega : ¬ n = n + 1)]
          refine iteF ?_
          obtain ⟨qs, hq, aq⟩ := G9.firm f911
          refine ⟨_, rfl, _, rfl, x, dx, _, rfl, s911 _ _ x1, .inr ⟨g, _, rfl, hq⟩, x, _, n, gs, rfl, g9.firm f911, .inr ⟨g, _, rfl, hq, _, rfl, _, rfl, iteF ?_⟩⟩
          refine ⟨_, rfl, (by show 0 ≤ sizeLine; decide), fun t3 nt3 => ?_⟩
          have st3 := same_new (u := .tup []) nt3
          have s912 := s911.trans st3
          have G12 := G9.firm (Firm.of s912)
          refine ⟨_, _, G12.dp, .tup (SqT.of upd_same) .nil, shaped_gD gs, (by rfl), _, rfl, ?_⟩
          cases ee : PyData.eqv (Fi.gD gs) (.tuple []) with
          | true => exact iteF (iteF ⟨rfl, s912⟩)
          | false =>
            have gne : gs ≠ [] := fun e => by
              rw [e] at ee
              cases ee
            refine iteT ?_
            obtain ⟨qs2, hq2, aq2⟩ := id G12
            have hlq := aq2.len
            have qne : qs2 ≠ [] := fun e => gne (List.length_eq_zero_iff.mp (by rw [← hlq, e]; rfl))
            have hpos : 0 < gs.length := List.length_pos_iff.mpr gne
            refine ⟨_, rfl, _, rfl, _, rfl, _, rfl, _, rfl, g, qs2, rfl, hq2, fun hw => ?_, fun _ t4 nt4 => ?_⟩
            · exfalso
              have e1 := cut_ix (List.length_pos_iff.mpr qne)
              have e3 : HT.sIx qs2.length qs2.length (some (-1)) = qs2.length := hw.2
              omega
            · intro y4 dy4 ny4 nd4 _
              have st4 := same_new (u := .tup (cutV qs2 none (some (-1)))) nt4
              have ecut := cut_last qne
              refine mk_use (gs := gs.take (qs2.length - 1)) ny4 nd4 n0 ⟨t4, qs2.take (qs2.length - 1), rfl, .inr (SqT.of (by rw [← ecut]; exact upd_same)), ((aq2.imp fun _ _ h => h.firm (Firm.of st4)).take _).imp fun _ _ h => h.pr⟩
                (by rw [List.length_take]; omega) (okG_take _ ok5) fun H14 s14 g14 => ⟨rfl, ?_⟩
              obtain ⟨dy5, g5, v1, v2⟩ := id g14
              have s914 : Same H9 H14 := s912.trans (st4.trans s14)
              refine ⟨x, dx, _, rfl, s914 _ _ x1, .inl ⟨y4, dy5, _, rfl, v1⟩, x, _, n, gs, rfl, g9.firm (Firm.of s914), .inl ⟨y4, n, _, rfl, g14, _, rfl, _, rfl, ?_⟩⟩
              rw [eqv_cut (by rw [List.length_take]; omega), Bool.and_false]
              refine iteF ?_
              exact ⟨rfl, s914⟩
        · rintro σ H12 ⟨rfl, s12⟩
          have P12 := P9.same s12
          have G12 := G9.firm (Firm.of s12)
          have g12 := g9.firm (Firm.of s12)
          have h12 := s12 _ _ h9
          refine ⟨fun σ H13 => σ = [some (.ref a), some (.ref p), some (.int (0 + (i : Int))), some (.int n), some (.ref g), some (.ref D), some (.ref x), x7, x8, none, none] ∧ PenC H13 p c (200 * i + 60) ∧ GT K H13 g gs ∧ GraphAt K C H13 x n gs, ?_, ?_⟩
          · refine ⟨_, rfl, (by show 0 ≤ sizeLine; decide), fun t5 nt5 => ?_⟩
            have s5 := same_new (u := .tup []) nt5
            refine ⟨_, _, (G12.firm (Firm.of s5)).dp, .tup (SqT.of upd_same) .nil, shaped_gD gs, (by rfl), _, rfl, ?_⟩
            cases ee : PyData.eqv (Fi.gD gs) (.tuple []) with
            | true => exact iteF ⟨rfl, (P12.same s5).more (by omega), G12.firm (Firm.of s5), g12.firm (Firm.of s5)⟩
            | false =>
              have gne : gs ≠ [] := fun e => by
                rw [e] at ee
                cases ee
              have hpos : 0 < gs.length := List.length_pos_iff.mpr gne
              refine iteT ?_
              refine ⟨(by show 2 ≤ sizeLine; decide), fun t6 nt6 => ?_⟩
              have s6 := same_new (u := .tup [V.int 0, V.int 0]) nt6
              have h6 := (s5.trans s6) _ _ h12
              refine ⟨_, rfl, D, ys, 0, 0, rfl, rfl, h6, ?_, ?_⟩
              · show (if (0 : Int) ≤ 0 then (if (0 : Int) < (ys.length : Int) then some (0 : Int).toNat else none) else _) = some 0
                rw [if_pos (by decide), if_pos (by omega)]
                rfl
              · have fl := (Firm.of (s5.trans s6)).trans (Firm.upd (o := .lst (ys.set 0 (.ref t6))) h6 rfl)
                have P15 := (P12.same (s5.trans s6)).upd (o := .lst (ys.set 0 (.ref t6))) nDp nDc
                have G15 := G12.firm fl
                have g15 := g12.firm fl
                obtain ⟨dx5, g5, u1, u2⟩ := id g15
                refine ⟨_, rfl, x, C, dx5, _, _, rfl, u1, T.gr.cl, T.gr.nG, flds_G _ _, g5, _, rfl, u2.dp, rok.show_, rok.dict, rok.deep, rok.long, ?_⟩
                refine ⟨_, rfl, g, _, rfl, G15.dp, rok.show_, rok.dict, rok.deep, rok.long, ?_⟩
                exact ⟨rfl, _, rfl, iteNS rfl ⟨rfl, P15.more (by omega), G15, g15⟩⟩
          · rintro σ H13 ⟨rfl, P13, G13, g13⟩
            refine ⟨_, rfl, n, rfl, n0, by omega, fun H14 l ws s14 h14 a14 => ?_⟩
            have P14 := P13.same s14
            have hwl : ws.length ≤ 64 := by
              rw [a14.len, rowsM_len]
              exact Nat.le_trans (Nat.pow_le_pow_right (by decide) (by omega : n.toNat ≤ 6)) (by decide)
            refine ⟨l, rfl, ⟨_, SqL.of h14⟩, for_list (K := K) (a := l) (xs := ws)
              (fun j σ H15 => ∃ y7 y8 : Option V, σ = [some (.ref a), some (.ref p), some (.int (0 + (i : Int))), some (.int n), some (.ref g), some (.ref D), some (.ref x), y7, y8, none, none] ∧ PenC H15 p c (200 * i + 60 + j) ∧ But p H14 H15)
              ⟨_, _, rfl, P14, But.refl⟩ (fun j σ H15 _ ⟨_, _, _, _, B⟩ => seqL_but B P14 (SqL.of h14)) ?_ ?_⟩
            · rintro j v σ H15 hj ⟨y7, y8, rfl, P15, B15⟩
              obtain ⟨r, hr1, hr2⟩ := a14.get hj
              obtain ⟨q0, rfl, hq⟩ := hr2
              have hjl : j < ws.length := (List.getElem?_eq_some_iff.mp hj).1
              have f15 := Firm.pen B15 P14
              have hq15 := firm_seq f15 hq
              obtain ⟨rl, r01⟩ := rowsM_mem n.toNat r (List.mem_of_getElem? hr1)
              have en : (r.length : Int) = n := by omega
              have f1315 := (Firm.of s14).trans f15
              have G15 := G13.firm f1315
              have g15 : GraphAt K C H15 x r.length gs := by
                rw [en]
                exact g13.firm f1315
              have ok' : okG (2 * (r.length : Int) + 1) gs = true := by
                rw [en]
                exact ok5
              refine ⟨_, rfl, _, rfl, _, rfl, .int n, g, q0, gs, r, rfl, G15, hq15, r01, ok', by omega, by omega, fun H16 l5 s16 nl5 h16 => ?_⟩
              have nl5p := (P15.free nl5).1
              have P16 := P15.same s16
              have hq16 := seqT_same s16 hq15
              have v01 := vals_01 gs r01
              have vlen := vals_len r gs
              refine ⟨_, rfl, _, rfl, _, rfl, _, rfl, q0, _, rfl, .inr hq16, fun l6 nl6 => ⟨(by show 2 ≤ sizeLine; decide), fun l7 nl7 => ?_⟩⟩
              have s6 := same_new (u := .lst (r.map V.int)) nl6
              have s7 := same_new (u := .lst [V.ref q0, V.ref l6]) nl7
              have P17 := P16.same (s6.trans s7)
              refine ⟨p, c, l7, 200 * i + 60 + j, [V.ref q0, V.ref l6], rfl, P17, by omega, ((P16.same s6).free nl7).1, SqL.of upd_same, (by show 0 < 2; decide), (by show 2 ≤ 1000; decide), fun v k H18 hv P18 B18 => ?_⟩
              have sq : SeqI K H18 v r := by
                match k, hv with
                | 0, hv =>
                  have e : v = V.ref q0 := (Option.some.inj hv).symm
                  subst e
                  exact ⟨q0, rfl, .inr (firm_seq (Firm.pen B18 P17) (seqT_same (s6.trans s7) hq16))⟩
                | 1, hv =>
                  have e : v = V.ref l6 := (Option.some.inj hv).symm
                  subst e
                  exact ⟨l6, rfl, .inl (seqL_but B18 P17 (SqL.of (s7 _ _ upd_same)))⟩
                | k + 2, hv => cases hv
              have h18 := B18 _ _ ((s6.trans s7) _ _ h16) nl5p
              have g18 := g15.firm ((Firm.of (s16.trans (s6.trans s7))).trans (Firm.pen B18 P17))
              refine ⟨x, v, gs, r, rfl, g18, sq, r01, ok', by omega, by omega, fun H19 t19 s19 ht19 => ?_⟩
              have wsm : ∀ z ∈ vals r gs, Small z := fun z hz => by
                rcases v01 z hz with rfl | rfl <;> exact ⟨by decide, by decide⟩
              have rok2 : ROk (.tuple ((vals r gs).map .int)) := row_ok wsm (by omega)
              refine ⟨t19, _, rfl, .tup ht19 (ints_dp _), rok2.show_, rok2.dict, rok2.deep, rok2.long, ?_⟩
              have h19 := s19 _ _ h18
              refine ⟨_, rfl, l5, _, rfl, .inl ⟨SqL.of h19, fun t20 nt20 => ?_⟩⟩
              refine ⟨t20, _, rfl, .tup (SqT.of upd_same) (ints_dp _), rok2.show_, rok2.dict, rok2.deep, rok2.long, rfl, _, rfl, iteNS rfl ?_⟩
              have s20 := same_new (u := .tup ((vals r gs).map V.int)) nt20
              have h20 := s20 _ _ h19
              have P20 := P18.same (s19.trans s20)
              have B20 : But p H14 (upd H19 t20 (.tup ((vals r gs).map V.int))) := fun b o e ne => (s19.trans s20) _ _ (B18 _ _ ((s16.trans (s6.trans s7)) _ _ (B15 _ _ e ne)) ne)
              generalize upd H19 t20 (.tup ((vals r gs).map V.int)) = H20 at h20 P20 B20 ⊢
              have lmap : ((vals r gs).map V.int).length = (vals r gs).length := List.length_map ..
              generalize vals r gs = W at h20 v01 vlen wsm lmap ⊢
              clear rok2 s20 nt20 h19 ht19 s19 g18 h18 sq hv B18 P18 P17 s7 s6 nl6 nl7 h16
              refine ⟨_, rfl, _, _, rfl, .inl (SqL.of h20), _, _, rfl, rfl, .inl ⟨by decide, by decide⟩, _, rfl, by omega, by omega, fun D1 nD1 => ?_⟩
              refine lc_range (lo := 0) (fun k H => Same H20 H ∧ H D1 = some (.lst (((List.range k).map fun (e : Nat) => lit W (0 + (e : Int))).map V.int))) ⟨same_new nD1, upd_same⟩ ?_ ?_
              · rintro k H21 hk ⟨s21, h21⟩
                have hk2 : ((0 + (k : Int)) / 2).toNat < W.length := by omega
                refine ⟨rfl, yes_of ?_⟩
                refine ⟨_, rfl, l5, _, rfl, .inl ⟨SqL.of (s21 _ _ h20), fun t nt => ?_⟩⟩
                have st := same_new (u := .tup (W.map V.int)) nt
                refine ⟨_, rfl, t, _, 0 + (k : Int), _, rfl, SqT.of upd_same, by omega, getD_of hk2, .inr ⟨_, rfl, getD_01 v01 _, ?_⟩⟩
                refine ⟨_, st _ _ h21, ?_, fun b o e => ?_, ?_⟩
                · rw [List.length_map, List.length_map, List.length_range]
                  exact Nat.lt_trans hk (Nat.lt_of_lt_of_le (by omega : (2 * (((W.map V.int).length : Nat) : Int)).toNat < 1000) (by decide))
                · rw [upd_ne (ne_of_none e nD1)]
                  exact st _ _ (s21 _ _ e)
                · rw [upd_same, List.range_succ, List.map_append, List.map_append]
                  rfl
              · rintro H21 ⟨s21, h21⟩
                have h20' := s21 _ _ h20
                refine ⟨_, rfl, _, _, rfl, .inl (SqL.of h20'), _, _, rfl, rfl, .inl ⟨by decide, by decide⟩, _, rfl, by omega, by omega, fun D2 nD2 => ?_⟩
                refine lc_range (lo := 0) (fun k H => Same H21 H ∧ H D2 = some (.lst (((List.range k).map fun (e : Nat) => lit W (0 + (e : Int))).map V.int))) ⟨same_new nD2, upd_same⟩ ?_ ?_
                · rintro k H22 hk ⟨s22, h22⟩
                  have hk2 : ((0 + (k : Int)) / 2).toNat < W.length := by omega
                  refine ⟨rfl, yes_of ?_⟩
                  refine ⟨_, rfl, _, rfl, l5, W, 0 + (k : Int), rfl, SqL.of (s22 _ _ h20'), by omega, hk2, ?_⟩
                  refine ⟨_, h22, ?_, fun b o e => ?_, ?_⟩
                  · rw [List.length_map, List.length_map, List.length_range]
                    exact Nat.lt_trans hk (Nat.lt_of_lt_of_le (by omega : (2 * (((W.map V.int).length : Nat) : Int)).toNat < 1000) (by decide))
                  · rw [upd_ne (ne_of_none e nD2)]
                    exact s22 _ _ e
                  · rw [upd_same, List.range_succ, List.map_append, List.map_append]
                    rfl
                · rintro H22 ⟨s22, h22⟩
                  have hsmall : ∀ z ∈ ((List.range (2 * (((W.map V.int).length : Nat) : Int)).toNat).map fun (e : Nat) => lit W (0 + (e : Int))), Small z := fun z hz => by
                    obtain ⟨e, _, rfl⟩ := List.mem_map.mp hz
                    rcases lit_01 v01 (0 + (e : Int)) with q | q <;> rw [q] <;> exact ⟨by decide, by decide⟩
                  have sh := (shaped_ints hsmall).1
                  refine ⟨_, _, .lst (SqL.of (s22 _ _ h21)) (ints_dp _), .lst (SqL.of h22) (ints_dp _), sh, sh, _, rfl, ?_⟩
                  rw [SeqAt.eqv_refl _ (SeqAt.canLay_of_shaped sh)]
                  refine iteF ?_
                  exact ⟨_, _, rfl, (P20.same (s21.trans s22)).more (by omega), fun b o e ne => (s21.trans s22) _ _ (B20 _ _ e ne)⟩
            · rintro σ H15 ⟨y7, y8, rfl, P15, B15⟩
              exact ⟨_, _, _, _, _, _, _, rfl, P15.more (by omega)⟩
    · rintro σ H2 ⟨x2, x3, x4, x5, x6, x7, x8, rfl, P2⟩
      refine ⟨6, rfl, by decide, by decide, fun D nD => ?_⟩
      refine lc_range (lo := 0) (n := 6) (fun k H => Same H2 H ∧ H D = some (.lst (([.int 0, .int 1, .non, .non, .int 1, .int 0] : List V).take k))) ⟨same_new nD, upd_same⟩ ?_ ?_
      · rintro k H3 hk ⟨s3, h3⟩
        refine ⟨rfl, yes_of ?_⟩
        refine ⟨(by show 3 ≤ sizeLine; decide), fun t nt => ?_⟩
        have st := same_new (u := .tup [V.int 0, V.non, V.int 1]) nt
        have fin : ∀ v : V, ([.int 0, .int 1, .non, .non, .int 1, .int 0] : List V)[k]? = some v → ∃ acc, (upd H3 t (.tup [V.int 0, V.non, V.int 1])) D = some (.lst acc) ∧ acc.length < sizeLine ∧ Same H2 (upd (upd H3 t (.tup [V.int 0, V.non, V.int 1])) D (.lst (acc ++ [v]))) ∧
            (upd (upd H3 t (.tup [V.int 0, V.non, V.int 1])) D (.lst (acc ++ [v]))) D = some (.lst (([.int 0, .int 1, .non, .non, .int 1, .int 0] : List V).take (k + 1))) := fun v hv => by
          refine ⟨_, st _ _ h3, ?_, fun b o e => ?_, ?_⟩
          · rw [List.length_take]
            exact Nat.lt_of_le_of_lt (Nat.min_le_right _ _) (by decide)
          · rw [upd_ne (ne_of_none e nD)]
            exact st _ _ (s3 _ _ e)
          · rw [upd_same, take_more hv]
        refine ⟨_, rfl, t, _, 0 + (k : Int), ([.int 0, .non, .int 1] : List V).getD ((0 + (k : Int)) / 2).toNat .non, rfl, SqT.of upd_same, by omega, ?_, ?_⟩
        · match k, hk with
          | 0, _ | 1, _ | 2, _ | 3, _ | 4, _ | 5, _ => rfl
        · match k, hk, fin with
          | 0, _, fin => exact .inr ⟨0, rfl, .inl rfl, fin (.int 0) rfl⟩
          | 1, _, fin => exact .inr ⟨0, rfl, .inl rfl, fin (.int 1) rfl⟩
          | 2, _, fin => exact .inl ⟨rfl, fin .non rfl⟩
          | 3, _, fin => exact .inl ⟨rfl, fin .non rfl⟩
          | 4, _, fin => exact .inr ⟨1, rfl, .inr rfl, fin (.int 1) rfl⟩
          | 5, _, fin => exact .inr ⟨1, rfl, .inr rfl, fin (.int 0) rfl⟩
      · rintro H3 ⟨s3, h3⟩
        refine ⟨(by show 6 ≤ sizeLine; decide), fun l nl => ?_⟩
        have sl := same_new (u := .lst [V.int 0, V.int 1, V.non, V.non, V.int 1, V.int 0]) nl
        have da : ∀ H, DpAll K H [V.int 0, V.int 1, V.non, V.non, V.int 1, V.int 0] [.int 0, .int 1, .none, .none, .int 1, .int 0] := fun H => .cons (.int 0) (.cons (.int 1) (.cons .non (.cons .non (.cons (.int 1) (.cons (.int 0) .nil)))))
        exact ⟨_, _, .lst (SqL.of (sl _ _ h3)) (da _), .lst (SqL.of upd_same) (da _), (by decide +kernel), (by decide +kernel), q _⟩
end
end Lw
namespace E15
open PySem PySem.Spec PyProof.Rows L2 Pen Dat Ki Fi Gr No Lf Rp Gd Lw He
def ds_is_between : DefD := ⟨("is_between", none), "is_between", "is_between", defArgs sBetween, defBody sBetween, defScope sBetween, [], []⟩
def ds_is_from : DefD := ⟨("is_from", none), "is_from", "is_from", defArgs sFrom, defBody sFrom, defScope sFrom, [], []⟩
def ds_is_row : DefD := ⟨("is_row", none), "is_row", "is_row", defArgs sRow, defBody sRow, defScope sRow, [], []⟩
def ds_is_row_between : DefD := ⟨("is_row_between", none), "is_row_between", "is_row_between", defArgs sRowB, defBody sRowB, defScope sRowB, [], []⟩
def ds_need_leaves : DefD := ⟨("need_leaves", none), "need_leaves", "need_leaves", defArgs sNeed, defBody sNeed, defScope sNeed, [], []⟩
def ds_are_gates : DefD := ⟨("are_gates", none), "are_gates", "are_gates", defArgs sGates, defBody sGates, defScope sGates, [], []⟩
def ds_node_values : DefD := ⟨("node_values", none), "node_values", "node_values", defArgs sNode, defBody sNode, defScope sNode, [], []⟩
def ds_literal_value : DefD := ⟨("literal_value", none), "literal_value", "literal_value", defArgs sLit, defBody sLit, defScope sLit, [], []⟩
def ds__law_pen : DefD := ⟨("_law_pen", none), "_law_pen", "_law_pen", defArgs sPen, defBody sPen, defScope sPen, [], []⟩
def ds__law_draw : DefD := ⟨("_law_draw", none), "_law_draw", "_law_draw", defArgs sDraw, defBody sDraw, defScope sDraw, [], []⟩
def ds__law_pick : DefD := ⟨("_law_pick", none), "_law_pick", "_law_pick", defArgs sPick, defBody sPick, defScope sPick, [], []⟩
def ds__law_drawn_gates : DefD := ⟨("_law_drawn_gates", none), "_law_drawn_gates", "_law_drawn_gates", defArgs sDrawn, defBody sDrawn, defScope sDrawn, [], []⟩
def ds__law_values : DefD := ⟨("_law_values", none), "_law_values", "_law_values", defArgs sValues, defBody sValues, defScope sValues, [], []⟩
def ds__law_bit : DefD := ⟨("_law_bit", none), "_law_bit", "_law_bit", defArgs sBit, defBody sBit, defScope sBit, [], []⟩
def ds__law_longer : DefD := ⟨("_law_longer", none), "_law_longer", "_law_longer", defArgs sLonger, defBody sLonger, defScope sLonger, [], []⟩
def ds__law_rows : DefD := ⟨("_law_rows", none), "_law_rows", "_law_rows", defArgs sRows, defBody sRows, defScope sRows, [], []⟩
def ds_law : DefD := ⟨("law", none), "law", "law", defArgs sLaw, defBody sLaw, defScope sLaw, [], []⟩
def di_Graph__init__ : DefD := ⟨("Graph", some "__init__"), "__init__", "Graph.__init__", defArgs sInit, defBody sInit, defScope sInit, [], []⟩
def di_Graph__eq__ : DefD := ⟨("Graph", some "__eq__"), "__eq__", "Graph.__eq__", defArgs sEq, defBody sEq, defScope sEq, [], []⟩
def fn : List DefD := [ds_is_between, ds_is_from, ds_is_row, ds_is_row_between, ds_need_leaves, ds_are_gates, ds_node_values, ds_literal_value, ds__law_pen, ds__law_draw, ds__law_pick, ds__law_drawn_gates, ds__law_values, ds__law_bit, ds__law_longer, ds__law_rows, ds_law, di_Graph__init__, di_Graph__eq__]
def fa : List Fa := [.glo "is_between", .glo "is_from", .glo "is_row", .glo "is_row_between", .glo "need_leaves", .glo "are_gates", .glo "node_values", .glo "literal_value", .glo "_law_pen", .glo "_law_draw", .glo "_law_pick", .glo "_law_drawn_gates", .glo "_law_values", .glo "_law_bit", .glo "_law_longer", .glo "_law_rows", .glo "law", .glo "Graph", .free "isinstance", .free "int", .free "bool", .free "tuple", .free "list", .free "len", .free "all", .free "abs", .free "range", .free "repr", .cls "Graph", .noat "Graph" "leaves", .noat "Graph" "gates", .mkr "Graph", .meth "Graph" "__eq__"]
abbrev gr (K : PySem.W.Frag) : Addr := ga K "Graph"
def exB (K : PySem.W.Frag) : Bool :=
  decide (PySem.W.findIn K (.ref (gr K)) "__class__" = some (some (.builtin "object.__class__"))) && (decide (PySem.W.specialIn K (.builtin "object.__class__") "__get__" = some (some (.builtin "getset_descriptor.__get__"))) &&
  (decide (PySem.W.takesIn K (.builtin "object.__class__") = some true) && (decide (PySem.W.mroIn K (gr K) (.type "object") = some true) && (decide (PySem.W.kitOne K (.ref (gr K)) (.ref (gr K)) = some true) &&
  (decide (PySem.W.kitOne K (.type "tuple") (.ref (gr K)) = some false) && decide (PySem.W.subIn K (.type "tuple") (.ref (gr K)) = some false))))))
abbrev R : PySem.W.OpenRow := PySem.W.OpenLaw.row PySem.Challenge.rw_everycycle_k15_whole_graphs
abbrev hk : PySem.W.Hook := hookX 6 fa fn [] [] exB
def ob (s : PySem.W.SharedT) : AlX := obsX 6 fa fn [] [] exB (HandSHeadRun.getT s)
theorem ob_eq (s : PySem.W.SharedT) : ob s = hk.obs s.abs := obsX_eq (HandSHeadRun.getT_eq s)
theorem run (w : World) : HandSHeadRun.RunEq R (PySem.W.view R.prog [24]) hk ob 4000 ["CycleError", "BadNumber", "BadRow", "is_between", "is_from", "is_row", "is_row_between", "Graph", "need_leaves", "are_gates", "node_values", "literal_value", "_law_pen", "_law_draw", "_law_pick", "_law_drawn_gates", "_law_values", "_law_bit", "_law_longer", "_law_rows"] w := by
  intro os
  kernel_rfl
theorem and2 {a b : Bool} (h : (a && b) = true) : a = true ∧ b = true := Bool.and_eq_true_iff.mp h
theorem facts {P : Program} {w : World} {K : PySem.W.Frag} {h : Heap} {mg : Str → Option Value} {f : Addr} (X : K.In h) (G : h.Ns mainGlobals mg) (hfa : mg ("law" : Str) = some (.ref f)) (c : SaysX fa fn [] [] exB w h K) :
    ∃ fd : FuncData, (∀ (s : Shared) (v : Value), BindsTo s fd ⟨[v], []⟩ [("_law_script", v)]) ∧ ∀ base : Heap, K.In base → base.Ns mainGlobals mg → FnG P w K mg base CX0 6 f fd ["_law_script"] (spLaw K) := by
  have cd := c.t.d
  obtain ⟨fd0, F0⟩ := cd.def_ 0 (d := ds_is_between) rfl
  obtain ⟨fd1, F1⟩ := cd.def_ 1 (d := ds_is_from) rfl
  obtain ⟨fd2, F2⟩ := cd.def_ 2 (d := ds_is_row) rfl
  obtain ⟨fd3, F3⟩ := cd.def_ 3 (d := ds_is_row_between) rfl
  obtain ⟨fd4, F4⟩ := cd.def_ 4 (d := ds_need_leaves) rfl
  obtain ⟨fd5, F5⟩ := cd.def_ 5 (d := ds_are_gates) rfl
  obtain ⟨fd6, F6⟩ := cd.def_ 6 (d := ds_node_values) rfl
  obtain ⟨fd7, F7⟩ := cd.def_ 7 (d := ds_literal_value) rfl
  obtain ⟨fd8, F8⟩ := cd.def_ 8 (d := ds__law_pen) rfl
  obtain ⟨fd9, F9⟩ := cd.def_ 9 (d := ds__law_draw) rfl
  obtain ⟨fd10, F10⟩ := cd.def_ 10 (d := ds__law_pick) rfl
  obtain ⟨fd11, F11⟩ := cd.def_ 11 (d := ds__law_drawn_gates) rfl
  obtain ⟨fd12, F12⟩ := cd.def_ 12 (d := ds__law_values) rfl
  obtain ⟨fd13, F13⟩ := cd.def_ 13 (d := ds__law_bit) rfl
  obtain ⟨fd14, F14⟩ := cd.def_ 14 (d := ds__law_longer) rfl
  obtain ⟨fd15, F15⟩ := cd.def_ 15 (d := ds__law_rows) rfl
  obtain ⟨fd16, F16⟩ := cd.def_ 16 (d := ds_law) rfl
  obtain ⟨fd17, F17⟩ := cd.def_ 17 (d := di_Graph__init__) rfl
  obtain ⟨fd18, F18⟩ := cd.def_ 18 (d := di_Graph__eq__) rfl
  have glo : ∀ i x, fa[i]? = some (Fa.glo x) → mg x = some (.ref (ga K x)) := fun i x e => glo_ok X G (cd.fact i e)
  have fre : ∀ i x, fa[i]? = some (Fa.free x) → mg x = none := fun i x e => free_ok X G (cd.fact i e)
  have e := hfa.symm.trans (glo 16 "law" rfl)
  cases e
  have b0 : Binds K fd0 ["value", "least", "most"] [] := F0.bindsN fun _ _ _ _ _ _ us hl => match us, hl with | [_, _, _], _ => rfl
  have b1 : Binds K fd1 ["value", "least"] [] := F1.bindsN fun _ _ _ _ _ _ us hl => match us, hl with | [_, _], _ => rfl
  have b2 : Binds K fd2 ["value"] [] := F2.bindsN fun _ _ _ _ _ _ us hl => match us, hl with | [_], _ => rfl
  have b3 : Binds K fd3 ["value", "many", "least", "most"] [] := F3.bindsN fun _ _ _ _ _ _ us hl => match us, hl with | [_, _, _, _], _ => rfl
  have b4 : Binds K fd4 ["leaves"] [] := F4.bindsN fun _ _ _ _ _ _ us hl => match us, hl with | [_], _ => rfl
  have b5 : Binds K fd5 ["leaves", "value"] [] := F5.bindsN fun _ _ _ _ _ _ us hl => match us, hl with | [_, _], _ => rfl
  have b6 : Binds K fd6 ["graph", "bits"] [] := F6.bindsN fun _ _ _ _ _ _ us hl => match us, hl with | [_, _], _ => rfl
  have b7 : Binds K fd7 ["found", "literal"] [] := F7.bindsN fun _ _ _ _ _ _ us hl => match us, hl with | [_, _], _ => rfl
  have b8 : Binds K fd8 ["_law_script"] [] := F8.bindsN fun _ _ _ _ _ _ us hl => match us, hl with | [_], _ => rfl
  have b9 : Binds K fd9 ["_law_pen_here", "_law_many"] [] := F9.bindsN fun _ _ _ _ _ _ us hl => match us, hl with | [_, _], _ => rfl
  have b10 : Binds K fd10 ["_law_pen_here", "_law_some"] [] := F10.bindsN fun _ _ _ _ _ _ us hl => match us, hl with | [_, _], _ => rfl
  have b11 : Binds K fd11 ["_law_pen_here", "_law_leaves", "_law_many"] [] := F11.bindsN fun _ _ _ _ _ _ us hl => match us, hl with | [_, _, _], _ => rfl
  have b12 : Binds K fd12 ["_law_leaves", "_law_gates", "_law_bits"] [] := F12.bindsN fun _ _ _ _ _ _ us hl => match us, hl with | [_, _, _], _ => rfl
  have b13 : Binds K fd13 ["_law_found", "_law_literal"] [] := F13.bindsN fun _ _ _ _ _ _ us hl => match us, hl with | [_, _], _ => rfl
  have b14 : Binds K fd14 ["_law_rows_here", "_law_many"] [] := F14.bindsN fun _ _ _ _ _ _ us hl => match us, hl with | [_, _], _ => rfl
  have b15 : Binds K fd15 ["_law_many"] [] := F15.bindsN fun _ _ _ _ _ _ us hl => match us, hl with | [_], _ => rfl
  have b17 : Binds K fd17 ["self", "leaves", "gates"] [] := F17.bindsN fun _ _ _ _ _ _ us hl => match us, hl with | [_, _, _], _ => rfl
  have b18 : Binds K fd18 ["self", "other"] [] := F18.bindsN fun _ _ _ _ _ _ us hl => match us, hl with | [_, _], _ => rfl
  have b := FunD.bindsA (ps := ["_law_script"]) F16 fun _ _ _ _ _ _ us hl => match us, hl with | [_], _ => rfl
  have g0 := glo 0 "is_between" rfl
  have g1 := glo 1 "is_from" rfl
  have g2 := glo 2 "is_row" rfl
  have g3 := glo 3 "is_row_between" rfl
  have g4 := glo 4 "need_leaves" rfl
  have g5 := glo 5 "are_gates" rfl
  have g6 := glo 6 "node_values" rfl
  have g7 := glo 7 "literal_value" rfl
  have g8 := glo 8 "_law_pen" rfl
  have g9 := glo 9 "_law_draw" rfl
  have g10 := glo 10 "_law_pick" rfl
  have g11 := glo 11 "_law_drawn_gates" rfl
  have g12 := glo 12 "_law_values" rfl
  have g13 := glo 13 "_law_bit" rfl
  have g14 := glo 14 "_law_longer" rfl
  have g15 := glo 15 "_law_rows" rfl
  have g16 := glo 16 "law" rfl
  have ki : Ki.Tx mg := ⟨fre 18 "isinstance" rfl, fre 19 "int" rfl, fre 20 "bool" rfl, fre 21 "tuple" rfl, fre 22 "list" rfl, fre 23 "len" rfl, fre 24 "all" rfl⟩
  have pt : Pen.Txt mg := ⟨fre 23 "len" rfl, fre 19 "int" rfl, fre 22 "list" rfl⟩
  have lf : Lf.Tx mg := ⟨pt, fre 25 "abs" rfl, fre 26 "range" rfl, fre 21 "tuple" rfl⟩
  obtain ⟨e1, r1⟩ := and2 c.more
  obtain ⟨e2, r2⟩ := and2 r1
  obtain ⟨e3, r3⟩ := and2 r2
  obtain ⟨e4, r4⟩ := and2 r3
  obtain ⟨e5, r5⟩ := and2 r4
  obtain ⟨e6, e7⟩ := and2 r5
  have cl := cls_ok (cd.fact 28 (f := .cls "Graph") rfl)
  have me := meth_ok (cd.fact 32 (f := .meth "Graph" "__eq__") rfl)
  have mk := mkr_ok (cd.fact 31 (f := .mkr "Graph") rfl)
  have tg : Gr.Tx K mg (gr K) := ⟨ki, cl, noat_ok (cd.fact 29 (f := .noat "Graph" "leaves") rfl), noat_ok (cd.fact 30 (f := .noat "Graph" "gates") rfl), glo 17 "Graph" rfl, of_decide_eq_true e1, of_decide_eq_true e2, of_decide_eq_true e3,
    fun e => .ins e cl (of_decide_eq_true e1) (of_decide_eq_true e2) (of_decide_eq_true e3) (of_decide_eq_true e4), of_decide_eq_true e5, of_decide_eq_true e6⟩
  have T : Lw.Tx K mg (gr K) (ma K (gr K) "__eq__") := ⟨tg, lf, fre 27 "repr" rfl, me.at_, me.fn, of_decide_eq_true e7⟩
  refine ⟨fd16, fun s v => b s [v] rfl, fun base _ _ => ?_⟩
  have GRB : FnOk P w K mg base CX0 2 _ _ _ (spRowB K) := ok_rowB F3 ki F0 g0 F2 g2
  have GNe : FnOk P w K mg base CX0 2 _ _ _ spNeed := ok_need F4 ki F1 g1
  have GGa : FnOk P w K mg base CX0 3 _ _ _ (spGates K) := ok_gates F5 ki F2 g2 F3 g3 F0 g0
  have GIn : FnOk P w K mg base CX0 4 _ _ _ (spInit K (gr K)) := ok_init F17 tg GNe g4 F4.kp b4 GGa g5 F5.kp b5
  have GEq : FnOk P w K mg base CX0 1 _ _ _ (spEqG K (gr K)) := ok_eq F18 tg
  exact ok_law F16 T mk GIn b17 GEq b18 (ok_pen F8 pt) g8 F8.kp b8 (ok_draw F9 pt) g9 F9.kp b9 (ok_drawn F11 lf F9 g9) g11 F11.kp b11 (ok_pick F10 pt F9 g9) g10 F10.kp b10
    (ok_values F12 lf F13 g13) g12 F12.kp b12 (ok_node F6 tg GRB g3 F3.kp b3) g6 F6.kp b6 (ok_lit F7) g7 F7.kp b7 (ok_bit F13 lf) g13 F13.kp b13 (ok_rows F15 lf F14 g14) g15 F15.kp b15
end E15
open PySem PySem.W PySem.Calls PyProof.Rows
theorem PySem.Challenge.cw_everycycle_k15_whole_graphs_holds : PySem.Challenge.rw_everycycle_k15_whole_graphs.Holds := by
  w_on; o_law
  refine HandSHeadRun.head_any (r := OpenLaw.row PySem.Challenge.rw_everycycle_k15_whole_graphs) (q := view (OpenLaw.row PySem.Challenge.rw_everycycle_k15_whole_graphs).prog [24]) (H := E15.hk) (ob := E15.ob) (M := 4000) (loose := ["CycleError", "BadNumber", "BadRow", "is_between", "is_from", "is_row", "is_row_between", "Graph", "need_leaves", "are_gates", "node_values", "literal_value", "_law_pen", "_law_draw", "_law_pick", "_law_drawn_gates", "_law_values", "_law_bit", "_law_longer", "_law_rows"]) (d := HandSHeadRun.topDef (OpenLaw.row PySem.Challenge.rw_everycycle_k15_whole_graphs).prog 24) (kwd := []) E15.ob_eq
    (by kernel_rfl) (fun s => by kernel_rfl) E15.run (by kernel_rfl) (by kernel_rfl) (by kernel_rfl) (by rfl) (by first | assumption | decide +kernel) (by decide +kernel) ⟨rfl, rfl, rfl, rfl, rfl, by decide +kernel⟩ ?hw ?hc
  case hw => w_witness2
  case hc =>
    refine Gd.walk_go (l := PySem.Challenge.rw_everycycle_k15_whole_graphs) (n := 63) (k := 6) (x := "_law_script") (CX := L2.CX0) rfl (by decide) (by kernel_rfl) ⟨rfl, by decide, by decide⟩ ?F (fun _ _ _ _ z => z)
    intro w mg fa h Y G hmg0
    obtain ⟨K, KX, c⟩ := Y
    have hmg : mg ("law" : PySem.Str) = some (.ref fa) := by
      have e : (HandSHeadRun.topDef (OpenLaw.row PySem.Challenge.rw_everycycle_k15_whole_graphs).prog 24).name = ("law" : PySem.Str) := by kernel_rfl
      rw [← e]
      exact hmg0
    obtain ⟨fd, hb, hF⟩ := E15.facts (P := (PySem.Challenge.rw_everycycle_k15_whole_graphs).prog) (w := w) KX G hmg c
    exact ⟨K, fd, Lw.spLaw K, KX, hb, fun H a ns hl _ hS => ⟨a, ns, rfl, hS, hl, fun _ => rfl⟩, hF⟩
