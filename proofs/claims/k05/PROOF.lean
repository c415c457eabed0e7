import PyProof.Rows.All
import Wide.All
import OpenK.AllK
import Wide.FinOn
import Lean
import HandS.ForMost
import HandS.Codes
import HandS.Defaults
import HandS.Wide
import HandS.DeepEq
import HandS.Exc
import HandS.ExcInit
import HandS.ExcValue
import HandS.IsInst
import HandS.TupAny
import HandS.OwnEq
import HandS.Star
import HandS.SortInts
import HandS.Conv
import HandS.Style
import HandS.Head0
import HandS.Head1
import HandS.Head2
import HandS.HeadEnd
import HandS.HeadHook1
import HandS.HeadHook2
import HandS.HeadHook3
import HandS.HeadHook4
import HandS.ExcIs
import HandS.ExcField
import KE.KExcIs
import KE.GoesEnum
import HandS.NoneIn
import PySem.Challenge.RW_everycycle_k05_whole_words_of_expression
import PyProof.SliceList
import PyProof.SliceSyntax
import PyProof.DelItemList
import PyProof.RulesDelMore
import HandS.Flow
import HandS.Deep
import HandS.Walk
import HandS.Small
import HandS.Conv
import HandS.CallLocal
import HandS.More
import HandS.WideBits
import PyProof.DictFindH
import PyProof.DictRoadsH
import PyProof.TupleKey
import PyProof.EqKinds
import HandS.Dict
import HandS.Wide
import HandS.EndTab
set_option Elab.async false
set_option linter.all false
set_option maxRecDepth 100000
set_option maxHeartbeats 4000000
set_option pp.maxSteps 800
namespace Dat
open PySem PySem.Spec PyProof.Rows L2
/-! ## Data of any depth: its kind, and that it stays -/
def isIntD : PyData → Bool
  | .int _ => true
  | .bool _ => true
  | _ => false
def isBoolD : PyData → Bool
  | .bool _ => true
  | _ => false
def isRowD : PyData → Bool
  | .list _ => true
  | .tuple _ => true
  | _ => false
def clsD : PyData → String
  | .none => "NoneType"
  | .bool _ => "bool"
  | .int _ => "int"
  | .str _ => "str"
  | .list _ => "list"
  | .tuple _ => "tuple"
  | .dict _ => "dict"
section
variable {K : PySem.W.Frag} {H H' : Hp} {v : V} {d : PyData}
theorem ty_list {a : Addr} {xs : List V} (h : SqL K H a xs) : TyX K H (.ref a) (.type "list") := by
  rcases h with (h | ⟨o, h⟩) | ⟨o, its, n, h1, h2, _⟩
  · exact .base (.lst h)
  · exact .base (.frz h)
  · exact .kList h1 h2
theorem ty_tup {a : Addr} {xs : List V} (h : SqT K H a xs) : TyX K H (.ref a) (.type "tuple") := by
  rcases h with (h | ⟨o, h⟩) | ⟨o, its, n, h1, h2, _⟩
  · exact .base (.tup h)
  · exact .fTuple h
  · exact .kTuple h1 h2
theorem ty_of (h : Dp K H v d) : TyX K H v (.type (clsD d)) := by
  cases h with
  | non => exact .base .non
  | bl b => exact .base (.bl b)
  | int i => exact .base (.int i)
  | str x => exact .base (.str x)
  | lst hs _ => exact ty_list hs
  | tup hs _ => exact ty_tup hs
theorem kit_int (h : Dp K H v d) : PySem.W.kitOne K (.type (clsD d)) (.type "int") = some (isIntD d) := by
  cases h with
  | non => exact kit_ty (a := "NoneType") (b := "int") (r := false) (by decide +kernel)
  | bl _ => exact kit_ty (a := "bool") (b := "int") (r := true) (by decide +kernel)
  | int _ => exact kit_ty (a := "int") (b := "int") (r := true) (by decide +kernel)
  | str _ => exact kit_ty (a := "str") (b := "int") (r := false) (by decide +kernel)
  | lst _ _ => exact kit_ty (a := "list") (b := "int") (r := false) (by decide +kernel)
  | tup _ _ => exact kit_ty (a := "tuple") (b := "int") (r := false) (by decide +kernel)
theorem kit_bool (h : Dp K H v d) : PySem.W.kitOne K (.type (clsD d)) (.type "bool") = some (isBoolD d) := by
  cases h with
  | non => exact kit_ty (a := "NoneType") (b := "bool") (r := false) (by decide +kernel)
  | bl _ => exact kit_ty (a := "bool") (b := "bool") (r := true) (by decide +kernel)
  | int _ => exact kit_ty (a := "int") (b := "bool") (r := false) (by decide +kernel)
  | str _ => exact kit_ty (a := "str") (b := "bool") (r := false) (by decide +kernel)
  | lst _ _ => exact kit_ty (a := "list") (b := "bool") (r := false) (by decide +kernel)
  | tup _ _ => exact kit_ty (a := "tuple") (b := "bool") (r := false) (by decide +kernel)
theorem kit_row (h : Dp K H v d) : PySem.W.kitAny K (.type (clsD d)) [.type "tuple", .type "list"] = some (isRowD d) := by
  cases h with
  | non => exact kitAny_cons (b := false) (kit_ty (a := "NoneType") (b := "tuple") (r := false) (by decide +kernel)) (fun _ => kitAny_cons (b := false) (kit_ty (a := "NoneType") (b := "list") (r := false) (by decide +kernel)) (fun _ => rfl) (fun z => by cases z)) (fun z => by cases z)
  | bl _ => exact kitAny_cons (b := false) (kit_ty (a := "bool") (b := "tuple") (r := false) (by decide +kernel)) (fun _ => kitAny_cons (b := false) (kit_ty (a := "bool") (b := "list") (r := false) (by decide +kernel)) (fun _ => rfl) (fun z => by cases z)) (fun z => by cases z)
  | int _ => exact kitAny_cons (b := false) (kit_ty (a := "int") (b := "tuple") (r := false) (by decide +kernel)) (fun _ => kitAny_cons (b := false) (kit_ty (a := "int") (b := "list") (r := false) (by decide +kernel)) (fun _ => rfl) (fun z => by cases z)) (fun z => by cases z)
  | str _ => exact kitAny_cons (b := false) (kit_ty (a := "str") (b := "tuple") (r := false) (by decide +kernel)) (fun _ => kitAny_cons (b := false) (kit_ty (a := "str") (b := "list") (r := false) (by decide +kernel)) (fun _ => rfl) (fun z => by cases z)) (fun z => by cases z)
  | lst _ _ => exact kitAny_cons (b := false) (kit_ty (a := "list") (b := "tuple") (r := false) (by decide +kernel)) (fun _ => kitAny_cons (b := true) (kit_ty (a := "list") (b := "list") (r := true) (by decide +kernel)) (fun z => by cases z) (fun _ => rfl)) (fun z => by cases z)
  | tup _ _ => exact kitAny_cons (b := true) (kit_ty (a := "tuple") (b := "tuple") (r := true) (by decide +kernel)) (fun z => by cases z) (fun _ => rfl)
theorem seqT_same {a : Addr} {xs : List V} (s : Same H H') (h : SqT K H a xs) : SqT K H' a xs :=
  h.elim (fun h => .inl (h.elim (fun h => .inl (s _ _ h)) fun ⟨o, h⟩ => .inr ⟨o, s _ _ h⟩)) .inr
mutual
theorem dp_same (s : Same H H') : ∀ {d : PyData} {v : V}, Dp K H v d → Dp K H' v d
  | .none, _, h => by
    cases h
    exact .non
  | .bool b, _, h => by
    cases h
    exact .bl b
  | .int i, _, h => by
    cases h
    exact .int i
  | .str x, _, h => by
    cases h
    exact .str x
  | .list ds, _, h => by
    cases h with
    | lst hs ha => exact .lst (s.seq hs) (dps_same s ha)
  | .tuple ds, _, h => by
    cases h with
    | tup hs ha => exact .tup (seqT_same s hs) (dps_same s ha)
  | .dict _, _, h => by cases h
theorem dps_same (s : Same H H') : ∀ {ds : List PyData} {vs : List V}, DpAll K H vs ds → DpAll K H' vs ds
  | [], _, h => by
    cases h
    exact .nil
  | d :: ds, _, h => by
    cases h with
    | cons h1 h2 => exact .cons (dp_same s h1) (dps_same s h2)
end
theorem dps_len : ∀ {vs : List V} {ds : List PyData}, DpAll K H vs ds → vs.length = ds.length
  | _, [], h => by
    cases h
    rfl
  | _, _ :: _, h => by
    cases h with
    | cons _ h2 => exact congrArg Nat.succ (dps_len h2)
theorem dps_get : ∀ {vs : List V} {ds : List PyData}, DpAll K H vs ds → ∀ {i : Nat} {v : V}, vs[i]? = some v → ∃ d, ds[i]? = some d ∧ Dp K H v d
  | _, [], h, i, v, e => by
    cases h
    simp at e
  | _, d :: ds, h, i, v, e => by
    cases h with
    | cons h1 h2 =>
      cases i with
      | zero =>
        simp at e
        subst e
        exact ⟨d, rfl, h1⟩
      | succ i =>
        simp at e
        obtain ⟨d', q1, q2⟩ := dps_get h2 e
        exact ⟨d', by simpa using q1, q2⟩
end
end Dat
namespace Gd
open PySem PySem.Spec PyProof.Rows L2
/-! ## What a def does where no repr is under way: the promise of FnOk, for such callers alone -/
structure FnG (P : Program) (w : World) (K : PySem.W.Frag) (mg : Str → Option Value) (base : Heap) (CX : CXT) (k : Nat) (f : Addr) (fd : FuncData) (ps : List Str) (sp : Sp) : Prop where
  many : ∀ vs H Q E, sp vs H Q E → vs.length = ps.length
  go : ∀ (A : Around) (fs : List Env) (s : Shared) (H : Hp) (ag : Args) (us : List Value) (vs : List V) (Q : VK) (E : XK), A.guards = some [] → Room k A → Env0 P w K mg base A fs s H →
    BindsTo s fd ag (ps.zip us) → Vals vs us → sp vs H Q E → codeAny (model P w) A (.call (.ref f) ag) (CR CX fs P w H s Q E) s
section
variable {P : Program} {w : World} {K : PySem.W.Frag} {mg : Str → Option Value} {base : Heap} {CX : CXT} {k : Nat} {f : Addr} {fd : FuncData} {ps : List Str} {sp : Sp}
theorem FnG.of (F : FnOk P w K mg base CX k f fd ps sp) : FnG P w K mg base CX k f fd ps sp := ⟨F.len, fun A fs s H ag us vs Q E _ => F.run A fs s H ag us vs Q E⟩
/-- from the def's body -/
theorem FnG.mk_of {x qual : Str} {params : Arguments} {body : List Stmt} {scope : Scope} {dvs : List V} {kws : List (Str × V)} {N : List Str}
    (F : FunD K x qual params body scope dvs kws f fd) (S : FnScope N ps scope) (many : ∀ vs H Q E, sp vs H Q E → vs.length = ps.length)
    (walk : ∀ (cv : Value) (A : Around) (fs : List Env) (s : Shared) (H : Hp) (vs : List V) (Q : VK) (E : XK), A.guards = some [] → Room k (A.deeper (envOfC qual scope s.heap.objs.size f cv)) → sp vs H Q E →
      ∃ t, PSs (cxOf CX P w K mg base N qual scope f cv A fs s H E) body t ∧ t { nx := fun _ H' => Q .non H', rt := Q } (start N vs) H) :
    FnG P w K mg base CX (k + 1) f fd ps sp := by
  obtain ⟨_, _, _, _, _, _, _, cv, _, _, rfl, look, code, _, _⟩ := F.ex
  refine ⟨many, fun A fs s H ag us vs Q E hg room e bind rel prom => ?_⟩
  have kin : K.In s.heap := e.mod.kin.keeps fun b u z => (e.bs b u z).1
  have kinds : ∀ y ∈ ps.zip us, scope.names.lookup y.1 = some .local ∨ (scope.names.lookup y.1 = some .cell ∧ ((cellsFrom (s.heap.objs.size + 1) scope.names []).lookup y.1).isSome = true) := by
    rintro ⟨y, u⟩ hy
    rcases S.par y (List.of_mem_zip hy).1 with q | q
    · exact Or.inl q
    · exact Or.inr ⟨q, PySem.W.cellsFrom_some _ _ _ (Or.inl q)⟩
  refine codeAny_call_function room.depth (kin _ _ look) rfl S.co S.gen rfl (PySem.W.codeRec_of kin code) (bind _ _ _ _ ?_)
  refine wpAny_newFunctionEnv_cells S.kind kinds ?_
  rintro env rfl s1 hs1
  refine ⟨(e.mod.nolimit.keeps fun b u z => (e.bs b u z).1).keeps hs1.toInCall.keep, codeAny_func ?_⟩
  obtain ⟨t, ht, q⟩ := walk cv A fs s H vs Q E hg (room.deeper _) prom
  have I := inv_start (CX := CX) (E := E) S room.hd e (many _ _ _ _ prom) rel hs1
  refine wpAny_mono (ht.run [] s1 (start N vs) H _ I q) (fun fl s2 z => ?_) (fun _ _ z => z)
  match fl, z with
  | .ret u, ⟨v, σ', H', J, rv, q⟩ => exact ⟨v, H', J.os, J.bare, J.base, J.hok, rv, q⟩
  | .next, ⟨σ', H', J, q⟩ => exact ⟨V.non, H', J.os, J.bare, J.base, J.hok, rfl, q⟩
  | .brk, ⟨_, _, _, q⟩ => exact q.elim
  | .cont, ⟨_, _, _, q⟩ => exact q.elim
end
/-- the script's object -/
abbrev scr (vs : List Value) : Obj := { cls := .type "list", data := .seq vs.toArray }
/-- the heap in which the script alone is tracked, if the top did not write it -/
def onlyScr (K : PySem.W.Frag) (a : Addr) (vs : List Value) (ns : List Int) : Hp := fun b => if b = a ∧ (K.lookup a).isNone = true then some (.frz (scr vs) (.lst (ns.map V.int))) else none
theorem onlyScr_get {K : PySem.W.Frag} {a b : Addr} {vs : List Value} {ns : List Int} {o : HO} (h : onlyScr K a vs ns b = some o) : b = a ∧ K.lookup a = none ∧ o = .frz (scr vs) (.lst (ns.map V.int)) := by
  unfold onlyScr at h
  split at h
  · rename_i c
    exact ⟨c.1, Option.isNone_iff_eq_none.mp c.2, (Option.some.inj h).symm⟩
  · cases h
/-- the law is called with its script -/
theorem law_go {P : Program} {w : World} {K : PySem.W.Frag} {mg mb : Str → Option Value} {CX : CXT} {k : Nat} {f a : Addr} {fd : FuncData} {x : Str} {sp : Sp} {s : Shared} {vs : List Value} {ns : List Int}
    (kin : K.In s.heap) (hm : s.heap.Ns mainGlobals mg) (hb : s.heap.Ns builtinsNs mb) (hbb : ∀ y : Str, y ≠ "__name__" → mb y = bootBuiltins y) (lim : s.heap.NoLimit) (hgen : s.gens = #[])
    (ha : s.heap.get? a = some (scr vs)) (hi : IntsAre vs ns) (hl : ns.length ≤ sizeLine) (hr : Room k callerA)
    (F : ∀ base : Heap, K.In base → base.Ns mainGlobals mg → FnG P w K mg base CX k f fd [x] sp) (bind : ∀ (s : Shared) (u : Value), BindsTo s fd ⟨[u], []⟩ [(x, u)])
    (prom : ∀ H : Hp, Only H → SqL K H a (ns.map V.int) → sp [.ref a] H (fun v _ => v = .bl true) fun _ _ _ => False)
    (none_out : ∀ H e s', CX [] H s (fun _ _ _ => False) e s' → False) :
    codeAny (model P w) callerA (.call (.ref f) ⟨[.ref a], []⟩) (fun r s' => r = .ok (.ret (.bool true)) ∧ OldK s.heap s'.heap ∧ s'.os = s.os ∧ AllBare s'.gens) s := by
  have hv := vals_ints hi
  have hlen := hi.length
  let H := onlyScr K a vs ns
  have gone : ∀ {b : Addr} {o : Obj}, K.lookup b = some o → H b = none := fun {b o} q => by
    cases e : H b with
    | none => rfl
    | some u =>
      obtain ⟨rfl, n, _⟩ := onlyScr_get e
      rw [n] at q
      cases q
  have ns_free : ∀ {b : Addr} {o : Obj} {es : Array DictEntry} {ep : Nat}, s.heap.get? b = some o → o.data = .dict es ep → H b = none := fun {b o es ep} q d => by
    cases e : H b with
    | none => rfl
    | some u =>
      obtain ⟨rfl, _, _⟩ := onlyScr_get e
      rw [ha] at q
      cases q
      cases d
  have stays : ∀ {b : Addr} {m : Str → Option Value}, s.heap.Ns b m → (hidT s.heap H).Ns b m := fun ⟨o, es, ep, q, d, r⟩ => ⟨o, es, ep, hidT_get q (ns_free q d), d, r⟩
  have kinT : K.In (hidT s.heap H) := fun b o q => hidT_get (kin b o q) (gone q)
  have hok : HOk P w H s.heap := fun b u q => by
    obtain ⟨rfl, _, rfl⟩ := onlyScr_get q
    exact ⟨ha, by rw [List.length_map]; exact hl, vs, _, hv, ha⟩
  have hO : Only H := fun b => by
    cases e : H b with
    | none => exact Or.inl rfl
    | some u =>
      obtain ⟨_, _, rfl⟩ := onlyScr_get e
      exact Or.inr ⟨_, _, rfl⟩
  have hS : SqL K H a (ns.map V.int) := by
    cases e : K.lookup a with
    | none => exact .inl (.inr ⟨scr vs, if_pos ⟨rfl, by rw [e]; rfl⟩⟩)
    | some o =>
      have q := kin a o e
      rw [ha] at q
      cases q
      exact .inr ⟨_, vs.toArray, _, e, rfl, rfl, rfl, by rw [List.size_toArray, hlen]; exact hl, by simpa using hv⟩
  obtain ⟨mc, l1, l2⟩ := lim
  have e0 : Env0 P w K mg (hidT s.heap H) callerA [] s H := by
    refine ⟨rfl, ⟨kinT, stays hm, ⟨mb, stays hb, hbb⟩, ⟨mc, stays l1, l2⟩⟩, fun b o q => of_hidT q, Nat.le_of_eq (hidT_size _ _), trivial, fun b q => ?_, hok, .of_eq hgen⟩
    cases q
  refine codeAny_mono ((F _ kinT (stays hm)).go callerA [] s H ⟨[.ref a], []⟩ [.ref a] [.ref a] _ _ rfl hr e0 (bind s (.ref a)) (.cons rfl .nil) (prom H hO hS)) fun r s' h => ?_
  match r, h with
  | .error e, h => exact (none_out H e s' h).elim
  | .ok .next, h => exact h.elim
  | .ok .brk, h => exact h.elim
  | .ok .cont, h => exact h.elim
  | .ok (.ret u), ⟨v, H', os, bare, un, hok', rv, q⟩ =>
    have q' : v = .bl true := q
    subst q'
    have hu : u = Value.bool true := rv
    subst hu
    refine ⟨rfl, OldK.of_keep fun b o z => ?_, os, bare⟩
    cases e : H b with
    | none => exact un.keep b o z e (by intro y; cases y) (by simp)
    | some t =>
      obtain ⟨rfl, _, rfl⟩ := onlyScr_get e
      rw [ha] at z
      cases z
      exact (hok' b _ (un.frzs b _ _ e)).1
/-- the end of a law -/
theorem walk_go {l : PySem.W.OpenLaw} {n k : Nat} {q : Program} {loose : List Str} {XP : (Str → Option Value) → Heap → Prop} {YP : World → Heap → Prop} {d : DefRec} {CX : CXT} {x : Str}
    (hn : l.most = some n) (hn2 : n ≤ sizeLine) (hdf : d.params.defaults = []) (hr : Room k callerA)
    (F : ∀ (w : World) (mg : Str → Option Value) (f : Addr) (h : Heap), YP w h → h.Ns mainGlobals mg → mg d.name = some (.ref f) → ∃ (K : PySem.W.Frag) (fd : FuncData) (sp : Sp), K.In h ∧ (∀ (s : Shared) (u : Value), BindsTo s fd ⟨[u], []⟩ [(x, u)]) ∧
      (∀ (H : Hp) (a : Addr) (ns : List Int), ns.length ≤ n → Only H → SqL K H a (ns.map V.int) → sp [.ref a] H (fun v _ => v = .bl true) fun _ _ _ => False) ∧ ∀ base : Heap, K.In base → base.Ns mainGlobals mg → FnG l.prog w K mg base CX k f fd [x] sp)
    (none_out : ∀ (H : Hp) (s : Shared) (e : Value) (s' : Shared), CX [] H s (fun _ _ _ => False) e s' → False) : PySem.W.WalkO q loose XP YP l.row.toRowW d [] (fun f vs => PySem.call f vs) :=
  Att.attach_call hn hdf fun w _ s _ _ f _ _ _ _ a _ ns G Y _ _ _ hmg hobj hints hlen hgen =>
    let ⟨_, _, _, kin, bind, prom, ok⟩ := F w _ f _ Y G.T.g hmg
    law_go kin G.T.g G.T.b G.T.builtins G.T.nolimit hgen hobj hints (Nat.le_trans hlen hn2) hr ok bind (fun H hO hS => prom H a ns hlen hO hS) fun H e s' => none_out H s e s'
/-! ## repr of data -/
section
variable {X : Cx}
/-- repr(x), x data of any depth but dicts -/
def rRepr (K : PySem.W.Frag) : List V → Hp → VK → Prop := fun xs H Q => ∃ (a : Addr) (d : PyData), xs = [.ref a] ∧ Dp K H (.ref a) d ∧ d.showable = true ∧ d.hasDict = false ∧ d.depth ≤ 60 ∧ d.shown.length ≤ sizeLine ∧ Q (.str d.shown) H
theorem call_repr {k : Nat} (hg : X.A.guards = some []) (hr : Room k X.A) : CallR X (.builtin "repr") (rRepr X.K) := by
  intro pins s σ H xs us Q I r h
  obtain ⟨a, d, rfl, hd, h1, h2, h3, h4, q⟩ := h
  obtain ⟨u, rfl, ru⟩ := vals1 r
  obtain ⟨as, rd⟩ := Dp.reads I d _ u hd ru
  have hu : u = Value.ref a := ru
  subst hu
  have room := hr.un
  refine repr_of_reads' rd h1 (fun z => by rw [h2] at z; cases z) hg (by omega) (fun _ _ e => e) (fun h' t tk hk => ?_) h4
  exact ⟨.str d.shown, H, I.kept hk, ⟨t, rfl⟩, q⟩
end
end Gd
namespace Gv
open PySem PySem.Spec PyProof.Rows L2
/-- repr(x), x any data but dicts -/
def rReprV (K : PySem.W.Frag) : List V → Hp → VK → Prop := fun xs H Q => ∃ (v : V) (d : PyData), xs = [v] ∧ Dp K H v d ∧ d.showable = true ∧ d.hasDict = false ∧ d.depth ≤ 60 ∧ d.shown.length ≤ sizeLine ∧ Q (.str d.shown) H
theorem call_reprV {X : Cx} {k : Nat} (hg : X.A.guards = some []) (hr : Room k X.A) : CallR X (.builtin "repr") (rReprV X.K) := by
  intro pins s σ H xs us Q I r h
  obtain ⟨v, d, rfl, hd, h1, h2, h3, h4, q⟩ := h
  cases hd with
  | lst a b => exact Gd.call_repr hg hr pins s σ H _ us Q I r ⟨_, _, rfl, .lst a b, h1, h2, h3, h4, q⟩
  | tup a b => exact Gd.call_repr hg hr pins s σ H _ us Q I r ⟨_, _, rfl, .tup a b, h1, h2, h3, h4, q⟩
  | non =>
    obtain ⟨u, rfl, ru⟩ := vals1 r
    have hu : u = Value.none := ru
    subst hu
    exact PySem.P.repr_of_none ⟨.str "None", H, I.tok _, ⟨_, rfl⟩, q⟩
  | bl b =>
    obtain ⟨u, rfl, ru⟩ := vals1 r
    have hu : u = Value.bool b := ru
    subst hu
    exact PySem.P.repr_of_bool ⟨.str _, H, I.tok _, ⟨_, rfl⟩, q⟩
  | int i =>
    obtain ⟨u, rfl, t, rfl⟩ := vals1 r
    exact PySem.P.repr_of_int (of_decide_eq_true h1) ⟨.str _, H, I.tok _, ⟨_, rfl⟩, q⟩
  | str x =>
    obtain ⟨u, rfl, t, rfl⟩ := vals1 r
    exact PySem.P.repr_of_str ⟨.str _, H, I.tok _, ⟨_, rfl⟩, q⟩ h4
end Gv
namespace Us
open PySem PySem.Spec PyProof.Rows L2
def rListOf (K : PySem.W.Frag) : List V → Hp → VK → Prop := fun xs H Q => ∃ p ys, xs = [V.ref p] ∧ (SqL K H p ys ∨ SqT K H p ys) ∧ ∀ l, H l = none → Q (.ref l) (upd H l (.lst ys))
/-- the block of a comprehension within a comprehension -/
theorem blkOk_in {N : List Str} {sc scopeO scope2 : Scope} {own : List (Str × Nat)} {cl : List (Str × Addr)} {C : Addr} {env : Env} (h : blkC N (relS scopeO sc) scope2 own = true) (e : env.scope = sc) : BlkOk N (compEnvC scopeO cl C env).scope scope2 own := by
  subst e
  exact blkOk_by h
section
variable {X : Cx} {K : PySem.W.Frag} {pos : Pos}
theorem pi_listK {tg l : Expr} {tl : TE} (hK : X.K = K) (hl : PE X l tl) : PI X tg l (iList K tl) := hK ▸ pi_list hl
theorem pi_tupK {tg l : Expr} {tl : TE} (hK : X.K = K) (hl : PE X l tl) : PI X tg l (iTup K tl) := hK ▸ pi_tup hl
theorem pg_tupK {es : List Expr} {k : Nat} {t : TGs} {n : Nat} (hK : X.K = K) (hc : X.calm = true) (h : PGs X es t)
    (hn : (assignEach es X.env).length = n := by rfl) (hst : (assignEach es X.env).findIdx? (·.1) = none := by rfl) : PG X (.Tuple es k pos) (gTup K n t) := hK ▸ pg_tup hc h hn hst
theorem pg_unlK {es : List Expr} {k : Nat} {t : TGs} {n : Nat} (hK : X.K = K) (hc : X.calm = true) (h : PGs X es t)
    (hn : (assignEach es X.env).length = n := by rfl) (hst : (assignEach es X.env).findIdx? (·.1) = none := by rfl) : PG X (.Tuple es k pos) (gUnl K n t) := hK ▸ pg_unl hc h hn hst
theorem pe_fldK {e : Expr} {f : Str} {ta : TE} (hK : X.K = K) (he : PE X e ta) (hb : attributeBase e f X.env (eval e X.env) = eval e X.env) : PE X (.Attribute e f pos) (tFld K ta f) := hK ▸ pe_fld he hb
end
end Us
namespace Pen
open PySem
def top (i : Nat) : Stmt := PySem.Challenge.pw_everycycle_k05_whole_words_of_expression.main.body.getD i (.Pass ⟨0, 0, 0, 0⟩)
abbrev sPartsOf : Stmt := top 3
abbrev sFromWithin : Stmt := top 4
abbrev sFolded : Stmt := top 5
abbrev sWithin : Stmt := top 7
abbrev sNotWord : Stmt := top 8
abbrev sMinusWord : Stmt := top 9
abbrev sAndWord : Stmt := top 10
abbrev sOrWord : Stmt := top 11
abbrev sXorWord : Stmt := top 12
abbrev sPlusWord : Stmt := top 13
abbrev sTimesWord : Stmt := top 14
abbrev sEqualWord : Stmt := top 15
abbrev sBelowWord : Stmt := top 16
abbrev sIfWord : Stmt := top 17
abbrev sLeftWord : Stmt := top 18
abbrev sRightWord : Stmt := top 19
abbrev sSliceWord : Stmt := top 20
abbrev sJoinWord : Stmt := top 21
abbrev sPartWord : Stmt := top 23
abbrev sWordOf : Stmt := top 25
abbrev sPen : Stmt := top 27
abbrev sDraw : Stmt := top 28
abbrev sPick : Stmt := top 29
abbrev sWhole : Stmt := top 30
abbrev sLWord : Stmt := top 31
abbrev sLBitwise : Stmt := top 32
abbrev sLDrawnExpression : Stmt := top 33
abbrev sLKnown : Stmt := top 34
abbrev sLSingleRight : Stmt := top 35
abbrev sLaw : Stmt := top 36
end Pen
namespace Pen
open PySem PySem.Spec PyProof.Rows L2
/-! ## The pen: the source of all draws. Its three defs, once for each law -/
abbrev FnP (K : PySem.W.Frag) (x : Str) (st : Stmt) (f : Addr) (fd : FuncData) : Prop := FunD K x x (defArgs st) (defBody st) (defScope st) [] [] f fd
/-- the pen's pairs: cells, at, digits, count, fold -/
def cols (c : Addr) (a d n f : Int) : List (Key × V) := [(.inr "cells", .ref c), (.inr "at", .int a), (.inr "digits", .int d), (.inr "count", .int n), (.inr "fold", .int f)]
section
variable {c : Addr} {a d n f z : Int}
theorem get_cells : valV (cols c a d n f) (.inr "cells" : Key) = some (.ref c) := by rfl
theorem get_at : valV (cols c a d n f) (.inr "at" : Key) = some (.int a) := by rfl
theorem get_digits : valV (cols c a d n f) (.inr "digits" : Key) = some (.int d) := by rfl
theorem get_count : valV (cols c a d n f) (.inr "count" : Key) = some (.int n) := by rfl
theorem get_fold : valV (cols c a d n f) (.inr "fold" : Key) = some (.int f) := by rfl
theorem put_at : putK (cols c a d n f) (.inr "at" : Key) (.int z) = cols c z d n f := by rfl
theorem put_digits : putK (cols c a d n f) (.inr "digits" : Key) (.int z) = cols c a z n f := by rfl
theorem put_count : putK (cols c a d n f) (.inr "count" : Key) (.int z) = cols c a d z f := by rfl
theorem put_fold : putK (cols c a d n f) (.inr "fold" : Key) (.int z) = cols c a d n z := by rfl
variable {H : Hp} {p : Addr}
theorem dg_cells (h : H p = some (.dK (cols c a d n f))) : DGet H p (.str "cells") (some (.ref c)) := DGet.k (k := .inr "cells") h
theorem dg_at (h : H p = some (.dK (cols c a d n f))) : DGet H p (.str "at") (some (.int a)) := DGet.k (k := .inr "at") h
theorem dg_digits (h : H p = some (.dK (cols c a d n f))) : DGet H p (.str "digits") (some (.int d)) := DGet.k (k := .inr "digits") h
theorem dg_count (h : H p = some (.dK (cols c a d n f))) : DGet H p (.str "count") (some (.int n)) := DGet.k (k := .inr "count") h
theorem dg_fold (h : H p = some (.dK (cols c a d n f))) : DGet H p (.str "fold") (some (.int f)) := DGet.k (k := .inr "fold") h
theorem five : 5 < sizeLine := by decide
theorem dp_at (h : H p = some (.dK (cols c a d n f))) : DPut H p (.str "at") (.int z) (upd H p (.dK (cols c z d n f))) := DPut.k (k := .inr "at") h five
theorem dp_digits (h : H p = some (.dK (cols c a d n f))) : DPut H p (.str "digits") (.int z) (upd H p (.dK (cols c a z n f))) := DPut.k (k := .inr "digits") h five
theorem dp_count (h : H p = some (.dK (cols c a d n f))) : DPut H p (.str "count") (.int z) (upd H p (.dK (cols c a d z f))) := DPut.k (k := .inr "count") h five
theorem dp_fold (h : H p = some (.dK (cols c a d n f))) : DPut H p (.str "fold") (.int z) (upd H p (.dK (cols c a d n z))) := DPut.k (k := .inr "fold") h five
end
/-- a pen stands at p, its cells at c; so many draws were made at most -/
def PenC (H : Hp) (p c : Addr) (m : Nat) : Prop :=
  ∃ (ns : List Int) (a d n f : Int), H p = some (.dK (cols c a d n f)) ∧ H c = some (.lst (ns.map V.int)) ∧ ns.length ≤ 1000 ∧ 0 ≤ a ∧ 0 ≤ n ∧ n ≤ m ∧ 0 ≤ f ∧ f < 2147483648
/-- all but the object at p stands as it stood -/
def But (p : Addr) (H H' : Hp) : Prop := ∀ b o, H b = some o → b ≠ p → H' b = some o
theorem But.upd {p : Addr} {H : Hp} {o : HO} : But p H (upd H p o) := fun b o e h => by
  rw [upd_ne h]
  exact e
theorem But.trans {p : Addr} {H H1 H2 : Hp} (a : But p H H1) (b : But p H1 H2) : But p H H2 := fun c o e h => b c o (a c o e h) h
theorem But.refl {p : Addr} {H : Hp} : But p H H := fun _ _ e _ => e
theorem But.of_same {p : Addr} {H H' : Hp} (s : Same H H') : But p H H' := fun c o e _ => s c o e
theorem PenC.same {H H' : Hp} {p c : Addr} {m : Nat} (h : PenC H p c m) (s : Same H H') : PenC H' p c m := by
  obtain ⟨ns, a, d, n, f, h1, h2, r⟩ := h
  exact ⟨ns, a, d, n, f, s _ _ h1, s _ _ h2, r⟩
theorem PenC.more {H : Hp} {p c : Addr} {m m' : Nat} (h : PenC H p c m) (s : m ≤ m') : PenC H p c m' := by
  obtain ⟨ns, a, d, n, f, h1, h2, h3, ha, h4, h5, r⟩ := h
  exact ⟨ns, a, d, n, f, h1, h2, h3, ha, h4, by omega, r⟩
theorem PenC.upd {H : Hp} {p c q : Addr} {m : Nat} {o : HO} (h : PenC H p c m) (n1 : q ≠ p) (n2 : q ≠ c) : PenC (upd H q o) p c m := by
  obtain ⟨ns, a, d, n, f, h1, h2, r⟩ := h
  exact ⟨ns, a, d, n, f, by rw [upd_ne n1.symm]; exact h1, by rw [upd_ne n2.symm]; exact h2, r⟩
theorem PenC.free {H : Hp} {p c q : Addr} {m : Nat} (h : PenC H p c m) (e : H q = none) : q ≠ p ∧ q ≠ c := by
  obtain ⟨ns, a, d, n, f, h1, h2, r⟩ := h
  refine ⟨fun z => ?_, fun z => ?_⟩
  · rw [z, h1] at e
    cases e
  · rw [z, h2] at e
    cases e
/-- the script, as each def is handed it -/
def spPen (K : PySem.W.Frag) : Sp := fun vs H Q _ => ∃ (a : Addr) (ns : List Int), vs = [.ref a] ∧ SqL K H a (ns.map V.int) ∧ ns.length ≤ 63 ∧
  ∀ (p c : Addr) (H' : Hp), H p = none → Same H H' → PenC H' p c 0 → Q (.ref p) H'
def spDraw : Sp := fun vs H Q _ => ∃ (p c : Addr) (m : Nat) (many : Int), vs = [.ref p, .int many] ∧ PenC H p c m ∧ m ≤ 1000000000000 ∧ 0 < many ∧ many < 1073741824 ∧
  ∀ (r : Int) (H' : Hp), 0 ≤ r → r < many → PenC H' p c (m + 1) → But p H H' → Q (.int r) H'
def spPick (K : PySem.W.Frag) : Sp := fun vs H Q _ => ∃ (p c l : Addr) (m : Nat) (xs : List V), vs = [.ref p, .ref l] ∧ PenC H p c m ∧ m ≤ 1000000000000 ∧ l ≠ p ∧ SqL K H l xs ∧ 0 < xs.length ∧ xs.length ≤ 1000 ∧
  ∀ (v : V) (i : Nat) (H' : Hp), xs[i]? = some v → PenC H' p c (m + 1) → But p H H' → Q v H'
abbrev pN : List Str := ["_law_script", "_law_fold", "_law_cell"]
abbrev dN : List Str := ["_law_pen_here", "_law_many", "_law_cell", "_law_digit", "_law_blend"]
abbrev kN : List Str := ["_law_pen_here", "_law_some"]
theorem int_item {ns : List Int} {i : Nat} {y : V} (h : (ns.map V.int)[i]? = some y) : ∃ z, y = V.int z := by
  rw [List.getElem?_map] at h
  cases e : ns[i]? with
  | none =>
    rw [e] at h
    cases h
  | some u =>
    rw [e] at h
    exact ⟨u, (Option.some.inj h).symm⟩
structure Txt (mg : Str → Option Value) : Prop where
  len : mg "len" = none
  int : mg "int" = none
  list : mg "list" = none
section
variable {P : Program} {w : World} {K : PySem.W.Frag} {mg : Str → Option Value} {base : Heap} {f : Addr} {fd : FuncData}
theorem scPen : FnScope pN ["_law_script"] (defScope sPen) := ⟨rfl, rfl, rfl, by decide +kernel, rfl, by decide +kernel, by decide +kernel⟩
theorem scDraw : FnScope dN ["_law_pen_here", "_law_many"] (defScope sDraw) := ⟨rfl, rfl, rfl, by decide +kernel, rfl, by decide +kernel, by decide +kernel⟩
theorem scPick : FnScope kN ["_law_pen_here", "_law_some"] (defScope sPick) := ⟨rfl, rfl, rfl, by decide +kernel, rfl, by decide +kernel, by decide +kernel⟩
theorem ok_pen {CX : CXT} (F : FnP K "_law_pen" sPen f fd) (T : Txt mg) : FnOk P w K mg base CX 1 f fd ["_law_script"] (spPen K) := by
  refine F.ok scPen (fun vs H Q E h => ?_) (fun cdv A outer s H vs Q E hr h => ?_)
  · obtain ⟨a, ns, rfl, _⟩ := h
    rfl
  · obtain ⟨a, ns, rfl, hS, hl, k⟩ := h
    refine ⟨_, PSs.nox (pss_cons (ps_set (i := 1) scPen.nd rfl (Or.inl rfl) pe_int)
      (pss_cons (ps_for PassesOwn.never rfl (pi_list (pv 0)) (pg_name (i := 2) scPen.nd rfl (Or.inl rfl))
        (pss_one (ps_set (i := 1) scPen.nd rfl (Or.inl rfl) (pe_op op_mod (pe_callTy call_int1 (by rfl) T.int (by decide +kernel) (pa_cons (pe_op op_add (pe_op op_mul (pv 1) pe_int) (pv 2)) pa_nil)) pe_int))))
      (pss_one (ps_ret (pe_disp (pps_cons pe_str (pe_callTy call_list_of (by rfl) T.list (by decide +kernel) (pa_cons (pv 0) pa_nil)) (pps_cons pe_str pe_int (pps_cons pe_str pe_int (pps_cons pe_str pe_int (pps_cons pe_str (pv 1) pps_nil))))) (by rfl) (by rfl) (fun z => by cases z) (by decide)))))), ?_⟩
    refine ⟨_, rfl, a, rfl, ⟨_, hS⟩, for_list (K := K) (a := a) (xs := ns.map V.int) (fun i σ H2 => ∃ (z : Int) (v : Option V), σ = [some (.ref a), some (.int z), v] ∧ H2 = H ∧ 0 ≤ z ∧ z < 1000000007)
      ⟨0, none, rfl, rfl, by decide, by decide⟩ (fun i σ H2 _ ⟨_, _, _, e, _⟩ => by rw [e]; exact hS) ?_ ?_⟩
    · rintro i y σ H2 hi ⟨z, v, rfl, rfl, h0, h1⟩
      obtain ⟨u, rfl⟩ := int_item hi
      refine ⟨_, rfl, _, _, rfl, rfl, .inr ⟨by decide, by decide⟩, _, rfl, _, _, rfl, rfl, .inl ⟨_, rfl, _, _, rfl, rfl, (by show (0 : Int) < 1000000007; decide), ?_⟩⟩
      exact ⟨_, _, rfl, rfl, Int.emod_nonneg _ (by decide), Int.emod_lt_of_pos _ (by decide)⟩
    · rintro σ H2 ⟨z, v, rfl, rfl, h0, h1⟩
      intro p hp
      have sp : Same H2 (upd H2 p (.dK [])) := fun b o e => by
        rw [upd_ne (ne_of_none e hp)]
        exact e
      refine ⟨_, rfl, a, _, rfl, .inl (sp.seq hS), fun l hl0 => ?_⟩
      have npl : p ≠ l := fun q => by
        rw [← q, upd_same] at hl0
        cases hl0
      have hl1 : H2 l = none := by
        rw [upd_ne npl.symm] at hl0
        exact hl0
      refine ⟨_, rfl, by rw [upd_ne npl, upd_same], cols l 0 0 0 z, rfl, (by show 5 ≤ 15; decide), ?_⟩
      refine k p l _ hp (fun b o e => ?_) ⟨ns, 0, 0, 0, z, upd_same, ?_, by omega, by decide, by decide, by decide, h0, by omega⟩
      · rw [upd_ne (ne_of_none e hp), upd_ne (ne_of_none e hl1), upd_ne (ne_of_none e hp)]
        exact e
      · rw [upd_ne npl.symm, upd_same]
theorem ok_draw {CX : CXT} (F : FnP K "_law_draw" sDraw f fd) (T : Txt mg) : FnOk P w K mg base CX 1 f fd ["_law_pen_here", "_law_many"] spDraw := by
  refine F.ok scDraw (fun vs H Q E h => ?_) (fun cdv A outer s H vs Q E hr h => ?_)
  · obtain ⟨p, c, m, many, rfl, _⟩ := h
    rfl
  · obtain ⟨p, c, m, many, rfl, ⟨ns, a, d, n, fo, hp, hc, hz, a0, n0, nm, f0, f1⟩, hm, m0, m1, k⟩ := h
    have hu := hu_of hr
    have ncp : c ≠ p := ne_of hc hp (by intro z; cases z)
    refine ⟨_, PSs.nox (pss_cons (ps_dput hu (pv 0) pe_str (pe_op op_add (pe_dget hu (pv 0) pe_str (fun _ _ => rfl)) pe_int) rfl)
      (C8.pss_cut (ps_if (PW.pt (pw_and (pt_cmpR op_eq (pe_dget hu (pv 0) pe_str (fun _ _ => rfl)) pe_int (nomark _))
          (pw_and1 (pt_cmpR op_lt (pe_dget hu (pv 0) pe_str (fun _ _ => rfl)) (pe_callB call_len_seq (by rfl) T.len PySem.boot_len (pa_cons (pe_dget hu (pv 0) pe_str (fun _ _ => rfl)) pa_nil)) (nomark _)))))
        (pss_cons (ps_set (i := 2) scDraw.nd rfl (Or.inl rfl) (pe_ix ix_list (pe_dget hu (pv 0) pe_str (fun _ _ => rfl)) (pe_dget hu (pv 0) pe_str (fun _ _ => rfl)) (fun _ _ => rfl)))
        (pss_cons (ps_dput hu (pv 0) pe_str (pe_op op_add (pe_dget hu (pv 0) pe_str (fun _ _ => rfl)) pe_int) rfl)
        (pss_one (ps_if (pt_cmpR op_ge (pv 2) (pe_op op_pow pe_int pe_int) (nomark _))
          (pss_one (ps_dput hu (pv 0) pe_str (pe_op op_sub (pv 2) (pe_op op_pow pe_int pe_int)) rfl))
          (pss_one (ps_dput hu (pv 0) pe_str (pe_op op_mod (pe_callTy call_int1 (by rfl) T.int (by decide +kernel) (pa_cons (pe_op op_add (pe_op op_mul (pe_dget hu (pv 0) pe_str (fun _ _ => rfl)) pe_int) (pv 2)) pa_nil)) pe_int) rfl))))))
        pss_nil)
      (pss_cons (ps_if (pt_cmpR op_gt (pe_dget hu (pv 0) pe_str (fun _ _ => rfl)) pe_int (nomark _))
        (pss_cons (ps_set (i := 3) scDraw.nd rfl (Or.inl rfl) (pe_op op_mod (pe_callTy call_int1 (by rfl) T.int (by decide +kernel) (pa_cons (pe_dget hu (pv 0) pe_str (fun _ _ => rfl)) pa_nil)) (pv 1)))
        (pss_cons (ps_dput hu (pv 0) pe_str (pe_op op_fdiv (pe_dget hu (pv 0) pe_str (fun _ _ => rfl)) (pv 1)) rfl)
        (pss_one (ps_ret (pv 3)))))
        pss_nil)
      (pss_cons (ps_set (i := 4) scDraw.nd rfl (Or.inl rfl) (pe_op op_add (pe_op op_add (pe_dget hu (pv 0) pe_str (fun _ _ => rfl)) (pe_op op_mul (pe_dget hu (pv 0) pe_str (fun _ _ => rfl)) pe_int)) pe_int))
      (pss_one (ps_ret (pe_op op_mod (pe_op op_fdiv (pe_callTy call_int1 (by rfl) T.int (by decide +kernel) (pa_cons (pe_op op_mod (pe_op op_pow (pv 4) pe_int) pe_int) pa_nil)) pe_int) (pv 1)))))))), ?_⟩
    -- count
    refine ⟨_, rfl, _, _, rfl, dg_count hp, _, _, rfl, rfl, _, rfl, p, _, rfl, dp_count hp, ?_⟩
    have hp1 : ∀ {o : HO}, upd H p o p = some o := upd_same
    have hc1 : ∀ {o : HO}, upd H p o c = some (.lst (ns.map V.int)) := by
      intro o
      rw [upd_ne ncp]
      exact hc
    refine ⟨fun σ H2 => ∃ (a' d' fo' : Int) (cell : Option V), σ = [some (.ref p), some (.int many), cell, none, none] ∧ H2 = upd H p (.dK (cols c a' d' (n + 1) fo')) ∧ 0 ≤ a' ∧ 0 ≤ fo' ∧ fo' < 2147483648, ?_, ?_⟩
    · refine ⟨_, rfl, _, _, rfl, dg_digits hp1, rfl, _, rfl, ?_⟩
      refine ite2 (fun _ => ?_) (fun _ => ?_)
      · refine ⟨_, rfl, _, _, rfl, dg_at hp1, _, rfl, _, _, rfl, dg_cells hp1, _, _, rfl, .inl (SqL.of hc1), _, _, rfl, rfl, _, rfl, ?_⟩
        refine ite2 (fun hlt => ?_) (fun _ => ?_)
        · have hlt := of_decide_eq_true hlt
          have hj : a.toNat < (ns.map V.int).length := by omega
          obtain ⟨u, hu2⟩ := int_item (List.getElem?_eq_getElem hj)
          have hit : (ns.map V.int)[a.toNat]? = some (V.int u) := by
            rw [List.getElem?_eq_getElem hj, hu2]
          refine ⟨_, rfl, _, _, rfl, dg_cells hp1, _, rfl, _, _, rfl, dg_at hp1, _, _, _, _, rfl, rfl, SqL.of hc1, at_of (j := a.toNat) (by omega) hit, ?_⟩
          refine ⟨_, rfl, _, _, rfl, dg_at hp1, _, _, rfl, rfl, _, rfl, p, _, rfl, dp_at hp1, ?_⟩
          rw [upd_upd]
          refine ⟨_, rfl, _, _, rfl, rfl, ⟨by decide, by decide, by decide⟩, _, _, rfl, rfl, _, rfl, ?_⟩
          refine ite2 (fun _ => ?_) (fun _ => ?_)
          · refine ⟨_, rfl, _, _, rfl, rfl, ⟨by decide, by decide, by decide⟩, _, _, rfl, rfl, _, rfl, p, _, rfl, dp_digits hp1, ?_⟩
            rw [upd_upd]
            exact ⟨_, _, _, _, rfl, rfl, by omega, f0, f1⟩
          · refine ⟨_, rfl, _, _, rfl, dg_fold hp1, _, _, rfl, rfl, .inr ⟨by decide, by decide⟩, _, rfl, _, _, rfl, rfl, .inl ⟨_, rfl, _, _, rfl, rfl, (by show (0 : Int) < 2147483587; decide), ?_⟩⟩
            refine ⟨_, rfl, p, _, rfl, dp_fold hp1, ?_⟩
            rw [upd_upd]
            exact ⟨_, _, _, _, rfl, rfl, by omega, Int.emod_nonneg _ (by decide), Int.lt_trans (Int.emod_lt_of_pos _ (by decide)) (by decide)⟩
        · exact ⟨_, _, _, _, rfl, rfl, a0, f0, f1⟩
      · exact ⟨_, _, _, _, rfl, rfl, a0, f0, f1⟩
    · rintro σ H2 ⟨a', d', fo', cell, rfl, rfl, h0, g0, g1⟩
      refine ⟨_, rfl, _, _, rfl, dg_digits hp1, _, _, rfl, rfl, _, rfl, ?_⟩
      refine ite2 (fun _ => ?_) (fun _ => ?_)
      · refine ⟨_, rfl, _, _, rfl, dg_digits hp1, .inl ⟨_, rfl, _, rfl, _, _, rfl, rfl, m0, ?_⟩⟩
        refine ⟨_, rfl, _, _, rfl, dg_digits hp1, _, rfl, _, _, rfl, rfl, ⟨m0, m1⟩, _, rfl, p, _, rfl, dp_digits hp1, ?_⟩
        rw [upd_upd]
        refine ⟨_, rfl, k _ _ (Int.emod_nonneg _ (by omega)) (Int.emod_lt_of_pos _ m0) ⟨ns, _, _, _, _, hp1, hc1, hz, h0, by omega, by omega, g0, g1⟩ But.upd⟩
      · refine ⟨_, rfl, _, _, rfl, dg_fold hp1, _, rfl, _, _, rfl, dg_count hp1, _, _, rfl, rfl, .inr ⟨by decide, by decide⟩, _, _, rfl, rfl, _, _, rfl, rfl, ?_⟩
        refine ⟨_, rfl, _, _, rfl, rfl, ⟨by decide, by decide, ?_⟩, _, _, rfl, rfl, (by show (0 : Int) < 2305843009213693951; decide), .inl ⟨_, rfl, _, _, rfl, rfl, ⟨by decide, by decide⟩, _, rfl, _, _, rfl, rfl, m0, ?_⟩⟩
        · omega
        · exact k _ _ (Int.emod_nonneg _ (by omega)) (Int.emod_lt_of_pos _ m0) ⟨ns, _, _, _, _, hp1, hc1, hz, h0, by omega, by omega, g0, g1⟩ But.upd
theorem ok_pick {CX : CXT} {fD : Addr} {fdD : FuncData} (F : FnP K "_law_pick" sPick f fd) (T : Txt mg) (FD : FnP K "_law_draw" sDraw fD fdD) (gD : mg "_law_draw" = some (.ref fD)) (hCX : ∀ X, Passes CX X E0 := by exact fun X => pass0) : FnOk P w K mg base CX 2 f fd ["_law_pen_here", "_law_some"] (spPick K) := by
  have GD : FnOk P w K mg base CX0 1 fD fdD ["_law_pen_here", "_law_many"] spDraw := ok_draw FD T
  have bD : Binds K fdD ["_law_pen_here", "_law_many"] [] := FD.bindsN fun _ _ _ _ _ _ us hl => match us, hl with | [_, _], _ => rfl
  refine F.ok scPick (fun vs H Q E h => ?_) (fun cdv A outer s H vs Q E hr h => ?_)
  · obtain ⟨p, c, l, m, xs, rfl, _⟩ := h
    rfl
  · obtain ⟨p, c, l, m, xs, rfl, hP, hm, hlp, hS, h0, h1, k⟩ := h
    refine ⟨_, PSs.nox (pss_one (ps_ret (pe_ix ix_list (pv 1) (pe_call GD hr rfl gD FD.kp bD .nil pass0 (pa_cons (pv 0) (pa_cons (pe_callB call_len_seq (by rfl) T.len PySem.boot_len (pa_cons (pv 1) pa_nil)) pa_nil))) (fun _ _ => rfl)))), ?_⟩
    refine ⟨_, rfl, _, rfl, _, rfl, _, _, rfl, .inl hS, p, c, m, _, rfl, hP, hm, by omega, by omega, fun r H' r0 r1 hP' hB => ?_⟩
    have hj : r.toNat < xs.length := by omega
    have hS' : SqL K H' l xs := by
      rcases hS with (h | ⟨o, h⟩) | h
      · exact .inl (.inl (hB _ _ h hlp))
      · exact .inl (.inr ⟨o, hB _ _ h hlp⟩)
      · exact .inr h
    exact ⟨_, _, _, _, rfl, rfl, hS', at_of (j := r.toNat) (by omega) (List.getElem?_eq_getElem hj), k _ _ _ (List.getElem?_eq_getElem hj) hP' hB⟩
end
end Pen
namespace Ki
open PySem PySem.Spec PyProof.Rows L2 Pen Dat
/-! ## Of which kind a value is -/
structure Tx (mg : Str → Option Value) : Prop where
  isi : mg "isinstance" = none
  int : mg "int" = none
  bool : mg "bool" = none
  tuple : mg "tuple" = none
  list : mg "list" = none
  len : mg "len" = none
  all : mg "all" = none
def betD (d : PyData) (lo hi : Int) : Bool :=
  match d with
  | .int i => decide (lo ≤ i) && decide (i ≤ hi)
  | _ => false
def fromD (d : PyData) (lo : Int) : Bool :=
  match d with
  | .int i => decide (i ≥ lo)
  | _ => false
def rowsD (d : PyData) : List PyData :=
  match d with
  | .list ds => ds
  | .tuple ds => ds
  | _ => []
def rowB (d : PyData) (many lo hi : Int) : Bool := isRowD d && (decide (((rowsD d).length : Int) = many) && (rowsD d).all fun e => betD e lo hi)
def spBetween (K : PySem.W.Frag) : Sp := fun vs H Q _ => ∃ (v : V) (lo hi : Int) (d : PyData), vs = [v, .int lo, .int hi] ∧ Dp K H v d ∧ Q (.bl (betD d lo hi)) H
def spFrom (K : PySem.W.Frag) : Sp := fun vs H Q _ => ∃ (v : V) (lo : Int) (d : PyData), vs = [v, .int lo] ∧ Dp K H v d ∧ Q (.bl (fromD d lo)) H
def spRow (K : PySem.W.Frag) : Sp := fun vs H Q _ => ∃ (v : V) (d : PyData), vs = [v] ∧ Dp K H v d ∧ ∀ H', Same H H' → Q (.bl (isRowD d)) H'
def spRowB (K : PySem.W.Frag) : Sp := fun vs H Q _ => ∃ (v : V) (many lo hi : Int) (d : PyData), vs = [v, .int many, .int lo, .int hi] ∧ Dp K H v d ∧ (rowsD d).length ≤ 1000 ∧ ∀ H', Same H H' → Q (.bl (rowB d many lo hi)) H'
section
variable {P : Program} {w : World} {K : PySem.W.Frag} {mg : Str → Option Value} {base : Heap} {f : Addr} {fd : FuncData}
theorem same_new {H : Hp} {p : Addr} {u : HO} (np : H p = none) : Same H (upd H p u) := fun b o e => by
  rw [upd_ne (ne_of_none e np)]
  exact e
abbrev rbN : List Str := ["value", "many", "least", "most", "part"]
theorem take_more {α : Type} {xs : List α} {i : Nat} {x : α} (h : xs[i]? = some x) : xs.take (i + 1) = xs.take i ++ [x] := by
  rw [List.take_succ, h]
  rfl
theorem yes_of {σ : L2.St} {H : Hp} {A B : Hp → Prop} (h : A H) : tYes σ H fun b H3 => if b = true then A H3 else B H3 := by
  show if true = true then A H else B H
  exact iteT h
end
end Ki
namespace Fi
open PySem PySem.Spec PyProof.Rows L2 Pen Dat
/-! ## What never changes: tuples, locked things, instances -/
def firm : HO → Bool
  | .tup _ => true
  | .frz _ _ => true
  | .ins _ _ _ => true
  | _ => false
def Firm (H H' : Hp) : Prop := ∀ b o, H b = some o → firm o = true → H' b = some o
theorem Firm.refl (H : Hp) : Firm H H := fun _ _ e _ => e
theorem Firm.trans {H H1 H2 : Hp} (a : Firm H H1) (b : Firm H1 H2) : Firm H H2 := fun c o e h => b c o (a c o e h) h
theorem Firm.of {H H' : Hp} (s : Same H H') : Firm H H' := fun b o e _ => s b o e
theorem Firm.upd {H : Hp} {a : Addr} {u o : HO} (h : H a = some u) (hu : firm u = false) : Firm H (upd H a o) := fun b z e hz => by
  rw [upd_ne (fun q => by rw [q, h] at e; cases e; rw [hu] at hz; cases hz)]
  exact e
theorem Firm.but {H H' : Hp} {p : Addr} {u : HO} (c : But p H H') (h : H p = some u) (hu : firm u = false) : Firm H H' := fun b z e hz =>
  c b z e fun q => by
    rw [q, h] at e
    cases e
    rw [hu] at hz
    cases hz
theorem Firm.pen {H H' : Hp} {p c : Addr} {m : Nat} (b : But p H H') (h : PenC H p c m) : Firm H H' := by
  obtain ⟨_, _, _, _, _, h1, _⟩ := h
  exact Firm.but b h1 rfl
/-! ### two lists, item by item -/
inductive All2 {α : Type} (R : V → α → Prop) : List V → List α → Prop
  | nil : All2 R [] []
  | cons {v : V} {x : α} {vs : List V} {xs : List α} : R v x → All2 R vs xs → All2 R (v :: vs) (x :: xs)
section
variable {α : Type} {R R' : V → α → Prop}
theorem All2.len : ∀ {vs : List V} {xs : List α}, All2 R vs xs → vs.length = xs.length
  | _, _, .nil => rfl
  | _, _, .cons _ h => congrArg Nat.succ h.len
theorem All2.imp (f : ∀ v x, R v x → R' v x) : ∀ {vs : List V} {xs : List α}, All2 R vs xs → All2 R' vs xs
  | _, _, .nil => .nil
  | _, _, .cons h t => .cons (f _ _ h) (t.imp f)
theorem All2.get : ∀ {vs : List V} {xs : List α}, All2 R vs xs → ∀ {i : Nat} {v : V}, vs[i]? = some v → ∃ x, xs[i]? = some x ∧ R v x
  | _, _, .nil, i, v, e => by simp at e
  | _, _, .cons (v := v0) (x := x0) h t, 0, v, e => by
    simp at e
    subst e
    exact ⟨x0, rfl, h⟩
  | _, _, .cons h t, i + 1, v, e => by
    simp at e
    obtain ⟨x, q1, q2⟩ := t.get e
    exact ⟨x, by simpa using q1, q2⟩
theorem All2.get' : ∀ {vs : List V} {xs : List α}, All2 R vs xs → ∀ {i : Nat} {x : α}, xs[i]? = some x → ∃ v, vs[i]? = some v ∧ R v x
  | _, _, .nil, i, v, e => by simp at e
  | _, _, .cons (v := v0) (x := x0) h t, 0, v, e => by
    simp at e
    subst e
    exact ⟨v0, rfl, h⟩
  | _, _, .cons h t, i + 1, v, e => by
    simp at e
    obtain ⟨x, q1, q2⟩ := t.get' e
    exact ⟨x, by simpa using q1, q2⟩
theorem All2.snoc {v : V} {x : α} (h : R v x) : ∀ {vs : List V} {xs : List α}, All2 R vs xs → All2 R (vs ++ [v]) (xs ++ [x])
  | _, _, .nil => .cons h .nil
  | _, _, .cons h1 t => .cons h1 (t.snoc h)
theorem All2.append : ∀ {vs ws : List V} {xs ys : List α}, All2 R vs xs → All2 R ws ys → All2 R (vs ++ ws) (xs ++ ys)
  | _, _, _, _, .nil, h => h
  | _, _, _, _, .cons h1 t, h => .cons h1 (t.append h)
theorem All2.take : ∀ {vs : List V} {xs : List α} (n : Nat), All2 R vs xs → All2 R (vs.take n) (xs.take n)
  | _, _, 0, _ => by
    rw [List.take_zero, List.take_zero]
    exact .nil
  | _, _, _ + 1, .nil => .nil
  | _, _, n + 1, .cons h t => .cons h (t.take n)
end
/-! ### pairs, rows of pairs, rows of ints -/
def Pt (K : PySem.W.Frag) (H : Hp) (v : V) (p : Int × Int) : Prop := ∃ q, v = .ref q ∧ SqT K H q [.int p.1, .int p.2]
def Pr (K : PySem.W.Frag) (H : Hp) (v : V) (p : Int × Int) : Prop := ∃ q, v = .ref q ∧ (SqL K H q [.int p.1, .int p.2] ∨ SqT K H q [.int p.1, .int p.2])
def Tu (K : PySem.W.Frag) (H : Hp) (v : V) (r : List Int) : Prop := ∃ q, v = .ref q ∧ H q = some (.tup (r.map V.int))
def GT (K : PySem.W.Frag) (H : Hp) (g : Addr) (gs : List (Int × Int)) : Prop := ∃ vs, SqT K H g vs ∧ All2 (Pt K H) vs gs
def RowG (K : PySem.W.Frag) (H : Hp) (v : V) (gs : List (Int × Int)) : Prop := ∃ r vs, v = .ref r ∧ (SqL K H r vs ∨ SqT K H r vs) ∧ All2 (Pr K H) vs gs
section
variable {K : PySem.W.Frag} {H H' : Hp}
theorem firm_seq {a : Addr} {xs : List V} (s : Firm H H') (h : SqT K H a xs) : SqT K H' a xs :=
  h.elim (fun h => .inl (h.elim (fun h => .inl (s _ _ h rfl)) fun ⟨o, h⟩ => .inr ⟨o, s _ _ h rfl⟩)) .inr
theorem Pt.firm {v : V} {p : Int × Int} (s : Firm H H') (h : Pt K H v p) : Pt K H' v p := by
  obtain ⟨q, e, h⟩ := h
  exact ⟨q, e, firm_seq s h⟩
theorem Tu.firm {v : V} {r : List Int} (s : Firm H H') (h : Tu K H v r) : Tu K H' v r := by
  obtain ⟨q, e, h⟩ := h
  exact ⟨q, e, s _ _ h rfl⟩
theorem GT.firm {g : Addr} {gs : List (Int × Int)} (s : Firm H H') (h : GT K H g gs) : GT K H' g gs := by
  obtain ⟨vs, h1, h2⟩ := h
  exact ⟨vs, firm_seq s h1, h2.imp fun _ _ q => q.firm s⟩
theorem Pr.same {v : V} {p : Int × Int} (s : Same H H') (h : Pr K H v p) : Pr K H' v p := by
  obtain ⟨q, e, h⟩ := h
  exact ⟨q, e, h.elim (fun h => .inl (s.seq h)) fun h => .inr (seqT_same s h)⟩
theorem RowG.same {v : V} {gs : List (Int × Int)} (s : Same H H') (h : RowG K H v gs) : RowG K H' v gs := by
  obtain ⟨r, vs, e, h1, h2⟩ := h
  exact ⟨r, vs, e, h1.elim (fun h => .inl (s.seq h)) fun h => .inr (seqT_same s h), h2.imp fun _ _ q => q.same s⟩
theorem Pt.pr {v : V} {p : Int × Int} (h : Pt K H v p) : Pr K H v p := by
  obtain ⟨q, e, h⟩ := h
  exact ⟨q, e, .inr h⟩
theorem GT.row {g : Addr} {gs : List (Int × Int)} (h : GT K H g gs) : RowG K H (.ref g) gs := by
  obtain ⟨vs, h1, h2⟩ := h
  exact ⟨g, vs, rfl, .inr h1, h2.imp fun _ _ q => q.pr⟩
/-- a row of pairs, as data -/
def pD (p : Int × Int) : PyData := .tuple [.int p.1, .int p.2]
def gD (gs : List (Int × Int)) : PyData := .tuple (gs.map pD)
theorem pt_dp {v : V} {p : Int × Int} (h : Pt K H v p) : Dp K H v (pD p) := by
  obtain ⟨q, rfl, h⟩ := h
  exact .tup h (.cons (.int _) (.cons (.int _) .nil))
theorem pts_dp : ∀ {vs : List V} {gs : List (Int × Int)}, All2 (Pt K H) vs gs → DpAll K H vs (gs.map pD)
  | _, _, .nil => .nil
  | _, _, .cons h t => .cons (pt_dp h) (pts_dp t)
theorem GT.dp {g : Addr} {gs : List (Int × Int)} (h : GT K H g gs) : Dp K H (.ref g) (gD gs) := by
  obtain ⟨vs, h1, h2⟩ := h
  exact .tup h1 (pts_dp h2)
theorem ints_dp : ∀ (r : List Int), DpAll K H (r.map V.int) (r.map PyData.int)
  | [] => .nil
  | _ :: r => .cons (.int _) (ints_dp r)
end
end Fi
namespace Dl
open PySem PySem.Spec PyProof.Rows L2 PySem.W
/-! ## del xs[i:] of a list; xs.extend of a tuple: any law -/
theorem bounds_from {a n : Nat} (h : a ≤ n) : sliceBounds (some (a : Int)) none none n = ((a : Int), (n : Int), 1) := by
  unfold sliceBounds
  rw [Option.getD_none]
  show ((if (1 : Int) > 0 then max 0 (min (if (a : Int) < 0 then (a : Int) + n else a) (n : Int)) else _), (if (1 : Int) > 0 then (n : Int) else -1), (1 : Int)) = _
  rw [if_neg (by omega : ¬ (a : Int) < 0), if_pos (by decide : (1 : Int) > 0), if_pos (by decide : (1 : Int) > 0)]
  congr 1
  omega
/-- of items with their places, those ahead of a -/
theorem pick_ahead {α : Type} (sel : α × Nat → Bool) (a : Nat) : ∀ (xs : List α) (k : Nat), (∀ x i, k ≤ i → i < k + xs.length → sel (x, i) = decide (a ≤ i)) → ((xs.zipIdx k).filterMap fun p => if sel p = true then none else some p.1) = xs.take (a - k)
  | [], k, _ => by simp
  | x :: xs, k, h => by
    have h0 := h x k (Nat.le_refl k) (by rw [List.length_cons]; omega)
    have ih := pick_ahead sel a xs (k + 1) fun x i h1 h2 => h x i (by omega) (by rw [List.length_cons]; omega)
    rw [List.zipIdx_cons, List.filterMap_cons]
    show (match (if sel (x, k) = true then none else some x) with | none => _ | some b => b :: _) = _
    by_cases c : a ≤ k
    · rw [h0, if_pos (decide_eq_true c)]
      show List.filterMap _ (xs.zipIdx (k + 1)) = _
      rw [ih, show a - (k + 1) = 0 by omega, show a - k = 0 by omega, List.take_zero, List.take_zero]
    · rw [h0, if_neg (by rw [decide_eq_false c]; exact Bool.false_ne_true)]
      show x :: List.filterMap _ (xs.zipIdx (k + 1)) = _
      rw [ih, show a - k = (a - (k + 1)) + 1 by omega, List.take_succ_cons]
section
variable {prog : Program} {w : World} {A : Around} {E : Value → Shared → Prop} {s : Shared}
theorem del_from {l sl : Addr} {items : List Value} {n : Nat} {vl : Value} {a : Nat} {Q : Unit → Shared → Prop} (e : s.heap.get? l = some { cls := .type "list", data := .seq items.toArray n }) (hs : s.heap.IsSliceOf sl vl .none .none) (pl : IsPart vl (some (a : Int))) (ha : a ≤ items.length) (hz : items.length ≤ sizeLine)
    (h : ∀ f : Array Value → Array Value, f items.toArray = (items.take a).toArray → Q () { s with heap := s.heap.update l (Obj.mapSeq f) }) : wpAny (model prog w) A (delItem (.ref l) (.ref sl)) Q E s := by
  have hl : s.heap.IsList l items.toArray := PySem.IsL.isList e
  obtain ⟨os, hos, hcs, hds⟩ := id hs
  have hTs : s.TypeIs (.ref sl) "slice" := ⟨os, hos, hcs⟩
  have nz : ¬ ((rawPart none == rawInt 0) = true) := Bool.false_ne_true
  refine wpAny_delItem_slot hl.typeIs (by decide) F.slot_list_delitem (wpAny_call_entry F.slot_list_delitem hl.typeIs F.entry_list_delitem ?_ (F.args_list_delitem_2 _ _))
  show wpAny _ _ (Builtin.List.listSubscript? (.ref sl) >>= _) _ _ s
  unfold Builtin.List.listSubscript?
  refine wpAny_bind (wpAny_bind (wpAny_specialOf hTs slice_no_index ?_))
  simp only [Option.isNone_none, if_true]; refine wpAny_pure ?_
  show wpAny _ _ (typeOf (.ref sl) >>= _) _ _ s
  refine wpAny_bind (wpAny_typeOf hTs ?_)
  first | rw [if_neg (by decide)] | refine PySem.W.KFB.if_not (by decide) ?_
  rw [listSliceParts_eq]
  refine wpAny_bind (wpAny_bind (wpAny_field hos hds (x := .none) rfl (wpAny_bind (wpAny_listPart (k := none) .none ?_))))
  rw [if_neg nz]
  refine wpAny_bind (wpAny_field hos hds (x := vl) rfl (wpAny_bind (wpAny_listPart pl (wpAny_bind (wpAny_field hos hds (x := .none) rfl (wpAny_bind (wpAny_listPart (k := none) .none (wpAny_pure ?_))))))))
  unfold Builtin.List.listItems
  refine wpAny_bind (wpAny_bind (wpAny_seqItems e rfl (wpAny_pure ?_)))
  refine wpAny_bind (wpAny_of_eq ((sliceIndices_raw (some (a : Int)) none none items.toArray.size (by simp)).trans (congrArg (pure : Int × Int × Int → Sem (Int × Int × Int)) (bounds_from (by rw [List.size_toArray]; exact ha)))) ?_)
  refine wpAny_bind (wpAny_rule ?_)
  have hf : ∀ sel : Value × Nat → Bool, (∀ x i, i < items.length → sel (x, i) = decide (a ≤ i)) → (List.filterMap (fun p => if sel p = true then none else some p.1) items.toArray.toList.zipIdx).toArray = (items.take a).toArray := fun sel hsel => by
    have := pick_ahead sel a items 0 fun x i _ h2 => hsel x i (by omega)
    rw [Nat.sub_zero] at this
    exact congrArg List.toArray this
  have key : ∀ (x : Value) (i : Nat), i < items.length → (if (1 : Int) > 0 then decide ((a : Int) ≤ (i : Nat)) && decide (((i : Nat) : Int) < (items.toArray.size : Nat)) && ((((i : Nat) : Int) - (a : Int)) % 1 == 0) else decide (((items.toArray.size : Nat) : Int) < (i : Nat)) && decide (((i : Nat) : Int) ≤ (a : Int)) && (((a : Int) - (i : Nat)) % (-1) == 0)) = decide (a ≤ i) := fun x i hi => by
    rw [if_pos (by decide), List.size_toArray, decide_eq_true (show ((i : Nat) : Int) < (items.length : Nat) by omega), Int.emod_one, Bool.and_true]
    show (decide ((a : Int) ≤ (i : Nat)) && true) = _
    rw [Bool.and_true]
    exact decide_eq_decide.mpr (by omega)
  refine wpAny_bind (wpAny_updateSeq (hz := by rw [List.size_toArray]; exact hz) (_hz' := ?_) e rfl ?_)
  · refine wpAny_bind (wpAny_letGo ?_)
    refine wpAny_pure ?_
    refine ⟨_, rfl, h _ (hf _ ?_)⟩
    exact fun x i hi => key x i hi
  · refine Nat.le_trans (Nat.le_of_eq (congrArg Array.size (hf _ ?_))) ?_
    · exact fun x i hi => key x i hi
    · rw [List.size_toArray, List.length_take]
      omega
end
section
variable {X : Cx}
/-- del xs[i:] of a list that stands in the heap: 0 ≤ i ≤ length -/
def tDelF (to : TE) (ti : TE) : TS := fun D σ H => to σ H fun x H1 => tPart ti σ H1 fun o H2 => ∃ (l : Addr) (xs : List V) (a : Nat), x = .ref l ∧ o = some ((a : Nat) : Int) ∧ H2 l = some (.lst xs) ∧ a ≤ xs.length ∧ D.nx σ (upd H2 l (.lst (xs.take a)))
theorem ps_delF {o i : Expr} {to ti : TE} {tpos p2 pos : Pos} (ho : PE X o to) (hi : PE X i ti) : PS X (.Delete [.Subscript o (.Slice (some i) none none p2) tpos] pos) (tDelF to ti) := by
  refine ⟨fun pins s σ H D I h => ?_⟩
  refine wpAny_Delete (wpAny_deleteEach_cons (wpAny_delete_Subscript (thn (ho.run pins s σ H _ I h) fun u s1 ⟨x, H1, I1, rx, q1⟩ => wpAny_Slice ?_)))
  refine thn ((po_some hi).run pins s1 σ H1 _ I1 q1) fun vl s2 ⟨o, H2, I2, pl, q2⟩ => ?_
  rw [evalPart_none]
  refine wpAny_pure (wpAny_pure ?_)
  obtain ⟨l, xs, a, rfl, rfl, hH, ha, q⟩ := q2
  cases (show u = Value.ref l from rx)
  have I4 : Inv X pins σ H2 { s2 with heap := s2.heap.push { cls := .type "slice", data := .fields #[vl, .none, .none] } } := I2.kept (t' := s2.toks) fun b ob q => Heap.get?_push_of_some _ q
  obtain ⟨z, its, n, r, hl, e⟩ := I4.lstM hH
  refine del_from e (Heap.IsSliceOf.new ..) pl (by omega) (by omega) fun f hf => ?_
  refine wpAny_deleteEach_nil ⟨σ, _, I4.lset (its' := its.take a) (t' := s2.toks) hH e hf (r.take a) ?_, q⟩
  rw [List.length_take]
  omega
/-- xs.extend(t), t a tuple -/
def rExtT (K : PySem.W.Frag) : V → List V → Hp → VK → Prop := fun x vs H Q => ∃ (l b : Addr) (xs zs : List V), x = .ref l ∧ vs = [.ref b] ∧ H l = some (.lst xs) ∧ SqT K H b zs ∧ xs.length + zs.length ≤ sizeLine ∧ Q .non (upd H l (.lst (xs ++ zs)))
theorem mt_extendT : MtM X "list.extend" (rExtT X.K) := by
  intro pins s σ H x vs v us Q I rx rv h
  obtain ⟨l, b, xs, zs, rfl, rfl, hH, hB, hz, q⟩ := h
  cases rx
  obtain ⟨u, rfl, ru⟩ := rv.one
  cases ru
  obtain ⟨z, its, n, r, hl, e⟩ := I.lstM hH
  obtain ⟨its2, r2, ⟨o, ho, hc, n2, hd⟩, hz2⟩ := I.tuple hB
  have l2 := r2.length
  have fin : EP X pins σ Q .none { s with heap := s.heap.update l (Obj.mapSeq (· ++ its2.toArray)) } := by
    refine ⟨.non, _, I.lset (its' := its ++ its2) (t' := s.toks) hH e (by simp) (r.append r2) ?_, rfl, q⟩
    rw [List.length_append]; omega
  refine wpAny_call_entry F.slot_list_extend ⟨_, e, rfl⟩ F.entry_list_extend ?_ (F.args_list_extend_2 _ _)
  show wpAny _ _ (Builtin.List.listExtendWith (.ref l) (.ref b) .none) _ _ s
  unfold Builtin.List.listExtendWith Builtin.List.listItems
  refine wpAny_bind (wpAny_typeOf ⟨o, ho, hc⟩ ?_)
  rw [show (Builtin.List.listSameRef (.ref l) (.ref b) || Value.type "tuple" == Value.type "list" || Value.type "tuple" == Value.type "tuple") = true by simp]
  rw [if_pos rfl]
  refine wpAny_bind (wpAny_bind (wpAny_seqItems ho hd (wpAny_pure ?_)))
  refine wpAny_bind (wpAny_bind (wpAny_seqItems e rfl (wpAny_pure ?_)))
  have sz : its.toArray.size + its2.toArray.size ≤ sizeLine := by
    rw [List.size_toArray, List.size_toArray]; omega
  have nl : ¬ (!its.toArray.isEmpty && Builtin.List.listTooLong (its.toArray.size + its2.toArray.size)) = true := by
    rw [notLongL sz, Bool.and_false]; exact Bool.false_ne_true
  show wpAny _ _ (if (!its.toArray.isEmpty && Builtin.List.listTooLong (its.toArray.size + its2.toArray.size)) = true then _ else _) _ _ s
  rw [if_neg nl]
  show wpAny _ _ (updateSeq l (· ++ its2.toArray) >>= _) _ _ s
  refine wpAny_bind (wpAny_updateSeq (hz := Nat.le_trans (Nat.le_add_right _ _) sz) (_hz' := ?_) e rfl ?_)
  · exact wpAny_pure ⟨.none, rfl, fin⟩
  · show (its.toArray ++ its2.toArray).size ≤ sizeLine + 1
    rw [Array.size_append]; omega
end
end Dl
namespace Ep
open PySem PySem.Spec PyProof.Rows L2 Pen Dat Ki Fi
/-! ## Expressions: as data, their parts, and the order in which they are told -/
inductive Lf where
  | num (w v : Int) | nam (n : Str) | port (u n : Str)
inductive Op where
  | read (m : Str) | un (k : Str) | sh (k : Str) (n : Int) | slc (h l : Int) | bin (k : Str) | ite | join
inductive Ex where
  | lf (l : Lf) | op (o : Op) (ps : List Ex)
def parts : Ex → List Ex
  | .lf _ => []
  | .op _ ps => ps
def lfD : Lf → PyData
  | .num w v => .tuple [.str "number", .int w, .int v]
  | .nam n => .tuple [.str "name", .str n]
  | .port u n => .tuple [.str "port", .str u, .str n]
def opD : Op → List PyData → PyData
  | .read m, ds => .tuple (.str "read" :: .str m :: ds)
  | .un k, ds => .tuple (.str k :: ds)
  | .sh k n, ds => .tuple (.str k :: (ds ++ [.int n]))
  | .slc h l, ds => .tuple (.str "slice" :: (ds ++ [.int h, .int l]))
  | .bin k, ds => .tuple (.str k :: ds)
  | .ite, ds => .tuple (.str "if" :: ds)
  | .join, ds => .tuple [.str "join", .tuple ds]
mutual
def exD : Ex → PyData
  | .lf l => lfD l
  | .op o ps => opD o (exDs ps)
def exDs : List Ex → List PyData
  | [] => []
  | p :: ps => exD p :: exDs ps
end
mutual
def exZ : Ex → Nat
  | .lf _ => 1
  | .op _ ps => exZs ps + 1
def exZs : List Ex → Nat
  | [] => 0
  | p :: ps => exZ p + exZs ps
end
mutual
def post : Ex → List Ex
  | .lf l => [.lf l]
  | .op o ps => posts ps ++ [.op o ps]
def posts : List Ex → List Ex
  | [] => []
  | p :: ps => post p ++ posts ps
end
/-- which operators have how many parts -/
def opOk : Op → Nat → Prop
  | .read _, n => n = 1
  | .un k, n => n = 1 ∧ (k = "not" ∨ k = "minus")
  | .sh k _, n => n = 1 ∧ (k = "left" ∨ k = "right")
  | .slc _ _, n => n = 1
  | .bin k, n => n = 2 ∧ (k = "and" ∨ k = "or" ∨ k = "xor" ∨ k = "plus" ∨ k = "times" ∨ k = "equal" ∨ k = "below")
  | .ite, n => n = 3
  | .join, _ => True
mutual
def Shp : Ex → Prop
  | .lf _ => True
  | .op o ps => opOk o ps.length ∧ Shps ps
def Shps : List Ex → Prop
  | [] => True
  | p :: ps => Shp p ∧ Shps ps
end
theorem exDs_map : ∀ ps : List Ex, exDs ps = ps.map exD
  | [] => by unfold exDs; rfl
  | p :: ps => by
    unfold exDs
    rw [exDs_map ps]
    rfl
theorem shps_mem : ∀ {ps : List Ex}, Shps ps → ∀ p ∈ ps, Shp p
  | q :: ps, h, p, hp => by
    unfold Shps at h
    rcases List.mem_cons.mp hp with g | g
    · rw [g]
      exact h.1
    · exact shps_mem h.2 p g
theorem shp_parts {e : Ex} (h : Shp e) : ∀ p ∈ parts e, Shp p := by
  cases e with
  | lf l => exact fun p hp => by cases hp
  | op o ps =>
    unfold Shp at h
    exact shps_mem h.2
theorem exZ_parts (e : Ex) : exZ e = exZs (parts e) + 1 := by
  cases e with
  | lf l => unfold exZ parts exZs; rfl
  | op o ps => unfold exZ parts; rfl
theorem exZs_nil : exZs [] = 0 := by rw [exZs]
theorem exZs_cons (p : Ex) (ps : List Ex) : exZs (p :: ps) = exZ p + exZs ps := by rw [exZs]
theorem exZs_app : ∀ as bs : List Ex, exZs (as ++ bs) = exZs as + exZs bs
  | [], bs => by rw [List.nil_append, exZs_nil, Nat.zero_add]
  | a :: as, bs => by rw [List.cons_append, exZs_cons, exZs_cons, exZs_app as bs, Nat.add_assoc]
theorem exZ_pos (e : Ex) : 1 ≤ exZ e := by
  rw [exZ_parts]
  omega
theorem exZs_len : ∀ ps : List Ex, ps.length ≤ exZs ps
  | [] => Nat.zero_le _
  | p :: ps => by
    have := exZs_len ps
    have := exZ_pos p
    unfold exZs
    rw [List.length_cons]
    omega
theorem post_parts (e : Ex) : post e = posts (parts e) ++ [e] := by
  cases e with
  | lf l => unfold post parts posts; rfl
  | op o ps => unfold post parts; rfl
theorem posts_app : ∀ as bs : List Ex, posts (as ++ bs) = posts as ++ posts bs
  | [], bs => by show posts bs = posts [] ++ posts bs; unfold posts; rfl
  | a :: as, bs => by
    show posts (a :: (as ++ bs)) = posts (a :: as) ++ posts bs
    unfold posts
    rw [posts_app as bs, List.append_assoc]
    cases bs <;> rfl
theorem posts_one (e : Ex) : posts [e] = post e := by
  unfold posts posts
  exact List.append_nil _
mutual
theorem post_len : ∀ e : Ex, (post e).length = exZ e
  | .lf l => by unfold post exZ; rfl
  | .op o ps => by
    unfold post exZ
    rw [List.length_append, posts_len ps]
    rfl
theorem posts_len : ∀ ps : List Ex, (posts ps).length = exZs ps
  | [] => by unfold posts exZs; rfl
  | p :: ps => by
    unfold posts exZs
    rw [List.length_append, post_len p, posts_len ps]
end
/-- the values that stand on the pile, told off by their expressions -/
inductive Runs : List Ex → List Ex → List Ex → Prop
  | nil (s : List Ex) : Runs s [] s
  | cons (s r fin : List Ex) (e : Ex) : Runs (s ++ [e]) r fin → Runs (s ++ parts e) (e :: r) fin
mutual
theorem runs_post : ∀ (e : Ex) (s r fin : List Ex), Runs (s ++ [e]) r fin → Runs s (post e ++ r) fin
  | .lf l, s, r, fin, h => by
    unfold post
    have := Runs.cons s r fin (.lf l) h
    rw [show parts (.lf l) = [] from rfl, List.append_nil] at this
    exact this
  | .op o ps, s, r, fin, h => by
    unfold post
    rw [List.append_assoc]
    have h2 : Runs (s ++ parts (.op o ps)) (.op o ps :: r) fin := Runs.cons s r fin (.op o ps) h
    rw [show parts (.op o ps) = ps from rfl] at h2
    exact runs_posts ps s (.op o ps :: r) fin h2
theorem runs_posts : ∀ (ps s r fin : List Ex), Runs (s ++ ps) r fin → Runs s (posts ps ++ r) fin
  | [], s, r, fin, h => by
    unfold posts
    rw [List.append_nil] at h
    exact h
  | p :: ps, s, r, fin, h => by
    unfold posts
    rw [List.append_assoc]
    refine runs_post p s (posts ps ++ r) fin (runs_posts ps (s ++ [p]) r fin ?_)
    rw [List.append_assoc]
    exact h
end
theorem runs_all (e : Ex) : Runs [] (post e) [e] := by
  have := runs_post e [] [] [e] (Runs.nil _)
  rw [List.append_nil] at this
  exact this
/-! ### data without lists -/
mutual
def noL : PyData → Bool
  | .list _ => false
  | .tuple ds => noLs ds
  | .dict _ => false
  | .none => true
  | .bool _ => true
  | .int _ => true
  | .str _ => true
def noLs : List PyData → Bool
  | [] => true
  | d :: ds => noL d && noLs ds
end
theorem noLs_app : ∀ as bs : List PyData, noLs (as ++ bs) = (noLs as && noLs bs)
  | [], bs => by show noLs bs = (noLs [] && noLs bs); unfold noLs; cases bs <;> rfl
  | a :: as, bs => by
    show noLs (a :: (as ++ bs)) = (noLs (a :: as) && noLs bs)
    unfold noLs
    rw [noLs_app as bs, Bool.and_assoc]
    cases bs <;> rfl
section
variable {K : PySem.W.Frag} {H H' : Hp}
mutual
theorem dp_firm (s : Firm H H') : ∀ {d : PyData} {v : V}, noL d = true → Dp K H v d → Dp K H' v d
  | .none, _, _, h => by cases h; exact .non
  | .bool b, _, _, h => by cases h; exact .bl b
  | .int i, _, _, h => by cases h; exact .int i
  | .str x, _, _, h => by cases h; exact .str x
  | .list ds, _, n, _ => by unfold noL at n; cases n
  | .tuple ds, _, n, h => by
    unfold noL at n
    cases h with
    | tup hs ha => exact .tup (firm_seq s hs) (dps_firm s n ha)
  | .dict _, _, _, h => by cases h
theorem dps_firm (s : Firm H H') : ∀ {ds : List PyData} {vs : List V}, noLs ds = true → DpAll K H vs ds → DpAll K H' vs ds
  | [], _, _, h => by cases h; exact .nil
  | d :: ds, _, n, h => by
    unfold noLs at n
    obtain ⟨n1, n2⟩ := (Bool.and_eq_true _ _).mp n
    cases h with
    | cons h1 h2 => exact .cons (dp_firm s n1 h1) (dps_firm s n2 h2)
end
end
theorem opD_noL {o : Op} {ds : List PyData} (h : noLs ds = true) : noL (opD o ds) = true := by
  cases o <;> simp [opD, noL, noLs, noLs_app, h]
mutual
theorem ex_noL : ∀ e : Ex, noL (exD e) = true
  | .lf l => by
    unfold exD
    cases l <;> simp [lfD, noL, noLs]
  | .op o ps => by
    unfold exD
    exact opD_noL (exs_noL ps)
theorem exs_noL : ∀ ps : List Ex, noLs (exDs ps) = true
  | [] => by unfold exDs noLs; rfl
  | p :: ps => by
    unfold exDs noLs
    rw [ex_noL p, exs_noL ps]
    rfl
end
def ExAt (K : PySem.W.Frag) (H : Hp) (v : V) (e : Ex) : Prop := Dp K H v (exD e)
theorem ExAt.firm {K : PySem.W.Frag} {H H' : Hp} {v : V} {e : Ex} (s : Firm H H') (h : ExAt K H v e) : ExAt K H' v e := dp_firm s (ex_noL e) h
theorem exs_all {K : PySem.W.Frag} {H : Hp} : ∀ {vs : List V} {ps : List Ex}, DpAll K H vs (exDs ps) → All2 (ExAt K H) vs ps
  | _, [], h => by
    unfold exDs at h
    cases h
    exact .nil
  | _, p :: ps, h => by
    unfold exDs at h
    cases h with
    | cons a t => exact .cons a (exs_all t)
theorem all_exs {K : PySem.W.Frag} {H : Hp} : ∀ {vs : List V} {ps : List Ex}, All2 (ExAt K H) vs ps → DpAll K H vs (exDs ps)
  | _, [], .nil => by
    unfold exDs
    exact .nil
  | _, p :: ps, .cons a t => by
    unfold exDs
    exact .cons a (all_exs t)
end Ep
namespace Eq
open PySem PySem.Spec PyProof.Rows L2 Pen Dat Ki Fi Ep
/-! ## The parts of an expression, and what goes over them -/
def kL : List V := [.str "number", .str "name", .str "port"]
def kO : List V := [.str "not", .str "minus", .str "left", .str "right", .str "slice"]
structure Tx (K : PySem.W.Frag) (mg : Str → Option Value) (CL CO : Addr) : Prop where
  leaves : mg "LEAVES" = some (.ref CL)
  one : mg "ONE_PART" = some (.ref CO)
  sqL : ∀ H : Hp, SqT K H CL kL
  sqO : ∀ H : Hp, SqT K H CO kO
  len : mg "len" = none
theorem goF {b : Bool} {A B : Prop} (h : b = false) (x : B) : if b = true then A else B := by
  rw [h]
  exact iteF x
theorem goT {b : Bool} {A B : Prop} (h : b = true) (x : A) : if b = true then A else B := by
  rw [h]
  exact iteT x
theorem len0 : 0 ≤ sizeLine := by decide
theorem len1 : 1 ≤ sizeLine := by decide
theorem len2 : 2 ≤ sizeLine := by decide
theorem cut_from (xs : List V) (m : Nat) : cutV xs (some (m : Int)) none = xs.drop m := by
  unfold cutV
  have ix : HT.sIx xs.length 0 (some (m : Int)) = min m xs.length := by
    show (if ((m : Int)) < 0 then ((m : Int) + (xs.length : Int)).toNat else min (m : Int).toNat xs.length) = _
    rw [if_neg (by omega)]
    rfl
  rw [ix]
  show List.take (xs.length - min m xs.length) (xs.drop (min m xs.length)) = _
  rw [List.take_of_length_le (by rw [List.length_drop]; exact Nat.le_refl _)]
  rcases Nat.lt_or_ge m xs.length with l | l
  · rw [Nat.min_eq_left (Nat.le_of_lt l)]
  · rw [Nat.min_eq_right l, List.drop_eq_nil_of_le l, List.drop_eq_nil_of_le (Nat.le_refl _)]
theorem from_use {K : PySem.W.Frag} {H : Hp} {q0 : Addr} {xs : List V} {m : Nat} {σ : L2.St} {R : VK} (hq : SqT K H q0 xs) (k : ∀ t H', Same H H' → SqT K H' t (xs.drop m) → R (.ref t) H') : L2.tNoPart σ H fun u H3 => L2.rSlA K (.ref q0) (some (m : Int)) u H3 R := by
  show L2.rSlA K (.ref q0) (some (m : Int)) none H R
  refine ⟨q0, xs, rfl, hq, fun hw => ?_, fun _ p np => ?_⟩
  · have e := hw.1
    have ix : HT.sIx xs.length 0 (some (m : Int)) = min m xs.length := by
      show (if ((m : Int)) < 0 then ((m : Int) + (xs.length : Int)).toNat else min (m : Int).toNat xs.length) = _
      rw [if_neg (by omega)]
      rfl
    rw [ix] at e
    refine k q0 H (fun _ _ e => e) ?_
    rcases Nat.eq_zero_or_pos m with z | z
    · rw [z]
      exact hq
    · have : xs.length = 0 := by omega
      rw [List.drop_eq_nil_of_le (by omega), ← List.eq_nil_of_length_eq_zero this]
      exact hq
  · exact k p _ (same_new np) (SqT.of (by rw [upd_same, cut_from]))
theorem all2_rev {α : Type} {Rl : V → α → Prop} : ∀ {vs : List V} {xs : List α}, All2 Rl vs xs → All2 Rl vs.reverse xs.reverse
  | _, _, .nil => .nil
  | _, _, .cons h t => by
    rw [List.reverse_cons, List.reverse_cons]
    exact (all2_rev t).snoc h
theorem all2_snoc {α : Type} {Rl : V → α → Prop} {us : List V} {xs : List α} {x : α} (h : All2 Rl us (xs ++ [x])) : ∃ vs v, us = vs ++ [v] ∧ All2 Rl vs xs ∧ Rl v x := by
  have l := h.len
  rw [List.length_append, show [x].length = 1 from rfl] at l
  have hx : (xs ++ [x])[xs.length]? = some x := by
    rw [List.getElem?_append_right (Nat.le_refl _), Nat.sub_self]
    rfl
  obtain ⟨v, hv, r⟩ := h.get' hx
  refine ⟨us.take xs.length, v, ?_, ?_, r⟩
  · have e1 := List.take_append_drop xs.length us
    obtain ⟨lt, e⟩ := List.getElem?_eq_some_iff.mp hv
    rw [List.drop_eq_getElem_cons lt, e, List.drop_eq_nil_of_le (by omega)] at e1
    exact e1.symm
  · have := h.take xs.length
    rw [List.take_append_of_le_length (Nat.le_refl _), List.take_length] at this
    exact this
/-- the length of the list that stands there -/
def lenAt (H : Hp) (a : Addr) : Nat := match H a with
  | some (.lst xs) => xs.length
  | _ => 0
theorem lenAt_of {H : Hp} {a : Addr} {xs : List V} (h : H a = some (.lst xs)) : lenAt H a = xs.length := by
  unfold lenAt
  rw [h]
/-- how an expression's parts stand in it -/
inductive PK (K : PySem.W.Frag) (H : Hp) (xs : List V) (k : Str) (e : Ex) : Prop
  | leaf : inV (.str k) kL = true → parts e = [] → PK K H xs k e
  | one (w : V) (p : Ex) : inV (.str k) kL = false → inV (.str k) kO = true → xs[1]? = some w → parts e = [p] → ExAt K H w p → PK K H xs k e
  | read (w : V) (p : Ex) : k = "read" → xs[2]? = some w → parts e = [p] → ExAt K H w p → PK K H xs k e
  | join (b : Addr) (ys : List V) : k = "join" → xs[1]? = some (.ref b) → SqT K H b ys → All2 (ExAt K H) ys (parts e) → PK K H xs k e
  | rest : inV (.str k) kL = false → inV (.str k) kO = false → k ≠ "read" → k ≠ "join" → All2 (ExAt K H) (xs.drop 1) (parts e) → PK K H xs k e
section
variable {K : PySem.W.Frag} {H : Hp}
theorem dps_app : ∀ {as bs : List PyData} {xs : List V}, DpAll K H xs (as ++ bs) → ∃ us ws, xs = us ++ ws ∧ DpAll K H us as ∧ DpAll K H ws bs
  | [], bs, xs, h => ⟨[], xs, rfl, .nil, h⟩
  | a :: as, bs, xs, h => by
    cases h with
    | cons h1 h2 =>
      obtain ⟨us, ws, e, a1, a2⟩ := dps_app h2
      exact ⟨_ :: us, ws, by rw [e]; rfl, .cons h1 a1, a2⟩
/-- an expression in the heap: its kind, and its parts -/
theorem pk_of {v : V} : ∀ {e : Ex}, ExAt K H v e → Shp e → ∃ (a : Addr) (xs : List V) (k : Str), v = .ref a ∧ SqT K H a xs ∧ xs[0]? = some (.str k) ∧ PK K H xs k e
  | .lf l, h, _ => by
    unfold ExAt exD at h
    cases l with
    | num w v =>
      cases h with
      | tup hs ha =>
        cases ha with
        | cons h1 h2 =>
          cases h1
          exact ⟨_, _, _, rfl, hs, rfl, .leaf (by decide +kernel) rfl⟩
    | nam n =>
      cases h with
      | tup hs ha =>
        cases ha with
        | cons h1 h2 =>
          cases h1
          exact ⟨_, _, _, rfl, hs, rfl, .leaf (by decide +kernel) rfl⟩
    | port u n =>
      cases h with
      | tup hs ha =>
        cases ha with
        | cons h1 h2 =>
          cases h1
          exact ⟨_, _, _, rfl, hs, rfl, .leaf (by decide +kernel) rfl⟩
  | .op o ps, h, sh => by
    unfold ExAt exD at h
    unfold Shp at sh
    obtain ⟨ok, _⟩ := sh
    have one : ∀ {xs : List V} {k : Str} {ws : List V}, DpAll K H xs (exDs ps) → ps.length = 1 → inV (.str k) kL = false → inV (.str k) kO = true → PK K H (.str k :: (xs ++ ws)) k (.op o ps) := fun {xs k ws} h2 l a b => by
      obtain ⟨p, rfl⟩ := List.length_eq_one_iff.mp l
      have h3 := exs_all h2
      cases h3 with
      | cons h4 h5 => exact .one _ p a b rfl rfl h4
    cases o with
    | read m =>
      obtain ⟨p, rfl⟩ := List.length_eq_one_iff.mp ok
      cases h with
      | tup hs ha =>
        cases ha with
        | cons h1 h2 =>
          cases h1
          cases h2 with
          | cons h3 h4 =>
            have h5 := exs_all h4
            cases h5 with
            | cons h6 h7 => exact ⟨_, _, _, rfl, hs, rfl, .read _ p rfl rfl rfl h6⟩
    | un k =>
      obtain ⟨l, hk⟩ := ok
      cases h with
      | tup hs ha =>
        cases ha with
        | cons h1 h2 =>
          cases h1
          rcases hk with rfl | rfl
          · exact ⟨_, _, _, rfl, hs, rfl, by have := one (ws := []) h2 l (by decide +kernel : inV (.str "not") kL = false) (by decide +kernel); rw [List.append_nil] at this; exact this⟩
          · exact ⟨_, _, _, rfl, hs, rfl, by have := one (ws := []) h2 l (by decide +kernel : inV (.str "minus") kL = false) (by decide +kernel); rw [List.append_nil] at this; exact this⟩
    | sh k n =>
      obtain ⟨l, hk⟩ := ok
      cases h with
      | tup hs ha =>
        cases ha with
        | cons h1 h2 =>
          cases h1
          obtain ⟨us, ws, rfl, a1, a2⟩ := dps_app h2
          rcases hk with rfl | rfl
          · exact ⟨_, _, _, rfl, hs, rfl, one a1 l (by decide +kernel) (by decide +kernel)⟩
          · exact ⟨_, _, _, rfl, hs, rfl, one a1 l (by decide +kernel) (by decide +kernel)⟩
    | slc hi lo =>
      cases h with
      | tup hs ha =>
        cases ha with
        | cons h1 h2 =>
          cases h1
          obtain ⟨us, ws, rfl, a1, a2⟩ := dps_app h2
          exact ⟨_, _, _, rfl, hs, rfl, one a1 ok (by decide +kernel) (by decide +kernel)⟩
    | bin k =>
      obtain ⟨l, hk⟩ := ok
      cases h with
      | tup hs ha =>
        cases ha with
        | cons h1 h2 =>
          cases h1
          rcases hk with rfl | rfl | rfl | rfl | rfl | rfl | rfl <;> exact ⟨_, _, _, rfl, hs, rfl, .rest (by decide +kernel) (by decide +kernel) (by decide) (by decide) (exs_all h2)⟩
    | ite =>
      cases h with
      | tup hs ha =>
        cases ha with
        | cons h1 h2 =>
          cases h1
          exact ⟨_, _, _, rfl, hs, rfl, .rest (by decide +kernel) (by decide +kernel) (by decide) (by decide) (exs_all h2)⟩
    | join =>
      cases h with
      | tup hs ha =>
        cases ha with
        | cons h1 h2 =>
          cases h1
          cases h2 with
          | cons h3 h4 =>
            cases h3 with
            | tup hs2 ha2 => exact ⟨_, _, _, rfl, hs, rfl, .join _ _ rfl rfl hs2 (exs_all ha2)⟩
end
def spParts (K : PySem.W.Frag) : Sp := fun vs H Q _ => ∃ (v : V) (e : Ex), vs = [v] ∧ ExAt K H v e ∧ Shp e ∧ ∀ (H' : Hp) (t : Addr) (xs : List V), Same H H' → SqT K H' t xs → All2 (ExAt K H') xs (parts e) → Q (.ref t) H'
def spWithin (K : PySem.W.Frag) : Sp := fun vs H Q _ => ∃ (v : V) (e : Ex), vs = [v] ∧ ExAt K H v e ∧ Shp e ∧ exZ e ≤ 100000 ∧ ∀ (H' : Hp) (l : Addr) (xs : List V), Same H H' → H l = none → H' l = some (.lst xs) → All2 (ExAt K H') xs (post e) → Q (.ref l) H'
section
variable {P : Program} {w : World} {K : PySem.W.Frag} {mg : Str → Option Value} {base : Heap} {f C_LEAVES C_ONE_PART : Addr} {fd : FuncData}
abbrev nPO : List Str := ["expression", "kind"]
theorem scPO : FnScope nPO ["expression"] (defScope sPartsOf) := ⟨rfl, rfl, rfl, by decide +kernel, rfl, by decide +kernel, by decide +kernel⟩
abbrev nFW : List Str := ["expression", "found", "waiting", "part"]
theorem scFW : FnScope nFW ["expression"] (defScope sFromWithin) := ⟨rfl, rfl, rfl, by decide +kernel, rfl, by decide +kernel, by decide +kernel⟩
theorem ok_parts (F : FnP K "parts_of" sPartsOf f fd) (T : Eq.Tx K mg C_LEAVES C_ONE_PART) : FnOk P w K mg base CX0 1 f fd ["expression"] (spParts K) := by
  refine F.ok scPO (fun vs H Q E h => ?_) (fun cdv A outer s H vs Q E hr h => ?_)
  · obtain ⟨v, e, rfl, _⟩ := h
    rfl
  · obtain ⟨v, e, rfl, hv, sh, q⟩ := h
    obtain ⟨a, xs, k, rfl, hs, hk, pk⟩ := pk_of hv sh
    refine ⟨_, PSs.nox (pss_cons (ps_set (i := 1) scPO.nd rfl (Or.inl rfl) (pe_ix (r := L2.rIxT K) (by exact ix_tup) (pv 0) pe_int (fun _ _ => rfl)))
      (pss_cons (ps_if (pt_cmpR (r := rIn K false) (by exact op_in_seq) (pv 1) (pe_glob (v := V.ref C_LEAVES) (by rfl) T.leaves rfl) (by rfl))
        (pss_one (ps_ret (pe_tup pa_nil)))
        pss_nil)
      (pss_cons (ps_if (pt_cmpR (r := rIn K false) (by exact op_in_seq) (pv 1) (pe_glob (v := V.ref C_ONE_PART) (by rfl) T.one rfl) (by rfl))
        (pss_one (ps_ret (pe_tup (pa_cons (pe_ix (r := L2.rIxT K) (by exact ix_tup) (pv 0) pe_int (fun _ _ => rfl)) pa_nil))))
        pss_nil)
      (pss_cons (ps_if (pt_cmpR op_eq (pv 1) pe_str (nomark _))
        (pss_one (ps_ret (pe_tup (pa_cons (pe_ix (r := L2.rIxT K) (by exact ix_tup) (pv 0) pe_int (fun _ _ => rfl)) pa_nil))))
        pss_nil)
      (pss_cons (ps_if (pt_cmpR op_eq (pv 1) pe_str (nomark _))
        (pss_one (ps_ret (pe_ix (r := L2.rIxT K) (by exact ix_tup) (pv 0) pe_int (fun _ _ => rfl))))
        pss_nil)
      (pss_one (ps_ret (pe_slice sl_tupA (pv 0) (po_some pe_int) po_none)))))))), ?_⟩
    have neF : ∀ {x y : Str}, x ≠ y → decide (V.str x = V.str y) = false := fun h => decide_eq_false fun e => h (V.str.inj e)
    refine ⟨_, rfl, a, _, 0, _, rfl, rfl, hs, at_of (j := 0) rfl hk, ?_⟩
    refine ⟨_, rfl, C_LEAVES, _, rfl, .inr (T.sqL H), rfl, by decide +kernel, _, rfl, ?_⟩
    have eL : (if false = true then !inV (V.str k) kL else inV (V.str k) kL) = inV (V.str k) kL := rfl
    have eO : (if false = true then !inV (V.str k) kO else inV (V.str k) kO) = inV (V.str k) kO := rfl
    rw [eL]
    cases pk with
    | leaf h1 hp => exact goT h1 ⟨len0, fun t nt => q _ t [] (same_new nt) (SqT.of upd_same) (by rw [hp]; exact .nil)⟩
    | one w0 p h1 h2 hx hp hw =>
      refine goF h1 ⟨_, rfl, C_ONE_PART, _, rfl, .inr (T.sqO H), rfl, by decide +kernel, _, rfl, goT h2 ⟨_, rfl, a, _, 1, _, rfl, rfl, hs, at_of (j := 1) rfl hx, len1, fun t nt => ?_⟩⟩
      exact q _ t [w0] (same_new nt) (SqT.of upd_same) (by rw [hp]; exact .cons (hw.firm (Firm.of (same_new nt))) .nil)
    | read w0 p h1 hx hp hw =>
      subst h1
      refine goF (by decide +kernel) ⟨_, rfl, C_ONE_PART, _, rfl, .inr (T.sqO H), rfl, by decide +kernel, _, rfl, goF (by decide +kernel) ⟨_, rfl, rfl, _, rfl, goT (decide_eq_true rfl) ⟨_, rfl, a, _, 2, _, rfl, rfl, hs, at_of (j := 2) rfl hx, len1, fun t nt => ?_⟩⟩⟩
      exact q _ t [w0] (same_new nt) (SqT.of upd_same) (by rw [hp]; exact .cons (hw.firm (Firm.of (same_new nt))) .nil)
    | join b ys h1 hx hb hy =>
      subst h1
      refine goF (by decide +kernel) ⟨_, rfl, C_ONE_PART, _, rfl, .inr (T.sqO H), rfl, by decide +kernel, _, rfl, goF (by decide +kernel) ⟨_, rfl, rfl, _, rfl, goF (neF (by decide)) ⟨_, rfl, rfl, _, rfl, goT (decide_eq_true rfl) ⟨_, rfl, a, _, 1, _, rfl, rfl, hs, at_of (j := 1) rfl hx, ?_⟩⟩⟩⟩
      exact q H b ys (Same.refl _) hb hy
    | rest h1 h2 h3 h4 hy =>
      refine goF h1 ⟨_, rfl, C_ONE_PART, _, rfl, .inr (T.sqO H), rfl, by decide +kernel, _, rfl, goF h2 ⟨_, rfl, rfl, _, rfl, goF (neF h3) ⟨_, rfl, rfl, _, rfl, goF (neF h4) ⟨_, rfl, _, rfl, from_use (m := 1) hs fun t H' s' ht => ?_⟩⟩⟩⟩
      exact q H' t _ s' ht (hy.imp fun _ _ h => h.firm (Firm.of s'))
theorem ok_within (F : FnP K "from_within" sFromWithin f fd) (T : Eq.Tx K mg C_LEAVES C_ONE_PART)
    {fPO : Addr} {dPO : FuncData}
    (GPO : FnOk P w K mg base CX0 1 fPO dPO ["expression"] (spParts K)) (gPO : mg "parts_of" = some (.ref fPO)) (kPO : PySem.W.keepIn K (.ref fPO) = true) (bPO : Binds K dPO ["expression"] [])
    : FnOk P w K mg base CX0 2 f fd ["expression"] (spWithin K) := by
  refine F.ok scFW (fun vs H Q E h => ?_) (fun cdv A outer s H vs Q E hr h => ?_)
  · obtain ⟨v, e, rfl, _⟩ := h
    rfl
  · obtain ⟨v, e, rfl, hv, sh, ez, q⟩ := h
    refine ⟨_, PSs.nox (pss_cons (ps_set (i := 1) scFW.nd rfl (Or.inl rfl) (pe_lst pa_nil))
      (pss_cons (ps_set (i := 2) scFW.nd rfl (Or.inl rfl) (pe_lst (pa_cons (pv 0) pa_nil)))
      (pss_cons (ps_while PassesOwn.never (pt_truth (pv 2) (by intro _; rfl))
        (pss_cons (ps_set (i := 3) scFW.nd rfl (Or.inl rfl) (pe_bm0 PySem.F.plainAttrs_list PySem.F.slot_list_pop PySem.F.type_list_pop mt_pop (pv 2)))
        (pss_cons (ps_expr (pe_bm PySem.F.plainAttrs_list PySem.F.slot_list_append PySem.F.type_list_append mt_append (pv 1) (pa_cons (pv 3) pa_nil)))
        (pss_one (ps_expr (pe_bm PySem.F.plainAttrs_list PySem.F.slot_list_extend PySem.F.type_list_extend (r := Dl.rExtT K) (by exact Dl.mt_extendT) (pv 2) (pa_cons (pe_call GPO (hr.mono (by decide)) (by rfl) gPO kPO bPO .nil pass0 (pa_cons (pv 3) pa_nil)) pa_nil)))))))
      (pss_one (ps_ret (pe_revL (pv 1))))))), ?_⟩
    refine ⟨len0, fun F nF => ⟨_, rfl, len1, fun W nW => ?_⟩⟩
    have sF := same_new (u := .lst []) nF
    have sW := same_new (u := .lst [v]) nW
    have s2 := sF.trans sW
    have hF2 := sW _ _ (upd_same (H := H) (a := F) (o := .lst []))
    have hW2 := upd_same (H := upd H F (.lst [])) (a := W) (o := .lst [v])
    have FW : F ≠ W := ne_of_none (upd_same (H := H) (a := F) (o := .lst [])) nW
    have nWH : H W = none := by
      cases e : H W with
      | none => rfl
      | some o =>
        rw [sF _ _ e] at nW
        cases nW
    generalize upd (upd H F _) W _ = H2 at s2 hF2 hW2 ⊢
    have Z : ∃ Z : L2.St → Hp → Prop, Z = fun σ H' => ∃ (x3 : Option V) (fs ws : List V) (gs es : List Ex), σ = [some v, some (.ref F), some (.ref W), x3] ∧ Same H H' ∧ H' F = some (.lst fs) ∧ H' W = some (.lst ws) ∧ All2 (ExAt K H') fs gs ∧ All2 (ExAt K H') ws es ∧ (∀ p ∈ es, Shp p) ∧ posts es ++ gs.reverse = post e := ⟨_, rfl⟩
    obtain ⟨Z, eZ⟩ := Z
    have start : Z [some v, some (.ref F), some (.ref W), none] H2 := by
      rw [eZ]
      exact ⟨_, [], [v], [], [e], rfl, s2, hF2, hW2, .nil, .cons (hv.firm (Firm.of s2)) .nil, fun p hp => (by rw [List.mem_singleton.mp hp]; exact sh), by rw [posts_one]; exact List.append_nil _⟩
    refine ⟨fun m σ H' => m = exZ e - lenAt H' F ∧ Z σ H', ⟨_, rfl, start⟩, ?_⟩
    rintro m σ H3 ⟨rfl, inv⟩
    rw [eZ] at inv
    obtain ⟨x3, fs, ws, gs, es, rfl, s3, hF3, hW3, aF, aW, shs, tot⟩ := inv
    have fl := aF.len
    have wl := aW.len
    have tl := congrArg List.length tot
    rw [List.length_append, List.length_reverse, posts_len, post_len] at tl
    have el := exZs_len es
    refine ⟨_, rfl, _, .inl ⟨ws, SqL.of hW3, rfl⟩, ?_⟩
    have l3 := lenAt_of hF3
    rcases List.eq_nil_or_concat es with ee | ⟨as, b, ee⟩
    · subst ee
      cases aW
      rw [show posts ([] : List Ex) = [] by rw [posts], List.nil_append] at tot
      refine iteF ⟨_, rfl, F, fs, rfl, SqL.of hF3, fun r nr => ?_⟩
      have nrH : H r = none := by
        cases e : H r with
        | none => rfl
        | some o =>
          rw [s3 _ _ e] at nr
          cases nr
      refine q _ r fs.reverse (s3.trans (same_new nr)) nrH upd_same ?_
      rw [← tot]
      exact all2_rev (aF.imp fun _ _ h => h.firm (Firm.of (same_new nr)))
    rw [List.concat_eq_append] at ee
    subst ee
    obtain ⟨us, x, rfl, aU, hx⟩ := all2_snoc aW
    have shb := shs b (List.mem_append_right _ (List.mem_singleton.mpr rfl))
    rw [exZs_app, exZs_cons, exZs_nil] at tl
    have bz := exZ_parts b
    have bl := exZs_len (parts b)
    have al := exZs_len as
    have ul := aU.len
    refine goT (by cases us <;> rfl) ⟨fun σ' H' => Z σ' H' ∧ lenAt H' F = fs.length + 1, fun σ' H' h => ⟨exZ e - lenAt H' F, by rw [h.2]; omega, rfl, h.1⟩, ?_⟩
    refine ⟨_, rfl, .inl ⟨rfl, _, SqL.of hW3⟩, W, us ++ [x], x, rfl, rfl, hW3, by rw [List.length_append, List.getElem?_append_right (by show us.length ≤ us.length + 1 - 1; omega)]; show [x][us.length + 1 - 1 - us.length]? = _; rw [show us.length + 1 - 1 - us.length = 0 by omega]; rfl, ?_⟩
    rw [List.dropLast_concat]
    have fW := Firm.upd (o := .lst us) hW3 rfl
    have hF4 : upd H3 W (.lst us) F = some (.lst fs) := by rw [upd_ne FW]; exact hF3
    have hW4 : upd H3 W (.lst us) W = some (.lst us) := upd_same
    have s4 : Same H (upd H3 W (.lst us)) := fun c o e => by rw [upd_ne (ne_of_none e nWH)]; exact s3 _ _ e
    generalize upd H3 W (.lst us) = H4 at fW hF4 hW4 s4 ⊢
    refine ⟨_, rfl, .inl ⟨rfl, _, SqL.of hF4⟩, _, rfl, F, fs, _, rfl, rfl, hF4, Nat.lt_of_le_of_lt (by omega : fs.length ≤ 100000) (by decide), ?_⟩
    have fF := Firm.upd (o := .lst (fs ++ [x])) hF4 rfl
    have hF5 : upd H4 F (.lst (fs ++ [x])) F = some (.lst (fs ++ [x])) := upd_same
    have hW5 : upd H4 F (.lst (fs ++ [x])) W = some (.lst us) := by rw [upd_ne FW.symm]; exact hW4
    have s5 : Same H (upd H4 F (.lst (fs ++ [x]))) := fun c o e => by rw [upd_ne (ne_of_none e nF)]; exact s4 _ _ e
    generalize upd H4 F _ = H5 at fF hF5 hW5 s5 ⊢
    have f5 := fW.trans fF
    refine ⟨_, rfl, .inl ⟨rfl, _, SqL.of hW5⟩, _, rfl, x, b, rfl, hx.firm f5, shb, fun H6 t xs s6 ht ax => ?_⟩
    have xl := ax.len
    refine ⟨W, t, us, xs, rfl, rfl, s6 _ _ hW5, ht, Nat.le_trans (by omega : us.length + xs.length ≤ 100000) (by decide), ?_⟩
    have fW2 := Firm.upd (o := .lst (us ++ xs)) (s6 _ _ hW5) rfl
    have f6 := (f5.trans (Firm.of s6)).trans fW2
    have hF7 : upd H6 W (.lst (us ++ xs)) F = some (.lst (fs ++ [x])) := by rw [upd_ne FW]; exact s6 _ _ hF5
    refine ⟨?_, by rw [lenAt_of hF7, List.length_append]; rfl⟩
    rw [eZ]
    refine ⟨_, fs ++ [x], us ++ xs, gs ++ [b], as ++ parts b, rfl, fun c o e => ?_, hF7, upd_same, (aF.imp fun _ _ h => h.firm f6).snoc (hx.firm f6), (aU.imp fun _ _ h => h.firm f6).append (ax.imp fun _ _ h => h.firm fW2), fun p hp => ?_, ?_⟩
    · rw [upd_ne (ne_of_none e nWH)]
      exact s6 _ _ (s5 _ _ e)
    · rcases List.mem_append.mp hp with g | g
      · exact shs p (List.mem_append_left _ g)
      · exact shp_parts shb p g
    · rw [posts_app, posts_one, post_parts] at tot
      rw [posts_app, List.reverse_append, ← tot]
      simp
end
end Eq
namespace Er
open PySem PySem.Spec PyProof.Rows L2 Pen Dat Ki Fi Ep Eq
/-! ## What goes over an expression from within: folded -/
theorem post_all {Vd : Ex → Prop} (cl : ∀ e, Vd e → ∀ p ∈ parts e, Vd p) : ∀ (n : Nat) (e : Ex), exZ e ≤ n → Vd e → ∀ x ∈ post e, Vd x
  | 0, e, h, _, _, _ => by
    have := exZ_pos e
    omega
  | n + 1, e, h, v, x, hx => by
    rw [post_parts] at hx
    rw [exZ_parts] at h
    rcases List.mem_append.mp hx with g | g
    · have key : ∀ (ps : List Ex), exZs ps ≤ n → (∀ p ∈ ps, Vd p) → ∀ x ∈ posts ps, Vd x := by
        intro ps
        induction ps with
        | nil =>
          intro _ _ x hx
          rw [posts] at hx
          cases hx
        | cons p ps ih =>
          intro hz hp x hx
          rw [exZs_cons] at hz
          rw [posts] at hx
          rcases List.mem_append.mp hx with g | g
          · exact post_all cl n p (by omega) (hp p List.mem_cons_self) x g
          · exact ih (by omega) (fun q hq => hp q (List.mem_cons_of_mem _ hq)) x g
      exact key (parts e) (by omega) (cl e v) x g
    · rw [List.mem_singleton.mp g]
      exact v
/-- what the action is asked: Tch: the things that it may change; Iv: what holds all the time; Rel: a value tells what; Vd: which expressions -/
structure FoldOk {α : Type} (K : PySem.W.Frag) (kn : V) (spA : Sp) (den : Ex → α) (Tch : Addr → Prop) (Iv : Hp → Prop) (Rel : Hp → V → α → Prop) (Vd : Ex → Prop) : Prop where
  shp : ∀ e, Vd e → Shp e
  sub : ∀ e, Vd e → ∀ p ∈ parts e, Vd p
  stay : ∀ H H', Iv H → Firm H H' → (∀ b o, Tch b → H b = some o → H' b = some o) → Iv H' ∧ ∀ v x, Rel H v x → Rel H' v x
  act : ∀ (H : Hp) (v : V) (e : Ex) (L : Addr) (ws : List V) (Q : VK) (E : XK), Vd e → Iv H → ExAt K H v e → H L = some (.lst ws) → All2 (Rel H) ws ((parts e).map den) →
    (∀ (H' : Hp) (r : V), Iv H' → Firm H H' → (∀ b o, H b = some o → ¬ Tch b → H' b = some o) → (∀ v x, Rel H v x → Rel H' v x) → Rel H' r (den e) → Q r H') → spA [kn, v, .ref L] H Q E
def spFold (K : PySem.W.Frag) (fA : Addr) (spA : Sp) : Sp := fun vs H Q _ => ∃ (α : Type) (ve kn : V) (e : Ex) (den : Ex → α) (Tch : Addr → Prop) (Iv : Hp → Prop) (Rel : Hp → V → α → Prop) (Vd : Ex → Prop), vs = [ve, .ref fA, kn] ∧ ExAt K H ve e ∧ exZ e ≤ 100000 ∧ Vd e ∧ (∀ b, Tch b → H b ≠ none) ∧ Iv H ∧ FoldOk K kn spA den Tch Iv Rel Vd ∧
  ∀ (H' : Hp) (r : V), Iv H' → Firm H H' → (∀ b o, H b = some o → ¬ Tch b → H' b = some o) → Rel H' r (den e) → Q r H'
theorem all2_drop {β : Type} {R : V → β → Prop} : ∀ {vs : List V} {xs : List β} (n : Nat), All2 R vs xs → All2 R (vs.drop n) (xs.drop n)
  | _, _, 0, h => h
  | _, _, _ + 1, .nil => .nil
  | _, _, n + 1, .cons _ t => by
    rw [List.drop_succ_cons, List.drop_succ_cons]
    exact all2_drop n t
section
variable {P : Program} {w : World} {K : PySem.W.Frag} {mg : Str → Option Value} {base : Heap} {f fA C_LEAVES C_ONE_PART : Addr} {fd dA : FuncData} {psA : List Str} {spA : Sp} {ka n : Nat}
abbrev nFO : List Str := ["expression", "action", "known", "told", "part", "first", "found"]
theorem scFO : FnScope nFO ["expression", "action", "known"] (defScope sFolded) := ⟨rfl, rfl, rfl, by decide +kernel, rfl, by decide +kernel, by decide +kernel⟩
theorem ok_folded (F : FnP K "folded" sFolded f fd) (T : Eq.Tx K mg C_LEAVES C_ONE_PART) (GA : FnOk P w K mg base CX0 ka fA dA psA spA) (kA : PySem.W.keepIn K (.ref fA) = true) (bA : Binds K dA psA []) (hk : ka ≤ n) (h3 : 2 ≤ n)
    {fFW fPO : Addr} {dFW dPO : FuncData}
    (GFW : FnOk P w K mg base CX0 2 fFW dFW ["expression"] (spWithin K)) (gFW : mg "from_within" = some (.ref fFW)) (kFW : PySem.W.keepIn K (.ref fFW) = true) (bFW : Binds K dFW ["expression"] [])
    (GPO : FnOk P w K mg base CX0 1 fPO dPO ["expression"] (spParts K)) (gPO : mg "parts_of" = some (.ref fPO)) (kPO : PySem.W.keepIn K (.ref fPO) = true) (bPO : Binds K dPO ["expression"] [])
    : FnOk P w K mg base CX0 (n + 1) f fd ["expression", "action", "known"] (spFold K fA spA) := by
  refine F.ok scFO (fun vs H Q E h => ?_) (fun cdv A outer s H vs Q E hr h => ?_)
  · obtain ⟨α, ve, kn, e, den, Tch, Iv, Rel, Vd, rfl, _⟩ := h
    rfl
  · obtain ⟨α, ve, kn, e, den, Tch, Iv, Rel, Vd, rfl, hv, ez, vd, tch, iv, ok, q⟩ := h
    refine ⟨_, PSs.nox (pss_cons (ps_set (i := 3) scFO.nd rfl (Or.inl rfl) (pe_lst pa_nil))
      (pss_cons (ps_for PassesOwn.never rfl (pi_list (pe_call GFW (hr.mono (by omega)) (by rfl) gFW kFW bFW .nil pass0 (pa_cons (pv 0) pa_nil))) (pg_name (i := 4) scFO.nd rfl (Or.inl rfl))
        (pss_cons (ps_set (i := 5) scFO.nd rfl (Or.inl rfl) (pe_op op_sub (pe_callB call_len_seq (by rfl) T.len PySem.boot_len (pa_cons (pv 3) pa_nil)) (pe_callB call_len_seq (by rfl) T.len PySem.boot_len (pa_cons (pe_call GPO (hr.mono (by omega)) (by rfl) gPO kPO bPO .nil pass0 (pa_cons (pv 4) pa_nil)) pa_nil))))
        (pss_cons (ps_set (i := 6) scFO.nd rfl (Or.inl rfl) (pe_callL (i := 1) (dvs := []) GA (hr.mono (by omega)) rfl (.inl rfl) kA bA .nil pass0 (pa_cons (pv 2) (pa_cons (pv 4) (pa_cons (pe_slice sl_list (pv 3) (po_some (pv 5)) po_none) pa_nil)))))
        (pss_cons (Dl.ps_delF (pv 3) (pv 5))
        (pss_one (ps_expr (pe_bm PySem.F.plainAttrs_list PySem.F.slot_list_append PySem.F.type_list_append mt_append (pv 3) (pa_cons (pv 6) pa_nil))))))))
      (pss_one (ps_ret (pe_ix ix_list (pv 3) pe_int (fun _ _ => rfl)))))), ?_⟩
    refine ⟨len0, fun D nD => ?_⟩
    have sD := same_new (u := .lst []) nD
    have tD : ¬ Tch D := fun h => tch D h nD
    have hD1 := upd_same (H := H) (a := D) (o := .lst [])
    refine ⟨_, rfl, ve, e, rfl, hv.firm (Firm.of sD), ok.shp e vd, ez, fun H2 L xs s2 nL hL ax => ?_⟩
    have s02 := sD.trans s2
    have LD : D ≠ L := ne_of_none hD1 nL
    have nLH : H L = none := by
      cases e : H L with
      | none => rfl
      | some o =>
        rw [sD _ _ e] at nL
        cases nL
    have tL : ¬ Tch L := fun h => tch L h nLH
    have hD2 := s2 _ _ hD1
    obtain ⟨iv2, _⟩ := ok.stay H H2 iv (Firm.of s02) fun b o _ e => s02 b o e
    have vall := post_all ok.sub (exZ e) e (Nat.le_refl _) vd
    have xl := ax.len
    refine ⟨L, rfl, ⟨_, SqL.of hL⟩, for_list (K := K) (a := L) (xs := xs)
      (fun i σ H' => ∃ (x4 x5 x6 : Option V) (ts : List V) (st : List Ex), σ = [some ve, some (.ref fA), some kn, some (.ref D), x4, x5, x6] ∧ Iv H' ∧ Firm H H' ∧ Firm H2 H' ∧ (∀ b o, H b = some o → ¬ Tch b → H' b = some o) ∧ H' D = some (.lst ts) ∧ H' L = some (.lst xs) ∧ All2 (Rel H') ts (st.map den) ∧ Runs st ((post e).drop i) [e] ∧ st.length ≤ i)
      ⟨_, _, _, [], [], rfl, iv2, Firm.of s02, Firm.refl _, (fun b o e _ => s02 b o e), hD2, hL, .nil, runs_all e, Nat.le_refl _⟩ (fun i σ H' _ ⟨_, _, _, _, _, _, _, _, _, _, _, h, _⟩ => SqL.of h) ?_ ?_⟩
    · rintro i y σ H3 hy ⟨x4, x5, x6, ts, st, rfl, iv3, f3, f23, kp3, hD3, hL3, aT, rn, sl⟩
      obtain ⟨p, hp, hyp⟩ := ax.get hy
      obtain ⟨lt, ep⟩ := List.getElem?_eq_some_iff.mp hp
      have pv := vall p (List.mem_of_getElem? hp)
      rw [List.drop_eq_getElem_cons lt, ep] at rn
      cases rn with
      | cons s0 r0 fin e0 rn2 =>
      have tsl := aT.len
      rw [List.length_map, List.length_append] at tsl
      rw [List.length_append] at sl
      rw [List.map_append] at aT
      have pl := post_len e
      have hy3 := hyp.firm f23
      refine ⟨_, rfl, D, ts, rfl, .inl (SqL.of hD3), _, rfl, y, p, rfl, hy3, ok.shp p pv, fun H4 t ys s4 ht ay => ⟨t, ys, rfl, .inr ht, _, _, rfl, rfl, ?_⟩⟩
      have yl := ay.len
      have es : (ts.length : Int) - (ys.length : Int) = ((s0.length : Nat) : Int) := by omega
      have s0l : (s0.map den).length = s0.length := List.length_map ..
      have arr := all2_drop s0.length aT
      have ara := aT.take s0.length
      rw [← s0l, List.drop_left, s0l] at arr
      rw [← s0l, List.take_left, s0l] at ara
      refine ⟨rfl, _, rfl, _, rfl, _, rfl, _, rfl, _, rfl, D, _, rfl, SqL.of (s4 _ _ hD3), fun d nd => ?_⟩
      rw [es, cut_from]
      have sd := same_new (u := .lst (ts.drop s0.length)) nd
      have hd5 := upd_same (H := H4) (a := d) (o := .lst (ts.drop s0.length))
      have s35 := s4.trans sd
      generalize upd H4 d _ = H5 at sd hd5 s35 ⊢
      obtain ⟨iv5, rl5⟩ := ok.stay H3 H5 iv3 (Firm.of s35) fun b o _ e => s35 b o e
      refine ok.act H5 y p d (ts.drop s0.length) _ _ pv iv5 (hy3.firm (Firm.of s35)) hd5 (arr.imp rl5) fun H6 r iv6 f6 kp6 rl6 hr => ?_
      have hD6 := kp6 D _ (s35 _ _ hD3) tD
      have hL6 := kp6 L _ (s35 _ _ hL3) tL
      refine ⟨_, rfl, _, rfl, _, rfl, D, ts, s0.length, rfl, congrArg some es, hD6, by omega, ?_⟩
      refine ⟨_, rfl, .inl ⟨rfl, _, SqL.of upd_same⟩, _, rfl, D, _, r, rfl, rfl, upd_same, Nat.lt_of_le_of_lt (by rw [List.length_take]; omega : (ts.take s0.length).length ≤ 100000) (by decide), ?_⟩
      have u1 := Firm.upd (o := .lst (ts.take s0.length)) hD6 rfl
      have u2 := Firm.upd (a := D) (o := .lst (ts.take s0.length ++ [r])) (upd_same (H := H6) (a := D) (o := .lst (ts.take s0.length))) rfl
      have f68 := u1.trans u2
      have oth : ∀ b, b ≠ D → upd (upd H6 D (.lst (ts.take s0.length))) D (.lst (ts.take s0.length ++ [r])) b = H6 b := fun b h => by rw [upd_ne h, upd_ne h]
      have hD8 := upd_same (H := upd H6 D (.lst (ts.take s0.length))) (a := D) (o := .lst (ts.take s0.length ++ [r]))
      generalize upd (upd H6 D _) D _ = H8 at f68 oth hD8 ⊢
      obtain ⟨iv8, rl8⟩ := ok.stay H6 H8 iv6 f68 fun b o tb e => (by rw [oth b (fun h => tD (h ▸ tb))]; exact e)
      have f38 := (Firm.of s35).trans (f6.trans f68)
      refine ⟨_, _, _, _, s0 ++ [p], rfl, iv8, f3.trans f38, f23.trans f38, fun b o e nb => ?_, hD8, by rw [oth L (Ne.symm LD)]; exact hL6, ?_, rn2, by rw [List.length_append]; show s0.length + 1 ≤ i + 1; omega⟩
      · have b0 : b ≠ D := fun h => by rw [h, nD] at e; cases e
        rw [oth b b0]
        exact kp6 b o (s35 _ _ (kp3 b o e nb)) nb
      · rw [List.map_append]
        exact (ara.imp fun v x h => rl8 _ _ (rl6 _ _ (rl5 _ _ h))).append (.cons (rl8 _ _ hr) .nil)
    · rintro σ H3 ⟨x4, x5, x6, ts, st, rfl, iv3, f3, f23, kp3, hD3, hL3, aT, rn, sl⟩
      rw [xl, List.drop_length] at rn
      cases rn
      cases aT with
      | cons h1 h2 =>
        cases h2
        exact ⟨_, rfl, D, _, 0, _, rfl, rfl, SqL.of hD3, at_of (j := 0) rfl rfl, q _ _ iv3 f3 kp3 h1⟩
end
end Er
namespace Es
open PySem PySem.Spec PyProof.Rows L2 Pen Dat Ki Fi Ep
/-! ## What expressions mean: widths, and words beneath the widths -/
/-- the widths of names, ports, memories (with the width of their places) -/
structure Gam where
  nm : Str → Option Nat
  pt : Str → Str → Option Nat
  mm : Str → Option (Nat × Nat)
structure Vl where
  nm : Str → Nat
  pt : Str → Str → Nat
  mm : Str → Nat → Nat
structure Good (Γ : Gam) (V : Vl) : Prop where
  nm : ∀ n w, Γ.nm n = some w → V.nm n < 2 ^ w
  pt : ∀ u n w, Γ.pt u n = some w → V.pt u n < 2 ^ w
  mm : ∀ m w b, Γ.mm m = some (w, b) → ∀ i, i < 2 ^ b → V.mm m i < 2 ^ w
mutual
inductive Wt (Γ : Gam) : Ex → Nat → Prop
  | num (w v : Nat) : 1 ≤ w → w ≤ 4096 → v < 2 ^ w → Wt Γ (.lf (.num w v)) w
  | nam (n : Str) (w : Nat) : w ≤ 4096 → Γ.nm n = some w → Wt Γ (.lf (.nam n)) w
  | port (u n : Str) (w : Nat) : w ≤ 4096 → Γ.pt u n = some w → Wt Γ (.lf (.port u n)) w
  | read (m : Str) (p : Ex) (w b : Nat) : w ≤ 4096 → Γ.mm m = some (w, b) → Wt Γ p b → Wt Γ (.op (.read m) [p]) w
  | un (k : Str) (p : Ex) (w : Nat) : k = "not" ∨ k = "minus" → w ≤ 4096 → Wt Γ p w → Wt Γ (.op (.un k) [p]) w
  | sh (k : Str) (n : Nat) (p : Ex) (w : Nat) : k = "left" ∨ k = "right" → n ≤ 4096 → w ≤ 4096 → Wt Γ p w → Wt Γ (.op (.sh k n) [p]) w
  | slc (h l : Nat) (p : Ex) (w : Nat) : l ≤ h → h < w → w ≤ 4096 → Wt Γ p w → Wt Γ (.op (.slc h l) [p]) (h - l + 1)
  | bin (k : Str) (p q : Ex) (w : Nat) : k = "and" ∨ k = "or" ∨ k = "xor" ∨ k = "plus" ∨ k = "times" → w ≤ 4096 → Wt Γ p w → Wt Γ q w → Wt Γ (.op (.bin k) [p, q]) w
  | cmp (k : Str) (p q : Ex) (w : Nat) : k = "equal" ∨ k = "below" → w ≤ 4096 → Wt Γ p w → Wt Γ q w → Wt Γ (.op (.bin k) [p, q]) 1
  | ite (c p q : Ex) (w : Nat) : w ≤ 4096 → Wt Γ c 1 → Wt Γ p w → Wt Γ q w → Wt Γ (.op .ite [c, p, q]) w
  | join (ps : List Ex) (ws : List Nat) : Wts Γ ps ws → ws.sum ≤ 4096 → Wt Γ (.op .join ps) ws.sum
inductive Wts (Γ : Gam) : List Ex → List Nat → Prop
  | nil : Wts Γ [] []
  | cons (p : Ex) (ps : List Ex) (w : Nat) (ws : List Nat) : Wt Γ p w → Wts Γ ps ws → Wts Γ (p :: ps) (w :: ws)
end
abbrev WV := Nat × Nat
def joinP (s : WV) (ds : List WV) : WV := ds.foldl (fun s d => (s.1 + d.1, s.2 * 2 ^ d.1 + d.2)) s
def unP (k : Str) (c : WV) : WV := if k = "not" then (c.1, 2 ^ c.1 - 1 - c.2) else (c.1, (2 ^ c.1 - c.2) % 2 ^ c.1)
def shP (k : Str) (n : Nat) (c : WV) : WV := if k = "left" then (c.1, c.2 * 2 ^ n % 2 ^ c.1) else (c.1, c.2 / 2 ^ n)
def binP (k : Str) (a b : WV) : WV :=
  if k = "and" then (a.1, a.2 &&& b.2) else if k = "or" then (a.1, a.2 ||| b.2) else if k = "xor" then (a.1, a.2 ^^^ b.2)
  else if k = "plus" then (a.1, (a.2 + b.2) % 2 ^ a.1) else if k = "times" then (a.1, a.2 * b.2 % 2 ^ a.1)
  else if k = "equal" then (1, if a.2 = b.2 then 1 else 0) else (1, if a.2 < b.2 then 1 else 0)
def opP (Γ : Gam) (V : Vl) : Op → List WV → WV
  | .read m, [c] => (((Γ.mm m).getD (0, 0)).1, V.mm m c.2)
  | .un k, [c] => unP k c
  | .sh k n, [c] => shP k n.toNat c
  | .slc h l, [c] => (h.toNat - l.toNat + 1, c.2 / 2 ^ l.toNat % 2 ^ (h.toNat - l.toNat + 1))
  | .bin k, [a, b] => binP k a b
  | .ite, [c, a, b] => if c.2 = 1 then a else b
  | .join, ds => joinP (0, 0) ds
  | _, _ => (0, 0)
def lfP (Γ : Gam) (V : Vl) : Lf → WV
  | .num w v => (w.toNat, v.toNat)
  | .nam n => ((Γ.nm n).getD 0, V.nm n)
  | .port u n => ((Γ.pt u n).getD 0, V.pt u n)
mutual
def den (Γ : Gam) (V : Vl) : Ex → WV
  | .lf l => lfP Γ V l
  | .op o ps => opP Γ V o (dens Γ V ps)
def dens (Γ : Gam) (V : Vl) : List Ex → List WV
  | [] => []
  | p :: ps => den Γ V p :: dens Γ V ps
end
theorem dens_map (Γ : Gam) (V : Vl) : ∀ ps : List Ex, dens Γ V ps = ps.map (den Γ V)
  | [] => by rw [dens]; rfl
  | p :: ps => by rw [dens, dens_map Γ V ps]; rfl
theorem den_op (Γ : Gam) (V : Vl) (o : Op) (ps : List Ex) : den Γ V (.op o ps) = opP Γ V o (ps.map (den Γ V)) := by rw [den, dens_map]
theorem den_lf (Γ : Gam) (V : Vl) (l : Lf) : den Γ V (.lf l) = lfP Γ V l := by rw [den]
section
variable {Γ : Gam} {V : Vl}
theorem Wt.shp {e : Ex} {w : Nat} (h : Wt Γ e w) : Shp e := by
  refine Wt.rec (motive_1 := fun e _ _ => Shp e) (motive_2 := fun ps _ _ => Shps ps) ?_ ?_ ?_ ?_ ?_ ?_ ?_ ?_ ?_ ?_ ?_ ?_ ?_ h
  · intro w v _ _ _; rw [Shp]; trivial
  · intro n w _ _; rw [Shp]; trivial
  · intro u n w _ _; rw [Shp]; trivial
  · intro m p w b _ _ _ ih; rw [Shp, Shps, Shps]; exact ⟨rfl, ih, trivial⟩
  · intro k p w hk _ _ ih; rw [Shp, Shps, Shps]; exact ⟨⟨rfl, hk⟩, ih, trivial⟩
  · intro k n p w hk _ _ _ ih; rw [Shp, Shps, Shps]; exact ⟨⟨rfl, hk⟩, ih, trivial⟩
  · intro h l p w _ _ _ _ ih; rw [Shp, Shps, Shps]; exact ⟨rfl, ih, trivial⟩
  · intro k p q w hk _ _ _ ih1 ih2; rw [Shp, Shps, Shps, Shps]; exact ⟨⟨rfl, by rcases hk with h | h | h | h | h <;> simp [h]⟩, ih1, ih2, trivial⟩
  · intro k p q w hk _ _ _ ih1 ih2; rw [Shp, Shps, Shps, Shps]; exact ⟨⟨rfl, by rcases hk with h | h <;> simp [h]⟩, ih1, ih2, trivial⟩
  · intro c p q w _ _ _ _ ih1 ih2 ih3; rw [Shp, Shps, Shps, Shps, Shps]; exact ⟨rfl, ih1, ih2, ih3, trivial⟩
  · intro ps ws _ _ ih; rw [Shp]; exact ⟨trivial, ih⟩
  · rw [Shps]; trivial
  · intro p ps w ws _ _ ih1 ih2; rw [Shps]; exact ⟨ih1, ih2⟩
theorem Wt.le {e : Ex} {w : Nat} (h : Wt Γ e w) : w ≤ 4096 := by
  cases h <;> first | assumption | omega
theorem wts_mem : ∀ {ps : List Ex} {ws : List Nat}, Wts Γ ps ws → ∀ p ∈ ps, ∃ w, Wt Γ p w
  | _, _, .nil, _, h => by cases h
  | _, _, .cons p ps w ws h t, q, hq => by
    rcases List.mem_cons.mp hq with g | g
    · exact ⟨w, g ▸ h⟩
    · exact wts_mem t q g
theorem Wt.sub {e : Ex} {w : Nat} (h : Wt Γ e w) : ∀ p ∈ parts e, ∃ w, Wt Γ p w := by
  intro p hp
  cases h with
  | num => cases hp
  | nam => cases hp
  | port => cases hp
  | read m p0 w b _ _ h => rw [List.mem_singleton.mp hp]; exact ⟨_, h⟩
  | un k p0 w _ _ h => rw [List.mem_singleton.mp hp]; exact ⟨_, h⟩
  | sh k n p0 w _ _ _ h => rw [List.mem_singleton.mp hp]; exact ⟨_, h⟩
  | slc hh l p0 w _ _ _ h => rw [List.mem_singleton.mp hp]; exact ⟨_, h⟩
  | bin k p0 q0 w _ _ h1 h2 =>
    have hp' : p ∈ [p0, q0] := hp
    simp only [List.mem_cons, List.not_mem_nil, or_false] at hp'
    rcases hp' with rfl | rfl
    · exact ⟨_, h1⟩
    · exact ⟨_, h2⟩
  | cmp k p0 q0 w _ _ h1 h2 =>
    have hp' : p ∈ [p0, q0] := hp
    simp only [List.mem_cons, List.not_mem_nil, or_false] at hp'
    rcases hp' with rfl | rfl
    · exact ⟨_, h1⟩
    · exact ⟨_, h2⟩
  | ite c p0 q0 w _ h0 h1 h2 =>
    have hp' : p ∈ [c, p0, q0] := hp
    simp only [List.mem_cons, List.not_mem_nil, or_false] at hp'
    rcases hp' with rfl | rfl | rfl
    · exact ⟨_, h0⟩
    · exact ⟨_, h1⟩
    · exact ⟨_, h2⟩
  | join ps ws h _ => exact wts_mem h p hp
theorem one_lt : (0 : Nat) < 2 ^ 1 ∧ (1 : Nat) < 2 ^ 1 := by decide
theorem binP_lt {k : Str} {a b : WV} (hk : k = "and" ∨ k = "or" ∨ k = "xor" ∨ k = "plus" ∨ k = "times") {w : Nat} (ha : a.1 = w ∧ a.2 < 2 ^ w) (hb : b.1 = w ∧ b.2 < 2 ^ w) : (binP k a b).1 = w ∧ (binP k a b).2 < 2 ^ w := by
  have pw : 0 < 2 ^ w := Nat.two_pow_pos w
  unfold binP
  obtain ⟨rfl, ha⟩ := ha
  rcases hk with rfl | rfl | rfl | rfl | rfl
  · rw [if_pos rfl]; exact ⟨rfl, Nat.lt_of_le_of_lt Nat.and_le_left ha⟩
  · rw [if_neg (by decide), if_pos rfl]; exact ⟨rfl, Nat.or_lt_two_pow ha hb.2⟩
  · rw [if_neg (by decide), if_neg (by decide), if_pos rfl]; exact ⟨rfl, Nat.xor_lt_two_pow ha hb.2⟩
  · rw [if_neg (by decide), if_neg (by decide), if_neg (by decide), if_pos rfl]; exact ⟨rfl, Nat.mod_lt _ pw⟩
  · rw [if_neg (by decide), if_neg (by decide), if_neg (by decide), if_neg (by decide), if_pos rfl]; exact ⟨rfl, Nat.mod_lt _ pw⟩
theorem cmpP_lt {k : Str} {a b : WV} (hk : k = "equal" ∨ k = "below") : (binP k a b).1 = 1 ∧ (binP k a b).2 < 2 ^ 1 := by
  unfold binP
  rcases hk with rfl | rfl
  · rw [if_neg (by decide), if_neg (by decide), if_neg (by decide), if_neg (by decide), if_neg (by decide), if_pos rfl]
    refine ⟨rfl, ?_⟩
    show (if a.2 = b.2 then 1 else 0) < 2 ^ 1
    split <;> decide
  · rw [if_neg (by decide), if_neg (by decide), if_neg (by decide), if_neg (by decide), if_neg (by decide), if_neg (by decide)]
    refine ⟨rfl, ?_⟩
    show (if a.2 < b.2 then 1 else 0) < 2 ^ 1
    split <;> decide
theorem joinP_lt : ∀ {ds : List WV} {ws : List Nat} (s : WV), (∀ i : Nat, (ds[i]?).map (fun d : WV => d.1) = ws[i]?) → (∀ d ∈ ds, d.2 < 2 ^ d.1) → s.2 < 2 ^ s.1 → (joinP s ds).1 = s.1 + ws.sum ∧ (joinP s ds).2 < 2 ^ (s.1 + ws.sum)
  | [], ws, s, hw, _, hs => by
    cases ws with
    | nil => exact ⟨rfl, hs⟩
    | cons w ws => have := hw 0; simp at this
  | d :: ds, ws, s, hw, hd, hs => by
    cases ws with
    | nil => have := hw 0; simp at this
    | cons w ws =>
      have h0 := hw 0
      simp at h0
      subst h0
      have hd0 := hd d List.mem_cons_self
      have st : s.2 * 2 ^ d.1 + d.2 < 2 ^ (s.1 + d.1) := by
        rw [Nat.pow_add]
        have h1 : (s.2 + 1) * 2 ^ d.1 ≤ 2 ^ s.1 * 2 ^ d.1 := Nat.mul_le_mul_right _ hs
        rw [Nat.add_mul, Nat.one_mul] at h1
        omega
      have ih := joinP_lt (ds := ds) (ws := ws) (s.1 + d.1, s.2 * 2 ^ d.1 + d.2) (fun i => by have := hw (i + 1); simpa using this) (fun e he => hd e (List.mem_cons_of_mem _ he)) st
      rw [List.sum_cons, ← Nat.add_assoc]
      exact ih
theorem wt_den (g : Good Γ V) {e : Ex} {w : Nat} (h : Wt Γ e w) : (den Γ V e).1 = w ∧ (den Γ V e).2 < 2 ^ w := by
  refine Wt.rec (motive_1 := fun e w _ => (den Γ V e).1 = w ∧ (den Γ V e).2 < 2 ^ w) (motive_2 := fun ps ws _ => (∀ i : Nat, ((dens Γ V ps)[i]?).map (fun d : WV => d.1) = ws[i]?) ∧ ∀ d ∈ dens Γ V ps, d.2 < 2 ^ d.1) ?_ ?_ ?_ ?_ ?_ ?_ ?_ ?_ ?_ ?_ ?_ ?_ ?_ h
  · intro w v _ _ h; rw [den_lf]; exact ⟨Int.toNat_natCast w, by show (v : Int).toNat < _; rw [Int.toNat_natCast]; exact h⟩
  · intro n w _ h; rw [den_lf]; exact ⟨by show (Γ.nm n).getD 0 = w; rw [h]; rfl, g.nm n w h⟩
  · intro u n w _ h; rw [den_lf]; exact ⟨by show (Γ.pt u n).getD 0 = w; rw [h]; rfl, g.pt u n w h⟩
  · intro m p w b _ h _ ih; rw [den_op]; exact ⟨by show ((Γ.mm m).getD (0, 0)).1 = w; rw [h]; rfl, g.mm m w b h _ ih.2⟩
  · intro k p w hk _ _ ih
    rw [den_op]
    show (unP k (den Γ V p)).1 = w ∧ (unP k (den Γ V p)).2 < 2 ^ w
    obtain ⟨e1, e2⟩ := ih
    have pw := Nat.two_pow_pos w
    unfold unP
    rw [e1]
    split
    · exact ⟨rfl, by show 2 ^ w - 1 - _ < _; omega⟩
    · exact ⟨rfl, Nat.mod_lt _ pw⟩
  · intro k n p w hk _ _ _ ih
    rw [den_op]
    show (shP k (n : Int).toNat (den Γ V p)).1 = w ∧ (shP k (n : Int).toNat (den Γ V p)).2 < 2 ^ w
    obtain ⟨e1, e2⟩ := ih
    unfold shP
    rw [e1]
    split
    · exact ⟨rfl, Nat.mod_lt _ (Nat.two_pow_pos w)⟩
    · exact ⟨rfl, Nat.lt_of_le_of_lt (Nat.div_le_self _ _) e2⟩
  · intro h l p w _ _ _ _ _
    rw [den_op]
    show (h : Int).toNat - (l : Int).toNat + 1 = _ ∧ (den Γ V p).2 / 2 ^ (l : Int).toNat % 2 ^ ((h : Int).toNat - (l : Int).toNat + 1) < _
    rw [Int.toNat_natCast, Int.toNat_natCast]
    exact ⟨rfl, Nat.mod_lt _ (Nat.two_pow_pos _)⟩
  · intro k p q w hk _ _ _ ih1 ih2
    rw [den_op]
    exact binP_lt hk ih1 ih2
  · intro k p q w hk _ _ _ _ _
    rw [den_op]
    exact cmpP_lt hk
  · intro c p q w _ _ _ _ _ ih2 ih3
    rw [den_op]
    show (if (den Γ V c).2 = 1 then den Γ V p else den Γ V q).1 = w ∧ (if (den Γ V c).2 = 1 then den Γ V p else den Γ V q).2 < 2 ^ w
    split
    · exact ih2
    · exact ih3
  · intro ps ws _ _ ih
    rw [den]
    have := joinP_lt (0, 0) ih.1 ih.2 (by decide)
    rw [Nat.zero_add] at this
    exact this
  · rw [dens]; exact ⟨fun i => rfl, fun d h => by cases h⟩
  · intro p ps w ws _ _ ih1 ih2
    rw [dens]
    refine ⟨fun i => ?_, fun d hd => ?_⟩
    · cases i with
      | zero => show some (den Γ V p).1 = some w; rw [ih1.1]
      | succ i => exact ih2.1 i
    · rcases List.mem_cons.mp hd with g | g
      · rw [g, ih1.1]; exact ih1.2
      · exact ih2.2 d g
end
/-! ### a word in the heap -/
def WAt (K : PySem.W.Frag) (H : Hp) (v : V) (x : WV) : Prop := Pt K H v ((x.1 : Int), (x.2 : Int))
theorem WAt.firm {K : PySem.W.Frag} {H H' : Hp} {v : V} {x : WV} (s : Firm H H') (h : WAt K H v x) : WAt K H' v x := Pt.firm s h
def opK : Op → Str
  | .read _ => "read"
  | .un k => k
  | .sh k _ => k
  | .slc _ _ => "slice"
  | .bin k => k
  | .ite => "if"
  | .join => "join"
/-- a def of the table: the word of an operator out of the words of its parts -/
def spAct (K : PySem.W.Frag) (kd : Str) : Sp := fun vs H Q _ => ∃ (Γ : Gam) (U : Vl) (v : V) (L : Addr) (o : Op) (ps : List Ex) (w : Nat) (ws : List V), vs = [v, .ref L] ∧ opK o = kd ∧ Wt Γ (.op o ps) w ∧ Good Γ U ∧ ExAt K H v (.op o ps) ∧ H L = some (.lst ws) ∧ All2 (WAt K H) ws (ps.map (den Γ U)) ∧
  ∀ H' r, Same H H' → WAt K H' r (den Γ U (.op o ps)) → Q r H'
end Es
namespace Et
open PySem PySem.Spec PyProof.Rows L2 Pen Dat Ki Fi Ep Eq Es
/-! ## The words of the operators -/
section
variable {Γ : Gam}
theorem inv_un {o : Op} {ps : List Ex} {w : Nat} {k : Str} (hk : k = "not" ∨ k = "minus") (ko : opK o = k) (h : Wt Γ (.op o ps) w) : ∃ p, o = .un k ∧ ps = [p] ∧ Wt Γ p w := by
  subst ko
  cases h with
  | un k p w _ _ h => exact ⟨p, rfl, rfl, h⟩
  | read => exact absurd hk (by simp only [opK]; decide)
  | slc => exact absurd hk (by simp only [opK]; decide)
  | ite => exact absurd hk (by simp only [opK]; decide)
  | join => exact absurd hk (by simp only [opK]; decide)
  | sh k n p w h1 => rcases h1 with rfl | rfl <;> exact absurd hk (by simp only [opK]; decide)
  | bin k p q w h1 => rcases h1 with rfl | rfl | rfl | rfl | rfl <;> exact absurd hk (by simp only [opK]; decide)
  | cmp k p q w h1 => rcases h1 with rfl | rfl <;> exact absurd hk (by simp only [opK]; decide)
theorem inv_sh {o : Op} {ps : List Ex} {w : Nat} {k : Str} (hk : k = "left" ∨ k = "right") (ko : opK o = k) (h : Wt Γ (.op o ps) w) : ∃ (p : Ex) (n : Nat), o = .sh k n ∧ ps = [p] ∧ n ≤ 4096 ∧ Wt Γ p w := by
  subst ko
  cases h with
  | sh k n p w _ h1 _ h => exact ⟨p, n, rfl, rfl, h1, h⟩
  | read => exact absurd hk (by simp only [opK]; decide)
  | slc => exact absurd hk (by simp only [opK]; decide)
  | ite => exact absurd hk (by simp only [opK]; decide)
  | join => exact absurd hk (by simp only [opK]; decide)
  | un k p w h1 => rcases h1 with rfl | rfl <;> exact absurd hk (by simp only [opK]; decide)
  | bin k p q w h1 => rcases h1 with rfl | rfl | rfl | rfl | rfl <;> exact absurd hk (by simp only [opK]; decide)
  | cmp k p q w h1 => rcases h1 with rfl | rfl <;> exact absurd hk (by simp only [opK]; decide)
theorem inv_slc {o : Op} {ps : List Ex} {w : Nat} (ko : opK o = "slice") (h : Wt Γ (.op o ps) w) : ∃ (p : Ex) (h l u : Nat), o = .slc h l ∧ ps = [p] ∧ l ≤ h ∧ h < u ∧ u ≤ 4096 ∧ Wt Γ p u := by
  cases h with
  | slc h l p w h1 h2 h3 h4 => exact ⟨p, h, l, w, rfl, rfl, h1, h2, h3, h4⟩
  | read => exact absurd ko (by simp only [opK]; decide)
  | ite => exact absurd ko (by simp only [opK]; decide)
  | join => exact absurd ko (by simp only [opK]; decide)
  | un k p w h1 => rcases h1 with rfl | rfl <;> exact absurd ko (by simp only [opK]; decide)
  | sh k n p w h1 => rcases h1 with rfl | rfl <;> exact absurd ko (by simp only [opK]; decide)
  | bin k p q w h1 => rcases h1 with rfl | rfl | rfl | rfl | rfl <;> exact absurd ko (by simp only [opK]; decide)
  | cmp k p q w h1 => rcases h1 with rfl | rfl <;> exact absurd ko (by simp only [opK]; decide)
theorem inv_bin {o : Op} {ps : List Ex} {w : Nat} {k : Str} (hk : k = "and" ∨ k = "or" ∨ k = "xor" ∨ k = "plus" ∨ k = "times" ∨ k = "equal" ∨ k = "below") (ko : opK o = k) (h : Wt Γ (.op o ps) w) : ∃ (p q : Ex) (u : Nat), o = .bin k ∧ ps = [p, q] ∧ u ≤ 4096 ∧ Wt Γ p u ∧ Wt Γ q u := by
  subst ko
  cases h with
  | bin k p q w _ h0 h1 h2 => exact ⟨p, q, w, rfl, rfl, h0, h1, h2⟩
  | cmp k p q w _ h0 h1 h2 => exact ⟨p, q, w, rfl, rfl, h0, h1, h2⟩
  | read => exact absurd hk (by simp only [opK]; decide)
  | slc => exact absurd hk (by simp only [opK]; decide)
  | ite => exact absurd hk (by simp only [opK]; decide)
  | join => exact absurd hk (by simp only [opK]; decide)
  | un k p w h1 => rcases h1 with rfl | rfl <;> exact absurd hk (by simp only [opK]; decide)
  | sh k n p w h1 => rcases h1 with rfl | rfl <;> exact absurd hk (by simp only [opK]; decide)
theorem inv_ite {o : Op} {ps : List Ex} {w : Nat} (ko : opK o = "if") (h : Wt Γ (.op o ps) w) : ∃ (c p q : Ex), o = .ite ∧ ps = [c, p, q] ∧ Wt Γ c 1 ∧ Wt Γ p w ∧ Wt Γ q w := by
  cases h with
  | ite c p q w _ h0 h1 h2 => exact ⟨c, p, q, rfl, rfl, h0, h1, h2⟩
  | read => exact absurd ko (by simp only [opK]; decide)
  | slc => exact absurd ko (by simp only [opK]; decide)
  | join => exact absurd ko (by simp only [opK]; decide)
  | un k p w h1 => rcases h1 with rfl | rfl <;> exact absurd ko (by simp only [opK]; decide)
  | sh k n p w h1 => rcases h1 with rfl | rfl <;> exact absurd ko (by simp only [opK]; decide)
  | bin k p q w h1 => rcases h1 with rfl | rfl | rfl | rfl | rfl <;> exact absurd ko (by simp only [opK]; decide)
  | cmp k p q w h1 => rcases h1 with rfl | rfl <;> exact absurd ko (by simp only [opK]; decide)
theorem inv_join {o : Op} {ps : List Ex} {w : Nat} (ko : opK o = "join") (h : Wt Γ (.op o ps) w) : ∃ ws : List Nat, o = .join ∧ Wts Γ ps ws ∧ ws.sum ≤ 4096 := by
  cases h with
  | join ps ws h1 h2 => exact ⟨ws, rfl, h1, h2⟩
  | read => exact absurd ko (by simp only [opK]; decide)
  | slc => exact absurd ko (by simp only [opK]; decide)
  | ite => exact absurd ko (by simp only [opK]; decide)
  | un k p w h1 => rcases h1 with rfl | rfl <;> exact absurd ko (by simp only [opK]; decide)
  | sh k n p w h1 => rcases h1 with rfl | rfl <;> exact absurd ko (by simp only [opK]; decide)
  | bin k p q w h1 => rcases h1 with rfl | rfl | rfl | rfl | rfl <;> exact absurd ko (by simp only [opK]; decide)
  | cmp k p q w h1 => rcases h1 with rfl | rfl <;> exact absurd ko (by simp only [opK]; decide)
end
theorem wts_den {Γ : Gam} {U : Vl} (g : Good Γ U) : ∀ {ps : List Ex} {us : List Nat}, Wts Γ ps us → (∀ i : Nat, ((ps.map (den Γ U))[i]?).map (fun d : WV => d.1) = us[i]?) ∧ ∀ d ∈ ps.map (den Γ U), d.2 < 2 ^ d.1
  | _, _, .nil => ⟨fun i => rfl, fun d h => by cases h⟩
  | _, _, .cons p ps w ws h t => by
    obtain ⟨e1, e2⟩ := wt_den g h
    obtain ⟨i1, i2⟩ := wts_den g t
    refine ⟨fun i => ?_, fun d hd => ?_⟩
    · cases i with
      | zero => show some (den Γ U p).1 = some w; rw [e1]
      | succ i => exact i1 i
    · rw [List.map_cons] at hd
      rcases List.mem_cons.mp hd with g2 | g2
      · rw [g2, e1]; exact e2
      · exact i2 d g2
theorem joinP_snoc (s d : WV) (ds : List WV) : joinP s (ds ++ [d]) = ((joinP s ds).1 + d.1, (joinP s ds).2 * 2 ^ d.1 + d.2) := by
  unfold joinP
  rw [List.foldl_append]
  rfl
theorem take_step {α : Type} {xs : List α} {i : Nat} {x : α} (h : xs[i]? = some x) : xs.take (i + 1) = xs.take i ++ [x] := by
  rw [List.take_add_one, h]
  rfl
theorem sum_take_le : ∀ (us : List Nat) (i : Nat), (us.take i).sum ≤ us.sum
  | _, 0 => Nat.zero_le _
  | [], _ + 1 => Nat.le_refl _
  | u :: us, i + 1 => by
    rw [List.take_succ_cons, List.sum_cons, List.sum_cons]
    exact Nat.add_le_add_left (sum_take_le us i) u
theorem mem_le_sum : ∀ {us : List Nat} {u : Nat}, u ∈ us → u ≤ us.sum
  | x :: us, u, h => by
    rw [List.sum_cons]
    rcases List.mem_cons.mp h with g | g
    · omega
    · have := mem_le_sum g
      omega
section
variable {K : PySem.W.Frag}
theorem sh_at {H : Hp} {v : V} {k : Str} {n : Int} {p : Ex} (h : ExAt K H v (.op (.sh k n) [p])) : ∃ t xs, v = .ref t ∧ SqT K H t xs ∧ xs[2]? = some (.int n) := by
  unfold ExAt exD exDs exDs at h
  cases h with
  | tup hs ha =>
  cases ha with
  | cons h1 h2 =>
  cases h2 with
  | cons h3 h4 =>
  cases h4 with
  | cons h5 h6 =>
  cases h5
  exact ⟨_, _, rfl, hs, rfl⟩
theorem slc_at {H : Hp} {v : V} {h l : Int} {p : Ex} (e : ExAt K H v (.op (.slc h l) [p])) : ∃ t x0 x1, v = .ref t ∧ SqT K H t [x0, x1, .int h, .int l] := by
  unfold ExAt exD exDs exDs at e
  cases e with
  | tup hs ha =>
  cases ha with
  | cons h1 h2 =>
  cases h2 with
  | cons h3 h4 =>
  cases h4 with
  | cons h5 h6 =>
  cases h6 with
  | cons h7 h8 =>
  cases h5
  cases h7
  cases h8
  exact ⟨_, _, _, rfl, hs⟩
theorem put {H : Hp} {Q : VK} {x : WV} {p : Addr} {a b : Int} (q : ∀ H' r, Same H H' → WAt K H' r x → Q r H') (np : H p = none) (ea : (x.1 : Int) = a) (eb : (x.2 : Int) = b) : Q (.ref p) (upd H p (.tup [.int a, .int b])) := by
  subst ea
  subst eb
  exact q _ _ (same_new np) ⟨p, rfl, SqT.of upd_same⟩
theorem wi {σ : L2.St} {H : Hp} {Q : VK} {L t : Addr} {ws : List V} {a b : Int} (j : Nat) (hs : σ[1]? = some (some (.ref L))) (hL : H L = some (.lst ws)) (hw : ws[j]? = some (.ref t)) (ht : SqT K H t [.int a, .int b]) (h : Q (.int a) H) : tOp (rIxT K) (tOp (rIxL K) (tVar 1) (tC (.int (j : Int)))) (tC (.int 0)) σ H Q :=
  ⟨_, hs, L, ws, j, _, rfl, rfl, SqL.of hL, at_of rfl hw, t, _, 0, _, rfl, rfl, ht, at_of (j := 0) rfl rfl, h⟩
theorem wi1 {σ : L2.St} {H : Hp} {Q : VK} {L t : Addr} {ws : List V} {a b : Int} (j : Nat) (hs : σ[1]? = some (some (.ref L))) (hL : H L = some (.lst ws)) (hw : ws[j]? = some (.ref t)) (ht : SqT K H t [.int a, .int b]) (h : Q (.int b) H) : tOp (rIxT K) (tOp (rIxL K) (tVar 1) (tC (.int (j : Int)))) (tC (.int 1)) σ H Q :=
  ⟨_, hs, L, ws, j, _, rfl, rfl, SqL.of hL, at_of rfl hw, t, _, 1, _, rfl, rfl, ht, at_of (j := 1) rfl rfl, h⟩
def spWI (K : PySem.W.Frag) : Sp := fun vs H Q _ => ∃ (w : Nat) (z : Int), vs = [.int w, .int z] ∧ w ≤ 134217727 ∧ ∀ p, H p = none → Q (.ref p) (upd H p (.tup [.int w, .int (z % 2 ^ w)]))
theorem pow_cast (w : Nat) : ((2 ^ w : Nat) : Int) = 2 ^ w := by
  rw [Int.natCast_pow]
  rfl
theorem mod_succ (x k : Nat) : x % 2 ^ (k + 1) = x % 2 ^ k + 2 ^ k * (x.testBit k).toNat := by rw [Nat.mod_pow_succ, Nat.toNat_testBit]
theorem or_eq (a b : Nat) : a ||| b = (a &&& b) + (a ^^^ b) := by
  have key : ∀ k, (a ||| b) % 2 ^ k = (a &&& b) % 2 ^ k + (a ^^^ b) % 2 ^ k := by
    intro k
    induction k with
    | zero => rw [Nat.pow_zero, Nat.mod_one, Nat.mod_one, Nat.mod_one]
    | succ k ih =>
      rw [mod_succ, mod_succ, mod_succ, ih, Nat.testBit_or, Nat.testBit_and, Nat.testBit_xor]
      cases a.testBit k <;> cases b.testBit k <;> simp <;> omega
  have ha : a < 2 ^ (a + b) := Nat.lt_of_le_of_lt (Nat.le_add_right a b) Nat.lt_two_pow_self
  have hb : b < 2 ^ (a + b) := Nat.lt_of_le_of_lt (Nat.le_add_left b a) Nat.lt_two_pow_self
  have := key (a + b)
  rw [Nat.mod_eq_of_lt (Nat.or_lt_two_pow ha hb), Nat.mod_eq_of_lt (Nat.lt_of_le_of_lt Nat.and_le_left ha), Nat.mod_eq_of_lt (Nat.xor_lt_two_pow ha hb)] at this
  exact this
theorem xor_nn (a b : Nat) : Builtin.bitXor (a : Int) (b : Int) = ((a ^^^ b : Nat) : Int) := by
  have h : Builtin.bitXor (a : Int) (b : Int) = Builtin.bitOr (a : Int) (b : Int) - Builtin.bitAnd (a : Int) (b : Int) := rfl
  rw [h, bitAnd_pp (by omega) (by omega), bitOr_nn (by omega) (by omega)]
  have key := or_eq a b
  rw [Int.toNat_natCast, Int.toNat_natCast]
  omega
theorem vne {a b : Nat} (h : a ≠ b) : decide (V.int (a : Int) = V.int (b : Int)) = false := decide_eq_false fun e => h (by injection e with e; exact Int.ofNat.inj e)
theorem veq {a b : Nat} (h : a = b) : decide (V.int (a : Int) = V.int (b : Int)) = true := decide_eq_true (by rw [h])
theorem castM (a w : Nat) : ((a % 2 ^ w : Nat) : Int) = (a : Int) % 2 ^ w := by
  rw [Int.natCast_emod, pow_cast]
end
section
variable {P : Program} {w : World} {K : PySem.W.Frag} {mg : Str → Option Value} {base : Heap} {f : Addr} {fd : FuncData}
abbrev nWI : List Str := ["width", "number"]
theorem scWI : FnScope nWI ["width", "number"] (defScope sWithin) := ⟨rfl, rfl, rfl, by decide +kernel, rfl, by decide +kernel, by decide +kernel⟩
theorem ok_WI (F : FnP K "within" sWithin f fd) : FnOk P w K mg base CX0 1 f fd ["width", "number"] (spWI K) := by
  refine F.ok scWI (fun vs H Q E h => ?_) (fun cdv A outer s H vs Q E hr h => ?_)
  · obtain ⟨a, z, rfl, _⟩ := h
    rfl
  · obtain ⟨a, z, rfl, ha, q⟩ := h
    refine ⟨_, PSs.nox (pss_one (ps_ret (pe_tup (pa_cons (pv 0) (pa_cons (pe_op op_andM (pv 1) (pe_op op_sub (pe_op op_oneShl pe_int (pv 0)) pe_int)) pa_nil))))), ?_⟩
    exact ⟨_, rfl, _, rfl, _, rfl, a, rfl, rfl, ha, _, _, rfl, rfl, z, a, rfl, rfl, len2, fun p np => q p np⟩
abbrev nWnot : List Str := ["part", "words", "width", "word"]
theorem scWnot : FnScope nWnot ["part", "words"] (defScope sNotWord) := ⟨rfl, rfl, rfl, by decide +kernel, rfl, by decide +kernel, by decide +kernel⟩
theorem ok_not (F : FnP K "not_word" sNotWord f fd)

    : FnOk P w K mg base CX0 2 f fd ["part", "words"] (spAct K "not") := by
  refine F.ok scWnot (fun vs H Q E h => ?_) (fun cdv A outer s H vs Q E hr h => ?_)
  · obtain ⟨Γ, U, v, L, o, ps, wd, ws, rfl, _⟩ := h
    rfl
  · obtain ⟨Γ, U, v, L, o, ps, wd, ws, rfl, ko, wt, g, ea, hL, aw, q⟩ := h
    refine ⟨_, PSs.nox (pss_cons (ps_asg (pe_ix ix_list (pv 1) pe_int (fun _ _ => rfl)) (pg_tup rfl (pgs_cons (pg_name (i := 2) scWnot.nd rfl (Or.inl rfl)) (pgs_cons (pg_name (i := 3) scWnot.nd rfl (Or.inl rfl)) pgs_nil))))
      (pss_one (ps_ret (pe_tup (pa_cons (pv 2) (pa_cons (pe_op op_sub (pe_op op_sub (pe_op op_oneShl pe_int (pv 2)) pe_int) (pv 3)) pa_nil)))))), ?_⟩
    obtain ⟨p, rfl, rfl, wp⟩ := inv_un (by decide) ko wt
    rw [den_op] at q
    obtain ⟨e1, e2⟩ := wt_den g wp
    rw [List.map_cons, List.map_nil] at aw q
    cases aw with
    | cons h0 h9 =>
    cases h9
    obtain ⟨t0, rfl, ht0⟩ := h0
    have hle := wp.le
    generalize den Γ U p = d at *
    obtain ⟨dw, dv⟩ := d
    have pw := pow_cast dw
    have pp := Nat.two_pow_pos dw
    have e2 : dv < 2 ^ dw := by
      have e3 : dw = _ := e1
      rw [e3]
      exact e2
    have e1 : dw ≤ 4096 := by
      have e3 : dw = _ := e1
      omega
    refine ⟨_, rfl, L, _, 0, _, rfl, rfl, SqL.of hL, at_of (j := 0) rfl rfl, t0, _, rfl, ht0, rfl, ?_⟩
    refine ⟨_, _, rfl, _, _, rfl, rfl, _, rfl, _, rfl, dw, rfl, rfl, by omega, _, _, rfl, rfl, _, rfl, _, _, rfl, rfl, len2, fun p np => put q np rfl ?_⟩
    show ((2 ^ dw - 1 - dv : Nat) : Int) = 2 ^ dw - 1 - (dv : Int)
    omega
abbrev nWmin : List Str := ["part", "words"]
theorem scWmin : FnScope nWmin ["part", "words"] (defScope sMinusWord) := ⟨rfl, rfl, rfl, by decide +kernel, rfl, by decide +kernel, by decide +kernel⟩
theorem ok_minus (F : FnP K "minus_word" sMinusWord f fd)
    {fWI : Addr} {dWI : FuncData}
    (GWI : FnOk P w K mg base CX0 1 fWI dWI ["width", "number"] (spWI K)) (gWI : mg "within" = some (.ref fWI)) (kWI : PySem.W.keepIn K (.ref fWI) = true) (bWI : Binds K dWI ["width", "number"] [])
    : FnOk P w K mg base CX0 2 f fd ["part", "words"] (spAct K "minus") := by
  refine F.ok scWmin (fun vs H Q E h => ?_) (fun cdv A outer s H vs Q E hr h => ?_)
  · obtain ⟨Γ, U, v, L, o, ps, wd, ws, rfl, _⟩ := h
    rfl
  · obtain ⟨Γ, U, v, L, o, ps, wd, ws, rfl, ko, wt, g, ea, hL, aw, q⟩ := h
    refine ⟨_, PSs.nox (pss_one (ps_ret (pe_call GWI (hr.mono (by decide)) (by rfl) gWI kWI bWI .nil pass0 (pa_cons (pe_ix (r := L2.rIxT K) (by exact ix_tup) (pe_ix ix_list (pv 1) pe_int (fun _ _ => rfl)) pe_int (fun _ _ => rfl)) (pa_cons (pe_un un_neg (pe_ix (r := L2.rIxT K) (by exact ix_tup) (pe_ix ix_list (pv 1) pe_int (fun _ _ => rfl)) pe_int (fun _ _ => rfl))) pa_nil))))), ?_⟩
    obtain ⟨p, rfl, rfl, wp⟩ := inv_un (by decide) ko wt
    rw [den_op] at q
    obtain ⟨e1, e2⟩ := wt_den g wp
    rw [List.map_cons, List.map_nil] at aw q
    cases aw with
    | cons h0 h9 =>
    cases h9
    obtain ⟨t0, rfl, ht0⟩ := h0
    have hle := wp.le
    generalize den Γ U p = d at *
    obtain ⟨dw, dv⟩ := d
    have pw := pow_cast dw
    have pp := Nat.two_pow_pos dw
    have e2 : dv < 2 ^ dw := by
      have e3 : dw = _ := e1
      rw [e3]
      exact e2
    have e1 : dw ≤ 4096 := by
      have e3 : dw = _ := e1
      omega
    refine wi 0 rfl hL rfl ht0 (wi1 0 rfl hL rfl ht0 ⟨_, rfl, dw, _, rfl, by omega, fun p np => put q np rfl ?_⟩)
    show (((2 ^ dw - dv) % 2 ^ dw : Nat) : Int) = -(dv : Int) % 2 ^ dw
    rw [castM, Int.ofNat_sub (by omega), pw]
    have := Int.add_mul_emod_self_left (-(dv : Int)) (2 ^ dw) 1
    rw [← this]
    congr 1
    omega
abbrev nWand : List Str := ["part", "words"]
theorem scWand : FnScope nWand ["part", "words"] (defScope sAndWord) := ⟨rfl, rfl, rfl, by decide +kernel, rfl, by decide +kernel, by decide +kernel⟩
theorem ok_and (F : FnP K "and_word" sAndWord f fd)

    : FnOk P w K mg base CX0 2 f fd ["part", "words"] (spAct K "and") := by
  refine F.ok scWand (fun vs H Q E h => ?_) (fun cdv A outer s H vs Q E hr h => ?_)
  · obtain ⟨Γ, U, v, L, o, ps, wd, ws, rfl, _⟩ := h
    rfl
  · obtain ⟨Γ, U, v, L, o, ps, wd, ws, rfl, ko, wt, g, ea, hL, aw, q⟩ := h
    refine ⟨_, PSs.nox (pss_one (ps_ret (pe_tup (pa_cons (pe_ix (r := L2.rIxT K) (by exact ix_tup) (pe_ix ix_list (pv 1) pe_int (fun _ _ => rfl)) pe_int (fun _ _ => rfl)) (pa_cons (pe_op op_and (pe_ix (r := L2.rIxT K) (by exact ix_tup) (pe_ix ix_list (pv 1) pe_int (fun _ _ => rfl)) pe_int (fun _ _ => rfl)) (pe_ix (r := L2.rIxT K) (by exact ix_tup) (pe_ix ix_list (pv 1) pe_int (fun _ _ => rfl)) pe_int (fun _ _ => rfl))) pa_nil))))), ?_⟩
    obtain ⟨p, p2, u, rfl, rfl, hle, wp, wp2⟩ := inv_bin (by decide) ko wt
    rw [den_op] at q
    obtain ⟨e1, e2⟩ := wt_den g wp
    obtain ⟨e3, e4⟩ := wt_den g wp2
    rw [List.map_cons, List.map_cons, List.map_nil] at aw q
    cases aw with
    | cons h0 h9 =>
    cases h9 with
    | cons h1 h9 =>
    cases h9
    obtain ⟨t0, rfl, ht0⟩ := h0
    obtain ⟨t1, rfl, ht1⟩ := h1
    generalize den Γ U p = d at *
    generalize den Γ U p2 = d2 at *
    obtain ⟨dw, dv⟩ := d
    obtain ⟨dx, dy⟩ := d2
    have e5 : dw = dx := Eq.trans e1 (Eq.symm e3)
    subst e5
    have pw := pow_cast dw
    have pp := Nat.two_pow_pos dw
    have e2 : dv < 2 ^ dw := by
      have e6 : dw = _ := e1
      rw [e6]
      exact e2
    have e4 : dy < 2 ^ dw := by
      have e6 : dw = _ := e1
      rw [e6]
      exact e4
    have e1 : dw ≤ 4096 := by
      have e6 : dw = _ := e1
      omega
    clear e3
    refine wi 0 rfl hL rfl ht0 (wi1 0 rfl hL rfl ht0 (wi1 1 rfl hL rfl ht1 ⟨_, _, rfl, rfl, len2, fun p np => put q np rfl ?_⟩))
    show ((dv &&& dy : Nat) : Int) = Builtin.bitAnd (dv : Int) (dy : Int)
    rw [bitAnd_pp (by omega) (by omega)]
    rfl
abbrev nWor : List Str := ["part", "words"]
theorem scWor : FnScope nWor ["part", "words"] (defScope sOrWord) := ⟨rfl, rfl, rfl, by decide +kernel, rfl, by decide +kernel, by decide +kernel⟩
theorem ok_or (F : FnP K "or_word" sOrWord f fd)

    : FnOk P w K mg base CX0 2 f fd ["part", "words"] (spAct K "or") := by
  refine F.ok scWor (fun vs H Q E h => ?_) (fun cdv A outer s H vs Q E hr h => ?_)
  · obtain ⟨Γ, U, v, L, o, ps, wd, ws, rfl, _⟩ := h
    rfl
  · obtain ⟨Γ, U, v, L, o, ps, wd, ws, rfl, ko, wt, g, ea, hL, aw, q⟩ := h
    refine ⟨_, PSs.nox (pss_one (ps_ret (pe_tup (pa_cons (pe_ix (r := L2.rIxT K) (by exact ix_tup) (pe_ix ix_list (pv 1) pe_int (fun _ _ => rfl)) pe_int (fun _ _ => rfl)) (pa_cons (pe_op op_or (pe_ix (r := L2.rIxT K) (by exact ix_tup) (pe_ix ix_list (pv 1) pe_int (fun _ _ => rfl)) pe_int (fun _ _ => rfl)) (pe_ix (r := L2.rIxT K) (by exact ix_tup) (pe_ix ix_list (pv 1) pe_int (fun _ _ => rfl)) pe_int (fun _ _ => rfl))) pa_nil))))), ?_⟩
    obtain ⟨p, p2, u, rfl, rfl, hle, wp, wp2⟩ := inv_bin (by decide) ko wt
    rw [den_op] at q
    obtain ⟨e1, e2⟩ := wt_den g wp
    obtain ⟨e3, e4⟩ := wt_den g wp2
    rw [List.map_cons, List.map_cons, List.map_nil] at aw q
    cases aw with
    | cons h0 h9 =>
    cases h9 with
    | cons h1 h9 =>
    cases h9
    obtain ⟨t0, rfl, ht0⟩ := h0
    obtain ⟨t1, rfl, ht1⟩ := h1
    generalize den Γ U p = d at *
    generalize den Γ U p2 = d2 at *
    obtain ⟨dw, dv⟩ := d
    obtain ⟨dx, dy⟩ := d2
    have e5 : dw = dx := Eq.trans e1 (Eq.symm e3)
    subst e5
    have pw := pow_cast dw
    have pp := Nat.two_pow_pos dw
    have e2 : dv < 2 ^ dw := by
      have e6 : dw = _ := e1
      rw [e6]
      exact e2
    have e4 : dy < 2 ^ dw := by
      have e6 : dw = _ := e1
      rw [e6]
      exact e4
    have e1 : dw ≤ 4096 := by
      have e6 : dw = _ := e1
      omega
    clear e3
    refine wi 0 rfl hL rfl ht0 (wi1 0 rfl hL rfl ht0 (wi1 1 rfl hL rfl ht1 ⟨_, _, rfl, rfl, len2, fun p np => put q np rfl ?_⟩))
    show ((dv ||| dy : Nat) : Int) = Builtin.bitOr (dv : Int) (dy : Int)
    rw [bitOr_nn (by omega) (by omega)]
    rfl
abbrev nWxor : List Str := ["part", "words"]
theorem scWxor : FnScope nWxor ["part", "words"] (defScope sXorWord) := ⟨rfl, rfl, rfl, by decide +kernel, rfl, by decide +kernel, by decide +kernel⟩
theorem ok_xor (F : FnP K "xor_word" sXorWord f fd)

    : FnOk P w K mg base CX0 2 f fd ["part", "words"] (spAct K "xor") := by
  refine F.ok scWxor (fun vs H Q E h => ?_) (fun cdv A outer s H vs Q E hr h => ?_)
  · obtain ⟨Γ, U, v, L, o, ps, wd, ws, rfl, _⟩ := h
    rfl
  · obtain ⟨Γ, U, v, L, o, ps, wd, ws, rfl, ko, wt, g, ea, hL, aw, q⟩ := h
    refine ⟨_, PSs.nox (pss_one (ps_ret (pe_tup (pa_cons (pe_ix (r := L2.rIxT K) (by exact ix_tup) (pe_ix ix_list (pv 1) pe_int (fun _ _ => rfl)) pe_int (fun _ _ => rfl)) (pa_cons (pe_op op_xor (pe_ix (r := L2.rIxT K) (by exact ix_tup) (pe_ix ix_list (pv 1) pe_int (fun _ _ => rfl)) pe_int (fun _ _ => rfl)) (pe_ix (r := L2.rIxT K) (by exact ix_tup) (pe_ix ix_list (pv 1) pe_int (fun _ _ => rfl)) pe_int (fun _ _ => rfl))) pa_nil))))), ?_⟩
    obtain ⟨p, p2, u, rfl, rfl, hle, wp, wp2⟩ := inv_bin (by decide) ko wt
    rw [den_op] at q
    obtain ⟨e1, e2⟩ := wt_den g wp
    obtain ⟨e3, e4⟩ := wt_den g wp2
    rw [List.map_cons, List.map_cons, List.map_nil] at aw q
    cases aw with
    | cons h0 h9 =>
    cases h9 with
    | cons h1 h9 =>
    cases h9
    obtain ⟨t0, rfl, ht0⟩ := h0
    obtain ⟨t1, rfl, ht1⟩ := h1
    generalize den Γ U p = d at *
    generalize den Γ U p2 = d2 at *
    obtain ⟨dw, dv⟩ := d
    obtain ⟨dx, dy⟩ := d2
    have e5 : dw = dx := Eq.trans e1 (Eq.symm e3)
    subst e5
    have pw := pow_cast dw
    have pp := Nat.two_pow_pos dw
    have e2 : dv < 2 ^ dw := by
      have e6 : dw = _ := e1
      rw [e6]
      exact e2
    have e4 : dy < 2 ^ dw := by
      have e6 : dw = _ := e1
      rw [e6]
      exact e4
    have e1 : dw ≤ 4096 := by
      have e6 : dw = _ := e1
      omega
    clear e3
    refine wi 0 rfl hL rfl ht0 (wi1 0 rfl hL rfl ht0 (wi1 1 rfl hL rfl ht1 ⟨_, _, rfl, rfl, len2, fun p np => put q np rfl ?_⟩))
    show ((dv ^^^ dy : Nat) : Int) = Builtin.bitXor (dv : Int) (dy : Int)
    exact (xor_nn dv dy).symm
abbrev nWplu : List Str := ["part", "words"]
theorem scWplu : FnScope nWplu ["part", "words"] (defScope sPlusWord) := ⟨rfl, rfl, rfl, by decide +kernel, rfl, by decide +kernel, by decide +kernel⟩
theorem ok_plus (F : FnP K "plus_word" sPlusWord f fd)
    {fWI : Addr} {dWI : FuncData}
    (GWI : FnOk P w K mg base CX0 1 fWI dWI ["width", "number"] (spWI K)) (gWI : mg "within" = some (.ref fWI)) (kWI : PySem.W.keepIn K (.ref fWI) = true) (bWI : Binds K dWI ["width", "number"] [])
    : FnOk P w K mg base CX0 2 f fd ["part", "words"] (spAct K "plus") := by
  refine F.ok scWplu (fun vs H Q E h => ?_) (fun cdv A outer s H vs Q E hr h => ?_)
  · obtain ⟨Γ, U, v, L, o, ps, wd, ws, rfl, _⟩ := h
    rfl
  · obtain ⟨Γ, U, v, L, o, ps, wd, ws, rfl, ko, wt, g, ea, hL, aw, q⟩ := h
    refine ⟨_, PSs.nox (pss_one (ps_ret (pe_call GWI (hr.mono (by decide)) (by rfl) gWI kWI bWI .nil pass0 (pa_cons (pe_ix (r := L2.rIxT K) (by exact ix_tup) (pe_ix ix_list (pv 1) pe_int (fun _ _ => rfl)) pe_int (fun _ _ => rfl)) (pa_cons (pe_op op_add (pe_ix (r := L2.rIxT K) (by exact ix_tup) (pe_ix ix_list (pv 1) pe_int (fun _ _ => rfl)) pe_int (fun _ _ => rfl)) (pe_ix (r := L2.rIxT K) (by exact ix_tup) (pe_ix ix_list (pv 1) pe_int (fun _ _ => rfl)) pe_int (fun _ _ => rfl))) pa_nil))))), ?_⟩
    obtain ⟨p, p2, u, rfl, rfl, hle, wp, wp2⟩ := inv_bin (by decide) ko wt
    rw [den_op] at q
    obtain ⟨e1, e2⟩ := wt_den g wp
    obtain ⟨e3, e4⟩ := wt_den g wp2
    rw [List.map_cons, List.map_cons, List.map_nil] at aw q
    cases aw with
    | cons h0 h9 =>
    cases h9 with
    | cons h1 h9 =>
    cases h9
    obtain ⟨t0, rfl, ht0⟩ := h0
    obtain ⟨t1, rfl, ht1⟩ := h1
    generalize den Γ U p = d at *
    generalize den Γ U p2 = d2 at *
    obtain ⟨dw, dv⟩ := d
    obtain ⟨dx, dy⟩ := d2
    have e5 : dw = dx := Eq.trans e1 (Eq.symm e3)
    subst e5
    have pw := pow_cast dw
    have pp := Nat.two_pow_pos dw
    have e2 : dv < 2 ^ dw := by
      have e6 : dw = _ := e1
      rw [e6]
      exact e2
    have e4 : dy < 2 ^ dw := by
      have e6 : dw = _ := e1
      rw [e6]
      exact e4
    have e1 : dw ≤ 4096 := by
      have e6 : dw = _ := e1
      omega
    clear e3
    refine wi 0 rfl hL rfl ht0 (wi1 0 rfl hL rfl ht0 (wi1 1 rfl hL rfl ht1 ⟨_, _, rfl, rfl, dw, _, rfl, by omega, fun p np => put q np rfl ?_⟩))
    show (((dv + dy) % 2 ^ dw : Nat) : Int) = ((dv : Int) + (dy : Int)) % 2 ^ dw
    rw [castM, Int.natCast_add]
abbrev nWtim : List Str := ["part", "words"]
theorem scWtim : FnScope nWtim ["part", "words"] (defScope sTimesWord) := ⟨rfl, rfl, rfl, by decide +kernel, rfl, by decide +kernel, by decide +kernel⟩
theorem ok_times (F : FnP K "times_word" sTimesWord f fd)
    {fWI : Addr} {dWI : FuncData}
    (GWI : FnOk P w K mg base CX0 1 fWI dWI ["width", "number"] (spWI K)) (gWI : mg "within" = some (.ref fWI)) (kWI : PySem.W.keepIn K (.ref fWI) = true) (bWI : Binds K dWI ["width", "number"] [])
    : FnOk P w K mg base CX0 2 f fd ["part", "words"] (spAct K "times") := by
  refine F.ok scWtim (fun vs H Q E h => ?_) (fun cdv A outer s H vs Q E hr h => ?_)
  · obtain ⟨Γ, U, v, L, o, ps, wd, ws, rfl, _⟩ := h
    rfl
  · obtain ⟨Γ, U, v, L, o, ps, wd, ws, rfl, ko, wt, g, ea, hL, aw, q⟩ := h
    refine ⟨_, PSs.nox (pss_one (ps_ret (pe_call GWI (hr.mono (by decide)) (by rfl) gWI kWI bWI .nil pass0 (pa_cons (pe_ix (r := L2.rIxT K) (by exact ix_tup) (pe_ix ix_list (pv 1) pe_int (fun _ _ => rfl)) pe_int (fun _ _ => rfl)) (pa_cons (pe_op op_mulX (pe_ix (r := L2.rIxT K) (by exact ix_tup) (pe_ix ix_list (pv 1) pe_int (fun _ _ => rfl)) pe_int (fun _ _ => rfl)) (pe_ix (r := L2.rIxT K) (by exact ix_tup) (pe_ix ix_list (pv 1) pe_int (fun _ _ => rfl)) pe_int (fun _ _ => rfl))) pa_nil))))), ?_⟩
    obtain ⟨p, p2, u, rfl, rfl, hle, wp, wp2⟩ := inv_bin (by decide) ko wt
    rw [den_op] at q
    obtain ⟨e1, e2⟩ := wt_den g wp
    obtain ⟨e3, e4⟩ := wt_den g wp2
    rw [List.map_cons, List.map_cons, List.map_nil] at aw q
    cases aw with
    | cons h0 h9 =>
    cases h9 with
    | cons h1 h9 =>
    cases h9
    obtain ⟨t0, rfl, ht0⟩ := h0
    obtain ⟨t1, rfl, ht1⟩ := h1
    generalize den Γ U p = d at *
    generalize den Γ U p2 = d2 at *
    obtain ⟨dw, dv⟩ := d
    obtain ⟨dx, dy⟩ := d2
    have e5 : dw = dx := Eq.trans e1 (Eq.symm e3)
    subst e5
    have pw := pow_cast dw
    have pp := Nat.two_pow_pos dw
    have e2 : dv < 2 ^ dw := by
      have e6 : dw = _ := e1
      rw [e6]
      exact e2
    have e4 : dy < 2 ^ dw := by
      have e6 : dw = _ := e1
      rw [e6]
      exact e4
    have e1 : dw ≤ 4096 := by
      have e6 : dw = _ := e1
      omega
    clear e3
    refine wi 0 rfl hL rfl ht0 (wi1 0 rfl hL rfl ht0 (wi1 1 rfl hL rfl ht1 ⟨_, _, rfl, rfl, mulx_ok (a := dw) (b := dw) (by omega) (by omega) (by omega), dw, _, rfl, by omega, fun p np => put q np rfl ?_⟩))
    show ((dv * dy % 2 ^ dw : Nat) : Int) = ((dv : Int) * (dy : Int)) % 2 ^ dw
    rw [castM, Int.natCast_mul]
abbrev nWequ : List Str := ["part", "words"]
theorem scWequ : FnScope nWequ ["part", "words"] (defScope sEqualWord) := ⟨rfl, rfl, rfl, by decide +kernel, rfl, by decide +kernel, by decide +kernel⟩
theorem ok_equal (F : FnP K "equal_word" sEqualWord f fd)

    : FnOk P w K mg base CX0 2 f fd ["part", "words"] (spAct K "equal") := by
  refine F.ok scWequ (fun vs H Q E h => ?_) (fun cdv A outer s H vs Q E hr h => ?_)
  · obtain ⟨Γ, U, v, L, o, ps, wd, ws, rfl, _⟩ := h
    rfl
  · obtain ⟨Γ, U, v, L, o, ps, wd, ws, rfl, ko, wt, g, ea, hL, aw, q⟩ := h
    refine ⟨_, PSs.nox (pss_one (ps_ret (pe_tup (pa_cons pe_int (pa_cons (pe_ifExp (pt_cmpR op_eq (pe_ix (r := L2.rIxT K) (by exact ix_tup) (pe_ix ix_list (pv 1) pe_int (fun _ _ => rfl)) pe_int (fun _ _ => rfl)) (pe_ix (r := L2.rIxT K) (by exact ix_tup) (pe_ix ix_list (pv 1) pe_int (fun _ _ => rfl)) pe_int (fun _ _ => rfl)) (nomark _)) pe_int pe_int) pa_nil))))), ?_⟩
    obtain ⟨p, p2, u, rfl, rfl, hle, wp, wp2⟩ := inv_bin (by decide) ko wt
    rw [den_op] at q
    obtain ⟨e1, e2⟩ := wt_den g wp
    obtain ⟨e3, e4⟩ := wt_den g wp2
    rw [List.map_cons, List.map_cons, List.map_nil] at aw q
    cases aw with
    | cons h0 h9 =>
    cases h9 with
    | cons h1 h9 =>
    cases h9
    obtain ⟨t0, rfl, ht0⟩ := h0
    obtain ⟨t1, rfl, ht1⟩ := h1
    generalize den Γ U p = d at *
    generalize den Γ U p2 = d2 at *
    obtain ⟨dw, dv⟩ := d
    obtain ⟨dx, dy⟩ := d2
    have e5 : dw = dx := Eq.trans e1 (Eq.symm e3)
    subst e5
    have pw := pow_cast dw
    have pp := Nat.two_pow_pos dw
    have e2 : dv < 2 ^ dw := by
      have e6 : dw = _ := e1
      rw [e6]
      exact e2
    have e4 : dy < 2 ^ dw := by
      have e6 : dw = _ := e1
      rw [e6]
      exact e4
    have e1 : dw ≤ 4096 := by
      have e6 : dw = _ := e1
      omega
    clear e3
    refine wi1 0 rfl hL rfl ht0 (wi1 1 rfl hL rfl ht1 ⟨rfl, _, rfl, ?_⟩)
    rcases Nat.decEq dv dy with e | e
    · refine goF (vne e) ?_
      refine ⟨len2, fun p np => put q np rfl ?_⟩
      show (((if dv = dy then 1 else 0 : Nat)) : Int) = 0
      rw [if_neg e]
      rfl
    · refine goT (veq e) ?_
      refine ⟨len2, fun p np => put q np rfl ?_⟩
      show (((if dv = dy then 1 else 0 : Nat)) : Int) = 1
      rw [if_pos e]
      rfl
abbrev nWbel : List Str := ["part", "words"]
theorem scWbel : FnScope nWbel ["part", "words"] (defScope sBelowWord) := ⟨rfl, rfl, rfl, by decide +kernel, rfl, by decide +kernel, by decide +kernel⟩
theorem ok_below (F : FnP K "below_word" sBelowWord f fd)

    : FnOk P w K mg base CX0 2 f fd ["part", "words"] (spAct K "below") := by
  refine F.ok scWbel (fun vs H Q E h => ?_) (fun cdv A outer s H vs Q E hr h => ?_)
  · obtain ⟨Γ, U, v, L, o, ps, wd, ws, rfl, _⟩ := h
    rfl
  · obtain ⟨Γ, U, v, L, o, ps, wd, ws, rfl, ko, wt, g, ea, hL, aw, q⟩ := h
    refine ⟨_, PSs.nox (pss_one (ps_ret (pe_tup (pa_cons pe_int (pa_cons (pe_ifExp (pt_cmpR op_lt (pe_ix (r := L2.rIxT K) (by exact ix_tup) (pe_ix ix_list (pv 1) pe_int (fun _ _ => rfl)) pe_int (fun _ _ => rfl)) (pe_ix (r := L2.rIxT K) (by exact ix_tup) (pe_ix ix_list (pv 1) pe_int (fun _ _ => rfl)) pe_int (fun _ _ => rfl)) (nomark _)) pe_int pe_int) pa_nil))))), ?_⟩
    obtain ⟨p, p2, u, rfl, rfl, hle, wp, wp2⟩ := inv_bin (by decide) ko wt
    rw [den_op] at q
    obtain ⟨e1, e2⟩ := wt_den g wp
    obtain ⟨e3, e4⟩ := wt_den g wp2
    rw [List.map_cons, List.map_cons, List.map_nil] at aw q
    cases aw with
    | cons h0 h9 =>
    cases h9 with
    | cons h1 h9 =>
    cases h9
    obtain ⟨t0, rfl, ht0⟩ := h0
    obtain ⟨t1, rfl, ht1⟩ := h1
    generalize den Γ U p = d at *
    generalize den Γ U p2 = d2 at *
    obtain ⟨dw, dv⟩ := d
    obtain ⟨dx, dy⟩ := d2
    have e5 : dw = dx := Eq.trans e1 (Eq.symm e3)
    subst e5
    have pw := pow_cast dw
    have pp := Nat.two_pow_pos dw
    have e2 : dv < 2 ^ dw := by
      have e6 : dw = _ := e1
      rw [e6]
      exact e2
    have e4 : dy < 2 ^ dw := by
      have e6 : dw = _ := e1
      rw [e6]
      exact e4
    have e1 : dw ≤ 4096 := by
      have e6 : dw = _ := e1
      omega
    clear e3
    refine wi1 0 rfl hL rfl ht0 (wi1 1 rfl hL rfl ht1 ⟨_, _, rfl, rfl, _, rfl, ?_⟩)
    rcases Nat.lt_or_ge dv dy with e | e
    · refine goT (decide_eq_true (by omega)) ?_
      refine ⟨len2, fun p np => put q np rfl ?_⟩
      show (((if dv < dy then 1 else 0 : Nat)) : Int) = 1
      rw [if_pos e]
      rfl
    · refine goF (decide_eq_false (by omega)) ?_
      refine ⟨len2, fun p np => put q np rfl ?_⟩
      show (((if dv < dy then 1 else 0 : Nat)) : Int) = 0
      rw [if_neg (by omega)]
      rfl
abbrev nWif : List Str := ["part", "words"]
theorem scWif : FnScope nWif ["part", "words"] (defScope sIfWord) := ⟨rfl, rfl, rfl, by decide +kernel, rfl, by decide +kernel, by decide +kernel⟩
theorem ok_if (F : FnP K "if_word" sIfWord f fd)

    : FnOk P w K mg base CX0 2 f fd ["part", "words"] (spAct K "if") := by
  refine F.ok scWif (fun vs H Q E h => ?_) (fun cdv A outer s H vs Q E hr h => ?_)
  · obtain ⟨Γ, U, v, L, o, ps, wd, ws, rfl, _⟩ := h
    rfl
  · obtain ⟨Γ, U, v, L, o, ps, wd, ws, rfl, ko, wt, g, ea, hL, aw, q⟩ := h
    refine ⟨_, PSs.nox (pss_one (ps_ret (pe_ifExp (pt_cmpR op_eq (pe_ix (r := L2.rIxT K) (by exact ix_tup) (pe_ix ix_list (pv 1) pe_int (fun _ _ => rfl)) pe_int (fun _ _ => rfl)) pe_int (nomark _)) (pe_ix ix_list (pv 1) pe_int (fun _ _ => rfl)) (pe_ix ix_list (pv 1) pe_int (fun _ _ => rfl))))), ?_⟩
    obtain ⟨c, p, p2, rfl, rfl, w0, w1, w2⟩ := inv_ite ko wt
    rw [den_op] at q
    rw [List.map_cons, List.map_cons, List.map_cons, List.map_nil] at aw q
    cases aw with
    | cons h0 h9 =>
    cases h9 with
    | cons h1 h9 =>
    cases h9 with
    | cons h2 h9 =>
    cases h9
    obtain ⟨t0, rfl, ht0⟩ := h0
    have q : ∀ r, WAt K H r (if (den Γ U c).2 = 1 then den Γ U p else den Γ U p2) → Q r H := fun r => q H r (Same.refl H)
    refine wi1 0 rfl hL rfl ht0 ⟨rfl, _, rfl, ?_⟩
    rcases Nat.decEq (den Γ U c).2 1 with e | e
    · rw [if_neg e] at q
      refine goF (vne e) ?_
      exact ⟨_, rfl, L, _, 2, _, rfl, rfl, SqL.of hL, at_of (j := 2) rfl rfl, q _ h2⟩
    · rw [if_pos e] at q
      refine goT (veq e) ?_
      exact ⟨_, rfl, L, _, 1, _, rfl, rfl, SqL.of hL, at_of (j := 1) rfl rfl, q _ h1⟩
abbrev nWlef : List Str := ["part", "words"]
theorem scWlef : FnScope nWlef ["part", "words"] (defScope sLeftWord) := ⟨rfl, rfl, rfl, by decide +kernel, rfl, by decide +kernel, by decide +kernel⟩
theorem ok_left (F : FnP K "left_word" sLeftWord f fd)
    {fWI : Addr} {dWI : FuncData}
    (GWI : FnOk P w K mg base CX0 1 fWI dWI ["width", "number"] (spWI K)) (gWI : mg "within" = some (.ref fWI)) (kWI : PySem.W.keepIn K (.ref fWI) = true) (bWI : Binds K dWI ["width", "number"] [])
    : FnOk P w K mg base CX0 2 f fd ["part", "words"] (spAct K "left") := by
  refine F.ok scWlef (fun vs H Q E h => ?_) (fun cdv A outer s H vs Q E hr h => ?_)
  · obtain ⟨Γ, U, v, L, o, ps, wd, ws, rfl, _⟩ := h
    rfl
  · obtain ⟨Γ, U, v, L, o, ps, wd, ws, rfl, ko, wt, g, ea, hL, aw, q⟩ := h
    refine ⟨_, PSs.nox (pss_one (ps_ret (pe_call GWI (hr.mono (by decide)) (by rfl) gWI kWI bWI .nil pass0 (pa_cons (pe_ix (r := L2.rIxT K) (by exact ix_tup) (pe_ix ix_list (pv 1) pe_int (fun _ _ => rfl)) pe_int (fun _ _ => rfl)) (pa_cons (pe_op op_shlN (pe_ix (r := L2.rIxT K) (by exact ix_tup) (pe_ix ix_list (pv 1) pe_int (fun _ _ => rfl)) pe_int (fun _ _ => rfl)) (pe_ix (r := L2.rIxT K) (by exact ix_tup) (pv 0) pe_int (fun _ _ => rfl))) pa_nil))))), ?_⟩
    obtain ⟨p, n, rfl, rfl, hn, wp⟩ := inv_sh (by decide) ko wt
    obtain ⟨tv, xs, rfl, hx, x2⟩ := sh_at ea
    rw [den_op] at q
    obtain ⟨e1, e2⟩ := wt_den g wp
    rw [List.map_cons, List.map_nil] at aw q
    cases aw with
    | cons h0 h9 =>
    cases h9
    obtain ⟨t0, rfl, ht0⟩ := h0
    have hle := wp.le
    generalize den Γ U p = d at *
    obtain ⟨dw, dv⟩ := d
    have pw := pow_cast dw
    have pp := Nat.two_pow_pos dw
    have e2 : dv < 2 ^ dw := by
      have e3 : dw = _ := e1
      rw [e3]
      exact e2
    have e1 : dw ≤ 4096 := by
      have e3 : dw = _ := e1
      omega
    refine wi 0 rfl hL rfl ht0 (wi1 0 rfl hL rfl ht0 ⟨_, rfl, tv, xs, 2, _, rfl, rfl, hx, at_of (j := 2) rfl x2, _, n, rfl, rfl, shl_ok (n := dw) (by omega) (by omega), dw, _, rfl, by omega, fun p np => put q np rfl ?_⟩)
    show ((dv * 2 ^ (n : Int).toNat % 2 ^ dw : Nat) : Int) = ((dv : Int) * 2 ^ n) % 2 ^ dw
    rw [castM, Int.natCast_mul, Int.toNat_natCast, pow_cast]
abbrev nWrig : List Str := ["part", "words"]
theorem scWrig : FnScope nWrig ["part", "words"] (defScope sRightWord) := ⟨rfl, rfl, rfl, by decide +kernel, rfl, by decide +kernel, by decide +kernel⟩
theorem ok_right (F : FnP K "right_word" sRightWord f fd)

    : FnOk P w K mg base CX0 2 f fd ["part", "words"] (spAct K "right") := by
  refine F.ok scWrig (fun vs H Q E h => ?_) (fun cdv A outer s H vs Q E hr h => ?_)
  · obtain ⟨Γ, U, v, L, o, ps, wd, ws, rfl, _⟩ := h
    rfl
  · obtain ⟨Γ, U, v, L, o, ps, wd, ws, rfl, ko, wt, g, ea, hL, aw, q⟩ := h
    refine ⟨_, PSs.nox (pss_one (ps_ret (pe_tup (pa_cons (pe_ix (r := L2.rIxT K) (by exact ix_tup) (pe_ix ix_list (pv 1) pe_int (fun _ _ => rfl)) pe_int (fun _ _ => rfl)) (pa_cons (pe_op op_shrN (pe_ix (r := L2.rIxT K) (by exact ix_tup) (pe_ix ix_list (pv 1) pe_int (fun _ _ => rfl)) pe_int (fun _ _ => rfl)) (pe_ix (r := L2.rIxT K) (by exact ix_tup) (pv 0) pe_int (fun _ _ => rfl))) pa_nil))))), ?_⟩
    obtain ⟨p, n, rfl, rfl, hn, wp⟩ := inv_sh (by decide) ko wt
    obtain ⟨tv, xs, rfl, hx, x2⟩ := sh_at ea
    rw [den_op] at q
    obtain ⟨e1, e2⟩ := wt_den g wp
    rw [List.map_cons, List.map_nil] at aw q
    cases aw with
    | cons h0 h9 =>
    cases h9
    obtain ⟨t0, rfl, ht0⟩ := h0
    have hle := wp.le
    generalize den Γ U p = d at *
    obtain ⟨dw, dv⟩ := d
    have pw := pow_cast dw
    have pp := Nat.two_pow_pos dw
    have e2 : dv < 2 ^ dw := by
      have e3 : dw = _ := e1
      rw [e3]
      exact e2
    have e1 : dw ≤ 4096 := by
      have e3 : dw = _ := e1
      omega
    refine wi 0 rfl hL rfl ht0 (wi1 0 rfl hL rfl ht0 ⟨_, rfl, tv, xs, 2, _, rfl, rfl, hx, at_of (j := 2) rfl x2, _, n, rfl, rfl, len2, fun p np => put q np rfl ?_⟩)
    show ((dv / 2 ^ (n : Int).toNat : Nat) : Int) = (dv : Int) / 2 ^ n
    rw [Int.toNat_natCast, Int.natCast_ediv, pow_cast]
abbrev nWsli : List Str := ["part", "words", "_", "high", "low"]
theorem scWsli : FnScope nWsli ["part", "words"] (defScope sSliceWord) := ⟨rfl, rfl, rfl, by decide +kernel, rfl, by decide +kernel, by decide +kernel⟩
theorem ok_slice (F : FnP K "slice_word" sSliceWord f fd)
    {fWI : Addr} {dWI : FuncData}
    (GWI : FnOk P w K mg base CX0 1 fWI dWI ["width", "number"] (spWI K)) (gWI : mg "within" = some (.ref fWI)) (kWI : PySem.W.keepIn K (.ref fWI) = true) (bWI : Binds K dWI ["width", "number"] [])
    : FnOk P w K mg base CX0 2 f fd ["part", "words"] (spAct K "slice") := by
  refine F.ok scWsli (fun vs H Q E h => ?_) (fun cdv A outer s H vs Q E hr h => ?_)
  · obtain ⟨Γ, U, v, L, o, ps, wd, ws, rfl, _⟩ := h
    rfl
  · obtain ⟨Γ, U, v, L, o, ps, wd, ws, rfl, ko, wt, g, ea, hL, aw, q⟩ := h
    refine ⟨_, PSs.nox (pss_cons (ps_asg (pv 0) (pg_tup rfl (pgs_cons (pg_name (i := 2) scWsli.nd rfl (Or.inl rfl)) (pgs_cons (pg_name (i := 2) scWsli.nd rfl (Or.inl rfl)) (pgs_cons (pg_name (i := 3) scWsli.nd rfl (Or.inl rfl)) (pgs_cons (pg_name (i := 4) scWsli.nd rfl (Or.inl rfl)) pgs_nil))))))
      (pss_one (ps_ret (pe_call GWI (hr.mono (by decide)) (by rfl) gWI kWI bWI .nil pass0 (pa_cons (pe_op op_add (pe_op op_sub (pv 3) (pv 4)) pe_int) (pa_cons (pe_op op_shrN (pe_ix (r := L2.rIxT K) (by exact ix_tup) (pe_ix ix_list (pv 1) pe_int (fun _ _ => rfl)) pe_int (fun _ _ => rfl)) (pv 4)) pa_nil)))))), ?_⟩
    obtain ⟨p, hi, lo, u, rfl, rfl, l1, l2, l3, wp⟩ := inv_slc ko wt
    obtain ⟨tv, x0, x1, rfl, hx⟩ := slc_at ea
    rw [den_op] at q
    obtain ⟨e1, e2⟩ := wt_den g wp
    rw [List.map_cons, List.map_nil] at aw q
    cases aw with
    | cons h0 h9 =>
    cases h9
    obtain ⟨t0, rfl, ht0⟩ := h0
    have hle := wp.le
    generalize den Γ U p = d at *
    obtain ⟨dw, dv⟩ := d
    have pw := pow_cast dw
    have pp := Nat.two_pow_pos dw
    have e2 : dv < 2 ^ dw := by
      have e3 : dw = _ := e1
      rw [e3]
      exact e2
    have e1 : dw ≤ 4096 := by
      have e3 : dw = _ := e1
      omega
    refine ⟨_, rfl, tv, _, rfl, hx, rfl, ?_⟩
    refine ⟨_, _, rfl, _, _, rfl, _, _, rfl, _, _, rfl, rfl, ?_⟩
    refine ⟨_, rfl, _, rfl, _, _, rfl, rfl, _, _, rfl, rfl, wi1 0 rfl hL rfl ht0 ⟨_, rfl, _, lo, rfl, rfl, hi - lo + 1, (dv : Int) / 2 ^ lo, ?_, by omega, fun p np => put q np ?_ ?_⟩⟩
    · rw [show ((hi - lo + 1 : Nat) : Int) = (hi : Int) - (lo : Int) + 1 by omega]
      rfl
    · show (((hi : Int).toNat - (lo : Int).toNat + 1 : Nat) : Int) = ((hi - lo + 1 : Nat) : Int)
      rw [Int.toNat_natCast, Int.toNat_natCast]
    · show ((dv / 2 ^ (lo : Int).toNat % 2 ^ ((hi : Int).toNat - (lo : Int).toNat + 1) : Nat) : Int) = ((dv : Int) / 2 ^ lo) % 2 ^ (hi - lo + 1)
      rw [Int.toNat_natCast, Int.toNat_natCast, castM, Int.natCast_ediv, pow_cast]
abbrev nWjoi : List Str := ["part", "words", "whole", "number", "width", "word"]
theorem scWjoi : FnScope nWjoi ["part", "words"] (defScope sJoinWord) := ⟨rfl, rfl, rfl, by decide +kernel, rfl, by decide +kernel, by decide +kernel⟩
theorem ok_join (F : FnP K "join_word" sJoinWord f fd)

    : FnOk P w K mg base CX0 2 f fd ["part", "words"] (spAct K "join") := by
  refine F.ok scWjoi (fun vs H Q E h => ?_) (fun cdv A outer s H vs Q E hr h => ?_)
  · obtain ⟨Γ, U, v, L, o, ps, wd, ws, rfl, _⟩ := h
    rfl
  · obtain ⟨Γ, U, v, L, o, ps, wd, ws, rfl, ko, wt, g, ea, hL, aw, q⟩ := h
    refine ⟨_, PSs.nox (pss_cons (ps_asg (pe_tup (pa_cons pe_int (pa_cons pe_int pa_nil))) (pg_tup rfl (pgs_cons (pg_name (i := 2) scWjoi.nd rfl (Or.inl rfl)) (pgs_cons (pg_name (i := 3) scWjoi.nd rfl (Or.inl rfl)) pgs_nil))))
      (pss_cons (ps_for PassesOwn.never rfl (pi_list (pv 1)) (pg_tup rfl (pgs_cons (pg_name (i := 4) scWjoi.nd rfl (Or.inl rfl)) (pgs_cons (pg_name (i := 5) scWjoi.nd rfl (Or.inl rfl)) pgs_nil)))
        (pss_cons (ps_aug (i := 2) scWjoi.nd rfl (Or.inl rfl) (pv 4) ip_add)
        (pss_one (ps_set (i := 3) scWjoi.nd rfl (Or.inl rfl) (pe_op op_orL (pe_op op_shlN (pv 3) (pv 4)) (pv 5))))))
      (pss_one (ps_ret (pe_tup (pa_cons (pv 2) (pa_cons (pv 3) pa_nil))))))), ?_⟩
    obtain ⟨us, rfl, wts, su⟩ := inv_join ko wt
    rw [den_op] at q
    obtain ⟨dw, dl⟩ := wts_den g wts
    refine ⟨len2, fun z nz => ⟨z, _, rfl, SqT.of upd_same, rfl, _, _, rfl, _, _, rfl, rfl, ?_⟩⟩
    have sz := same_new (u := .tup [.int 0, .int 0]) nz
    have hL2 := sz _ _ hL
    refine ⟨_, rfl, L, rfl, ⟨_, SqL.of hL2⟩, for_list (K := K) (a := L) (xs := ws) (fun i σ H' => ∃ x4 x5 : Option V, σ = [some v, some (.ref L), some (.int ((joinP (0, 0) ((ps.map (den Γ U)).take i)).1 : Nat)), some (.int ((joinP (0, 0) ((ps.map (den Γ U)).take i)).2 : Nat)), x4, x5] ∧ Same H H')
      ⟨_, _, rfl, sz⟩ (fun i σ H' _ ⟨_, _, _, s⟩ => SqL.of (s _ _ hL)) ?_ ?_⟩
    · rintro i y σ H3 hy ⟨x4, x5, rfl, s3⟩
      obtain ⟨d, hd, t, rfl, ht⟩ := aw.get hy
      have ht3 := seqT_same s3 ht
      have st := take_step hd
      obtain ⟨jw, jv⟩ := joinP_lt (ds := (ps.map (den Γ U)).take i) (ws := us.take i) (0, 0) (fun j => by rw [List.getElem?_take, List.getElem?_take]; split; exact dw j; rfl) (fun e he => dl e (List.mem_of_mem_take he)) (by decide)
      have su2 := sum_take_le us i
      rw [Nat.zero_add] at jw jv
      have dm := dl d (List.mem_of_getElem? hd)
      have dws : d.1 ≤ 4096 := by
        have h1 := dw i
        rw [hd] at h1
        have h2 := List.mem_of_getElem? h1.symm
        have h3 : d.1 ≤ us.sum := mem_le_sum h2
        omega
      refine ⟨t, _, rfl, ht3, rfl, _, _, rfl, _, _, rfl, rfl, ?_⟩
      rw [st]
      rw [joinP_snoc]
      generalize joinP (0, 0) (List.take i (ps.map (den Γ U))) = s0 at jw jv ⊢
      refine ⟨_, rfl, _, rfl, _, _, rfl, rfl, _, rfl, _, rfl, (s0.2 : Int), d.1, rfl, rfl, shl_ok (n := s0.1) ?_ (by omega), _, rfl, (s0.2 : Int), (d.2 : Int), d.1, rfl, rfl, ⟨by omega, by omega, ?_⟩, ?_⟩
      · show ((s0.2 : Nat) : Int).natAbs < 2 ^ s0.1
        rw [Int.natAbs_natCast, jw]
        exact jv
      · rw [← pow_cast]
        exact Int.ofNat_lt.mpr dm
      · refine ⟨some (.int (d.1 : Nat)), some (.int (d.2 : Nat)), ?_, s3⟩
        rw [Int.natCast_add, Int.natCast_add, Int.natCast_mul, pow_cast]
        rfl
    · rintro σ H3 ⟨x4, x5, rfl, s3⟩
      have wl := aw.len
      rw [List.take_of_length_le (by omega)] 
      refine ⟨_, rfl, _, rfl, len2, fun p np => ?_⟩
      exact q _ _ (s3.trans (same_new np)) ⟨p, rfl, SqT.of upd_same⟩

end
end Et
namespace Mx
open PySem PySem.Spec PyProof.Rows L2
/-! ## Dicts whose keys are texts and tuples of ints and texts, side by side (no key is written twice) -/
abbrev MK := Str ⊕ List L2.Key
section
variable (P : Program) (w : World)
def KeyIs (h : Heap) : MK → Value → Prop
  | .inl x, v => ∃ t, v = .str x t
  | .inr ks, v => ∃ a, v = .ref a ∧ IsTupleKey (mixKind P w) h ks a
def mHash : MK → Int
  | .inl x => hashStr w x
  | .inr ks => (tupleKind (mixKind P w)).hash ks
def ent (x : MK × Value × Value) : DictEntry := ⟨mHash P w x.1, x.2.1, x.2.2⟩
end
section
variable {P : Program} {w : World} {A : Around} {E : Value → Shared → Prop} {s : Shared}
theorem isTup {h : Heap} {ks : List L2.Key} {a : Addr} (x : IsTupleKey (mixKind P w) h ks a) : ∃ its, h.IsTuple a its := by
  obtain ⟨o, its, n, h1, h2, h3, _⟩ := x
  exact ⟨its, o, h1, h2, n, h3⟩
theorem key_eq {k k' : MK} {u v : Value} {Q : Bool → Shared → Prop} (hu : A.units < cLine) (h1 : KeyIs P w s.heap k u) (h2 : KeyIs P w s.heap k' v) (h : Q (decide (k = k')) s) : wpAny (model P w) A (eqBool u v) Q E s := by
  cases k with
  | inl x =>
    obtain ⟨t, rfl⟩ := h1
    cases k' with
    | inl y =>
      obtain ⟨t', rfl⟩ := h2
      refine SeqAt.EqAt.str_str x t y t' P w E Q ?_
      rw [show (x == y) = decide ((Sum.inl x : MK) = Sum.inl y) from ?_]
      · exact h
      · by_cases e : x = y
        · subst e; simp
        · rw [decide_eq_false (fun q => e (Sum.inl.inj q))]
          exact beq_eq_false_iff_ne.mpr e
    | inr ks =>
      obtain ⟨a, rfl, ta⟩ := h2
      obtain ⟨its, hi⟩ := isTup ta
      refine SeqAt.EqAt.str_tuple x t hi hu P w E Q ?_
      rw [show false = decide ((Sum.inl x : MK) = Sum.inr ks) from (decide_eq_false (fun q => nomatch q)).symm]
      exact h
  | inr js =>
    obtain ⟨b, rfl, tb⟩ := h1
    cases k' with
    | inl y =>
      obtain ⟨t', rfl⟩ := h2
      obtain ⟨its, hi⟩ := isTup tb
      refine SeqAt.EqAt.tuple_str y t' hi hu P w E Q ?_
      rw [show false = decide ((Sum.inr js : MK) = Sum.inl y) from (decide_eq_false (fun q => nomatch q)).symm]
      exact h
    | inr ks =>
      obtain ⟨a, rfl, ta⟩ := h2
      refine (tupleKind (mixKind P w)).eqBool hu tb ta ?_
      rw [show decide (js = ks) = decide ((Sum.inr js : MK) = Sum.inr ks) from ?_]
      · exact h
      · by_cases e : js = ks
        · subst e; simp
        · rw [decide_eq_false e, decide_eq_false (fun q => e (Sum.inr.inj q))]
theorem key_hash {k : MK} {v : Value} {Q : Int → Shared → Prop} (hu : A.units < cLine) (h1 : KeyIs P w s.heap k v) (h : ∀ tk, Q (mHash P w k) { s with toks := tk }) : wpAny (model P w) A (PySem.pyHash v) Q E s := by
  cases k with
  | inl x =>
    obtain ⟨t, rfl⟩ := h1
    exact wpAny_pyHash_str (h _)
  | inr ks =>
    obtain ⟨a, rfl, ta⟩ := h1
    exact (tupleKind (mixKind P w)).pyHash hu ta (h _)
theorem key_quiet {k : MK} {v : Value} {Q : Bool → Shared → Prop} (h1 : KeyIs P w s.heap k v) (h : Q true s) : wpAny (model P w) A (eqIsQuiet 8 v) Q E s := by
  cases k with
  | inl x =>
    obtain ⟨t, rfl⟩ := h1
    unfold eqIsQuiet
    exact wpAny_pure h
  | inr ks =>
    obtain ⟨a, rfl, ta⟩ := h1
    exact (tupleKind (mixKind P w)).quiet ta h
theorem key_inj {h : Heap} {k k' : MK} {v : Value} (h1 : KeyIs P w h k v) (h2 : KeyIs P w h k' v) : k = k' := by
  cases k with
  | inl x =>
    obtain ⟨t, rfl⟩ := h1
    cases k' with
    | inl y =>
      obtain ⟨t', e⟩ := h2
      injection e with e1 _
      rw [e1]
    | inr ks =>
      obtain ⟨a, e, _⟩ := h2
      cases e
  | inr js =>
    obtain ⟨b, rfl, tb⟩ := h1
    cases k' with
    | inl y =>
      obtain ⟨t', e⟩ := h2
      cases e
    | inr ks =>
      obtain ⟨a, e, ta⟩ := h2
      cases e
      rw [(tupleKind (mixKind P w)).inj tb ta]
theorem tells_quiet {k : MK} {key : Value} {vs : List Value} {Q : Bool → Shared → Prop} (hk : KeyIs P w s.heap k key) (hv : ∀ v ∈ vs, ∃ k', KeyIs P w s.heap k' v) (h : Q false s) : wpAny (model P w) A (tableMayTell key vs) Q E s := by
  unfold tableMayTell
  split
  · exact wpAny_pure h
  · refine wpAny_bind (key_quiet hk ?_)
    rw [if_neg (by decide)]
    refine wpAny_bind ?_
    refine wpAny_forIn_list _ (fun rest r s' => s' = s ∧ r = (none, ()) ∧ ∀ v ∈ rest, v ∈ vs) _ ?_ ?_ _ _ ⟨rfl, rfl, fun v h => h⟩
    · rintro x rest r s' ⟨rfl, rfl, m⟩
      obtain ⟨k', hk'⟩ := hv x (m x List.mem_cons_self)
      refine wpAny_bind (key_quiet hk' ?_)
      rw [if_neg (by decide)]
      exact wpAny_pure ⟨rfl, rfl, fun v h => m v (List.mem_cons_of_mem _ h)⟩
    · rintro r s' ⟨rfl, rfl, _⟩
      exact wpAny_pure h
theorem ent_at {es : Array DictEntry} {xs : List (MK × Value × Value)} (he : es.toList = xs.map (ent P w)) (j : Nat) : es[j]? = (xs[j]?).map (ent P w) := by
  rw [← Array.getElem?_toList, he]
  exact List.getElem?_map ..
theorem nodup_at {xs : List (MK × Value × Value)} (hn : (xs.map (·.1)).Nodup) {i j : Nat} {x y : MK × Value × Value} (hi : xs[i]? = some x) (hj : xs[j]? = some y) (e : x.1 = y.1) : i = j := by
  have li := (List.getElem?_eq_some_iff.mp hi).1
  have lj := (List.getElem?_eq_some_iff.mp hj).1
  refine (List.getElem_inj (i := i) (j := j) (h₀ := by rw [List.length_map]; exact li) (h₁ := by rw [List.length_map]; exact lj) hn).mp ?_
  rw [List.getElem_map, List.getElem_map, (List.getElem?_eq_some_iff.mp hi).2, (List.getElem?_eq_some_iff.mp hj).2]
  exact e
theorem find_mix {d : Addr} {o : Obj} {es : Array DictEntry} {ep : Nat} {xs : List (MK × Value × Value)} {k : MK} {key : Value} {Q : Option Nat → Shared → Prop} (hu : A.units < cLine) (hkey : KeyIs P w s.heap k key) (ho : s.heap.get? d = some o)
    (hd : o.data = .dict es ep) (he : es.toList = xs.map (ent P w)) (his : ∀ x ∈ xs, KeyIs P w s.heap x.1 x.2.1) (hn : (xs.map (·.1)).Nodup)
    (hnone : (∀ (j : Nat) x, xs[j]? = some x → x.1 ≠ k) → Q none s) (hsome : ∀ (j : Nat) x, xs[j]? = some x → x.1 = k → Q (some j) s) : wpAny (model P w) A (dictFind d key (mHash P w k)) Q E s := by
  by_cases all : (∀ x ∈ xs, ∃ y, x.1 = .inl y) ∧ ∃ y, k = .inl y
  · obtain ⟨al, y, rfl⟩ := all
    obtain ⟨t, rfl⟩ := hkey
    have hk : KeysOf (mixKind P w) es := by
      intro e hin
      have : e ∈ xs.map (ent P w) := he ▸ Array.mem_toList_iff.mpr hin
      obtain ⟨x, hx, rfl⟩ := (List.mem_map.mp this)
      obtain ⟨z, hz⟩ := al x hx
      have := his x hx
      rw [hz] at this
      obtain ⟨t', ht'⟩ := this
      refine ⟨.inr z, ?_, ?_⟩
      · have e3 : (ent P w x).key = x.2.1 := rfl
        rw [e3, ht']
        exact L2.keyIs_str z t'
      · show mHash P w x.1 = _
        rw [hz]
        rfl
    refine wpAny_dictFind_of (knd := mixKind P w) (k := .inr y) (keyIs_str y t) ho hd hk ?_
    cases hf : es.findIdx? fun e => (mixKind P w).is (.inr y) e.key with
    | none =>
      refine hnone fun j x hx e => ?_
      have := Array.findIdx?_eq_none_iff.mp hf (ent P w x) (Array.mem_of_getElem? (by rw [ent_at he, hx]; rfl : es[j]? = some (ent P w x)))
      have h2 := his x (List.mem_of_getElem? hx)
      rw [e] at h2
      obtain ⟨t', ht'⟩ := h2
      have h3 : L2.keyIs (.inr y) x.2.1 = false := this
      rw [ht', keyIs_str] at h3
      cases h3
    | some j =>
      obtain ⟨hj, hp, _⟩ := Array.findIdx?_eq_some_iff_getElem.mp hf
      have e1 : es[j]? = some es[j] := Array.getElem?_eq_getElem hj
      rw [ent_at he] at e1
      obtain ⟨x, hx, ex⟩ := Option.map_eq_some_iff.mp e1
      refine hsome j x hx ?_
      obtain ⟨z, hz⟩ := al x (List.mem_of_getElem? hx)
      have h2 := his x (List.mem_of_getElem? hx)
      rw [hz] at h2 ⊢
      obtain ⟨t', ht'⟩ := h2
      have h3 : L2.keyIs (.inr y) es[j].key = true := hp
      rw [← ex] at h3
      have h4 : L2.keyIs (.inr y) x.2.1 = true := h3
      rw [ht'] at h4
      have := (mixKind P w).inj (.str z t') (.inr y) (.inr z) h4 (L2.keyIs_str z t')
      injection this with this
      rw [this]
  · have hL : ∀ i ∈ placesWithHash es.size (fun i => es[i]?.map (·.hash)) (mHash P w k), ∃ x, xs[i]? = some x ∧ es[i]? = some (ent P w x) ∧ ((ent P w x).hash == mHash P w k) = true := by
      intro i hi
      unfold placesWithHash at hi
      obtain ⟨_, h2⟩ := List.mem_filter.mp hi
      have h2 : (es[i]?.map (·.hash) == some (mHash P w k)) = true := h2
      rw [ent_at he] at h2
      cases hx : xs[i]? with
      | none =>
        rw [hx] at h2
        cases h2
      | some x =>
        rw [hx] at h2
        refine ⟨x, rfl, by rw [ent_at he, hx]; rfl, ?_⟩
        have h3 : (some (ent P w x).hash == some (mHash P w k)) = true := h2
        simpa using h3
    have hL2 : ∀ (j : Nat) x, xs[j]? = some x → x.1 = k → j ∈ placesWithHash es.size (fun i => es[i]?.map (·.hash)) (mHash P w k) := by
      intro j x hx e
      unfold placesWithHash
      have sz : es.size = xs.length := by
        have := congrArg List.length he
        rw [List.length_map, Array.length_toList] at this
        exact this
      refine List.mem_filter.mpr ⟨List.mem_range.mpr (by rw [sz]; exact (List.getElem?_eq_some_iff.mp hx).1), ?_⟩
      show (es[j]?.map (·.hash) == some (mHash P w k)) = true
      rw [ent_at he, hx]
      show (some (mHash P w x.1) == some (mHash P w k)) = true
      rw [e]
      simp
    have hLn : (placesWithHash es.size (fun i => es[i]?.map (·.hash)) (mHash P w k)).Nodup := by
      unfold placesWithHash
      exact List.Pairwise.filter _ List.nodup_range
    have hst : ∀ v ∈ (placesWithHash es.size (fun i => es[i]?.map (·.hash)) (mHash P w k)).filterMap (fun i => es[i]?.map (·.key)), ∃ k', KeyIs P w s.heap k' v := by
      intro v hv
      obtain ⟨i, hi, hv2⟩ := List.mem_filterMap.mp hv
      obtain ⟨x, hx, hex, _⟩ := hL i hi
      rw [hex] at hv2
      have : x.2.1 = v := Option.some.inj hv2
      exact ⟨x.1, this ▸ his x (List.mem_of_getElem? hx)⟩
    unfold dictFind
    refine wpAny_holding (wpAny_bind (wpAny_dictEntries ho hd ?_))
    dsimp only
    generalize placesWithHash es.size (fun i => es[i]?.map (·.hash)) (mHash P w k) = L at hL hL2 hLn hst ⊢
    generalize L.filterMap (fun i => es[i]?.map (·.key)) = st at hst ⊢
    cases k with
    | inl y =>
      obtain ⟨t, rfl⟩ := id hkey
      have na : ¬ (es.all fun e => isExactStrKey e.key) = true := by
        intro h
        refine all ⟨fun x hx => ?_, y, rfl⟩
        have hin : ent P w x ∈ es := Array.mem_toList_iff.mp (he ▸ List.mem_map.mpr ⟨x, hx, rfl⟩)
        have h2 := Array.all_eq_true'.mp h _ hin
        have h3 := his x hx
        cases e : x.1 with
        | inl z => exact ⟨z, rfl⟩
        | inr ks =>
          rw [e] at h3
          obtain ⟨a, ea, _⟩ := h3
          have h4 : isExactStrKey x.2.1 = true := h2
          rw [ea] at h4
          cases h4
      dsimp only
      rw [if_neg na]
      by_cases hc : ((Value.str y t :: st).all carriedByValue) = true
      · rw [if_pos hc]
        unfold dictWalkPlain
        refine wpAny_bind ?_
        refine wpAny_forIn_list _ (fun rest r s' => s' = s ∧ r = (none, ()) ∧ (∀ i ∈ rest, i ∈ L) ∧ ∀ (j : Nat) x, xs[j]? = some x → x.1 = Sum.inl y → j ∈ rest) _ ?_ ?_ _ _ ⟨rfl, rfl, fun i h => h, hL2⟩
        · rintro i rest r s' ⟨rfl, rfl, sub, m⟩
          obtain ⟨x, hx, hex, hhash⟩ := hL i (sub i List.mem_cons_self)
          have hkx := his x (List.mem_of_getElem? hx)
          rw [hex]
          dsimp only
          rw [if_pos hhash]
          refine wpAny_bind (wpAny_dictEpoch ho hd (wpAny_bind (key_eq hu hkx hkey (wpAny_bind (wpAny_dictEpoch ho hd ?_)))))
          rw [if_neg (by simp)]
          by_cases ek : x.1 = Sum.inl y
          · rw [decide_eq_true ek, if_pos rfl]
            exact wpAny_bind (wpAny_rule (wpAny_pure (wpAny_pure (hsome i x hx ek))))
          · rw [decide_eq_false ek, if_neg (by decide)]
            refine wpAny_bind (wpAny_rule (wpAny_pure ⟨rfl, rfl, fun j h => sub j (List.mem_cons_of_mem _ h), fun j y hy ey => ?_⟩))
            rcases List.mem_cons.mp (m j y hy ey) with e | e
            · subst e
              rw [hx] at hy
              injection hy with hy
              exact absurd (hy ▸ ey) ek
            · exact e
        · rintro r s' ⟨rfl, rfl, _, m⟩
          exact wpAny_pure (hnone fun j x hx e => nomatch m j x hx e)
      · rw [if_neg hc]
        by_cases hone : (st == [Value.str y t]) = true
        · rw [if_pos hone]
          refine (wpAny_bind (wpAny_pure ?_))
          rw [if_neg (by simp)]
          refine wpAny_bind ?_
          refine wpAny_forIn_list _ (fun rest r s' => s' = s ∧ ∃ hit : Option Nat, r = (none, hit) ∧ rest.Nodup ∧ (∀ i ∈ rest, i ∈ L) ∧ ((hit = none ∧ ∀ (j : Nat) x, xs[j]? = some x → x.1 = Sum.inl y → j ∈ rest) ∨ ∃ (j : Nat) (x : MK × Value × Value), hit = some j ∧ xs[j]? = some x ∧ x.1 = Sum.inl y ∧ ∀ i ∈ rest, i ≠ j)) _ ?_ ?_ _ _ ⟨rfl, none, rfl, hLn, fun i h => h, .inl ⟨rfl, hL2⟩⟩
          · rintro i rest r s' ⟨rfl, hit, rfl, nd, sub, hh⟩
            obtain ⟨x, hx, hex, hhash⟩ := hL i (sub i List.mem_cons_self)
            have hkx := his x (List.mem_of_getElem? hx)
            obtain ⟨ndi, ndr⟩ := List.nodup_cons.mp nd
            rw [hex]
            dsimp only
            rw [if_pos hhash]
            refine wpAny_bind (wpAny_dictEpoch ho hd (wpAny_bind (key_eq hu hkx hkey (wpAny_bind (wpAny_dictEpoch ho hd ?_)))))
            rw [if_neg (by simp)]
            by_cases ek : x.1 = Sum.inl y
            · rw [decide_eq_true ek, if_pos rfl]
              have hn0 : hit = none := by
                rcases hh with ⟨h, _⟩ | ⟨j, y, _, hy, ey, ne⟩
                · exact h
                · exact absurd (nodup_at hn hx hy (ek.trans ey.symm)) (ne i List.mem_cons_self)
              subst hn0
              rw [if_neg (by simp)]
              refine (wpAny_bind (wpAny_rule ?_))
              split
              · exact wpAny_pure (wpAny_pure (hsome i x hx ek))
              · exact wpAny_pure ⟨rfl, some i, rfl, ndr, fun j h => sub j (List.mem_cons_of_mem _ h), .inr ⟨i, x, rfl, hx, ek, fun j h e => ndi (e ▸ h)⟩⟩
            · rw [decide_eq_false ek, if_neg (by decide)]
              refine (wpAny_bind (wpAny_rule ?_))
              rw [if_neg (by simp)]
              refine wpAny_pure ⟨rfl, hit, rfl, ndr, fun j h => sub j (List.mem_cons_of_mem _ h), ?_⟩
              rcases hh with ⟨h, m⟩ | ⟨j, y, h, hy, ey, ne⟩
              · refine .inl ⟨h, fun j y hy ey => ?_⟩
                rcases List.mem_cons.mp (m j y hy ey) with e | e
                · subst e
                  rw [hx] at hy
                  injection hy with hy
                  exact absurd (hy ▸ ey) ek
                · exact e
              · exact .inr ⟨j, y, h, hy, ey, fun i h => ne i (List.mem_cons_of_mem _ h)⟩
          · rintro r s' ⟨rfl, hit, rfl, _, _, hh⟩
            rcases hh with ⟨rfl, m⟩ | ⟨j, y, rfl, hy, ey, _⟩
            · exact wpAny_pure (hnone fun j x hx e => nomatch m j x hx e)
            · exact wpAny_pure (hsome j y hy ey)
        · rw [if_neg hone]
          refine wpAny_bind (tells_quiet hkey hst ?_)
          rw [if_neg (by simp)]
          refine wpAny_bind ?_
          refine wpAny_forIn_list _ (fun rest r s' => s' = s ∧ ∃ hit : Option Nat, r = (none, hit) ∧ rest.Nodup ∧ (∀ i ∈ rest, i ∈ L) ∧ ((hit = none ∧ ∀ (j : Nat) x, xs[j]? = some x → x.1 = Sum.inl y → j ∈ rest) ∨ ∃ (j : Nat) (x : MK × Value × Value), hit = some j ∧ xs[j]? = some x ∧ x.1 = Sum.inl y ∧ ∀ i ∈ rest, i ≠ j)) _ ?_ ?_ _ _ ⟨rfl, none, rfl, hLn, fun i h => h, .inl ⟨rfl, hL2⟩⟩
          · rintro i rest r s' ⟨rfl, hit, rfl, nd, sub, hh⟩
            obtain ⟨x, hx, hex, hhash⟩ := hL i (sub i List.mem_cons_self)
            have hkx := his x (List.mem_of_getElem? hx)
            obtain ⟨ndi, ndr⟩ := List.nodup_cons.mp nd
            rw [hex]
            dsimp only
            rw [if_pos hhash]
            refine wpAny_bind (wpAny_dictEpoch ho hd (wpAny_bind (key_eq hu hkx hkey (wpAny_bind (wpAny_dictEpoch ho hd ?_)))))
            rw [if_neg (by simp)]
            by_cases ek : x.1 = Sum.inl y
            · rw [decide_eq_true ek, if_pos rfl]
              have hn0 : hit = none := by
                rcases hh with ⟨h, _⟩ | ⟨j, y, _, hy, ey, ne⟩
                · exact h
                · exact absurd (nodup_at hn hx hy (ek.trans ey.symm)) (ne i List.mem_cons_self)
              subst hn0
              rw [if_neg (by simp)]
              refine (wpAny_bind (wpAny_rule ?_))
              split
              · exact wpAny_pure (wpAny_pure (hsome i x hx ek))
              · exact wpAny_pure ⟨rfl, some i, rfl, ndr, fun j h => sub j (List.mem_cons_of_mem _ h), .inr ⟨i, x, rfl, hx, ek, fun j h e => ndi (e ▸ h)⟩⟩
            · rw [decide_eq_false ek, if_neg (by decide)]
              refine (wpAny_bind (wpAny_rule ?_))
              rw [if_neg (by simp)]
              refine wpAny_pure ⟨rfl, hit, rfl, ndr, fun j h => sub j (List.mem_cons_of_mem _ h), ?_⟩
              rcases hh with ⟨h, m⟩ | ⟨j, y, h, hy, ey, ne⟩
              · refine .inl ⟨h, fun j y hy ey => ?_⟩
                rcases List.mem_cons.mp (m j y hy ey) with e | e
                · subst e
                  rw [hx] at hy
                  injection hy with hy
                  exact absurd (hy ▸ ey) ek
                · exact e
              · exact .inr ⟨j, y, h, hy, ey, fun i h => ne i (List.mem_cons_of_mem _ h)⟩
          · rintro r s' ⟨rfl, hit, rfl, _, _, hh⟩
            rcases hh with ⟨rfl, m⟩ | ⟨j, y, rfl, hy, ey, _⟩
            · exact wpAny_pure (hnone fun j x hx e => nomatch m j x hx e)
            · exact wpAny_pure (hsome j y hy ey)
    | inr ks =>
      obtain ⟨a, rfl, ta⟩ := id hkey
      have na : ¬ (es.any fun e => e.key == Value.ref a && e.hash != mHash P w (.inr ks)) = true := by
        intro h
        obtain ⟨i, hi, h2⟩ := Array.any_eq_true.mp h
        have e1 : es[i]? = some es[i] := Array.getElem?_eq_getElem hi
        rw [ent_at he] at e1
        obtain ⟨x, hx, ex⟩ := Option.map_eq_some_iff.mp e1
        rw [← ex] at h2
        obtain ⟨h3, h4⟩ := Bool.and_eq_true_iff.mp h2
        have h5 : x.2.1 = Value.ref a := eq_of_beq h3
        have h6 := his x (List.mem_of_getElem? hx)
        rw [h5] at h6
        have h7 : (mHash P w x.1 != mHash P w (.inr ks)) = true := h4
        rw [key_inj h6 hkey] at h7
        simp at h7
      dsimp only
      rw [if_neg (by simp [carriedByValue])]
      rw [if_neg na]
      by_cases hone : (st == [Value.ref a]) = true
      · rw [if_pos hone]
        refine (wpAny_bind (wpAny_pure ?_))
        rw [if_neg (by simp)]
        refine wpAny_bind ?_
        refine wpAny_forIn_list _ (fun rest r s' => s' = s ∧ ∃ hit : Option Nat, r = (none, hit) ∧ rest.Nodup ∧ (∀ i ∈ rest, i ∈ L) ∧ ((hit = none ∧ ∀ (j : Nat) x, xs[j]? = some x → x.1 = Sum.inr ks → j ∈ rest) ∨ ∃ (j : Nat) (x : MK × Value × Value), hit = some j ∧ xs[j]? = some x ∧ x.1 = Sum.inr ks ∧ ∀ i ∈ rest, i ≠ j)) _ ?_ ?_ _ _ ⟨rfl, none, rfl, hLn, fun i h => h, .inl ⟨rfl, hL2⟩⟩
        · rintro i rest r s' ⟨rfl, hit, rfl, nd, sub, hh⟩
          obtain ⟨x, hx, hex, hhash⟩ := hL i (sub i List.mem_cons_self)
          have hkx := his x (List.mem_of_getElem? hx)
          obtain ⟨ndi, ndr⟩ := List.nodup_cons.mp nd
          rw [hex]
          dsimp only
          rw [if_pos hhash]
          refine wpAny_bind (wpAny_dictEpoch ho hd (wpAny_bind (key_eq hu hkx hkey (wpAny_bind (wpAny_dictEpoch ho hd ?_)))))
          rw [if_neg (by simp)]
          by_cases ek : x.1 = Sum.inr ks
          · rw [decide_eq_true ek, if_pos rfl]
            have hn0 : hit = none := by
              rcases hh with ⟨h, _⟩ | ⟨j, y, _, hy, ey, ne⟩
              · exact h
              · exact absurd (nodup_at hn hx hy (ek.trans ey.symm)) (ne i List.mem_cons_self)
            subst hn0
            rw [if_neg (by simp)]
            refine (wpAny_bind (wpAny_rule ?_))
            split
            · exact wpAny_pure (wpAny_pure (hsome i x hx ek))
            · exact wpAny_pure ⟨rfl, some i, rfl, ndr, fun j h => sub j (List.mem_cons_of_mem _ h), .inr ⟨i, x, rfl, hx, ek, fun j h e => ndi (e ▸ h)⟩⟩
          · rw [decide_eq_false ek, if_neg (by decide)]
            refine (wpAny_bind (wpAny_rule ?_))
            rw [if_neg (by simp)]
            refine wpAny_pure ⟨rfl, hit, rfl, ndr, fun j h => sub j (List.mem_cons_of_mem _ h), ?_⟩
            rcases hh with ⟨h, m⟩ | ⟨j, y, h, hy, ey, ne⟩
            · refine .inl ⟨h, fun j y hy ey => ?_⟩
              rcases List.mem_cons.mp (m j y hy ey) with e | e
              · subst e
                rw [hx] at hy
                injection hy with hy
                exact absurd (hy ▸ ey) ek
              · exact e
            · exact .inr ⟨j, y, h, hy, ey, fun i h => ne i (List.mem_cons_of_mem _ h)⟩
        · rintro r s' ⟨rfl, hit, rfl, _, _, hh⟩
          rcases hh with ⟨rfl, m⟩ | ⟨j, y, rfl, hy, ey, _⟩
          · exact wpAny_pure (hnone fun j x hx e => nomatch m j x hx e)
          · exact wpAny_pure (hsome j y hy ey)
      · rw [if_neg hone]
        refine wpAny_bind (tells_quiet hkey hst ?_)
        rw [if_neg (by simp)]
        refine wpAny_bind ?_
        refine wpAny_forIn_list _ (fun rest r s' => s' = s ∧ ∃ hit : Option Nat, r = (none, hit) ∧ rest.Nodup ∧ (∀ i ∈ rest, i ∈ L) ∧ ((hit = none ∧ ∀ (j : Nat) x, xs[j]? = some x → x.1 = Sum.inr ks → j ∈ rest) ∨ ∃ (j : Nat) (x : MK × Value × Value), hit = some j ∧ xs[j]? = some x ∧ x.1 = Sum.inr ks ∧ ∀ i ∈ rest, i ≠ j)) _ ?_ ?_ _ _ ⟨rfl, none, rfl, hLn, fun i h => h, .inl ⟨rfl, hL2⟩⟩
        · rintro i rest r s' ⟨rfl, hit, rfl, nd, sub, hh⟩
          obtain ⟨x, hx, hex, hhash⟩ := hL i (sub i List.mem_cons_self)
          have hkx := his x (List.mem_of_getElem? hx)
          obtain ⟨ndi, ndr⟩ := List.nodup_cons.mp nd
          rw [hex]
          dsimp only
          rw [if_pos hhash]
          refine wpAny_bind (wpAny_dictEpoch ho hd (wpAny_bind (key_eq hu hkx hkey (wpAny_bind (wpAny_dictEpoch ho hd ?_)))))
          rw [if_neg (by simp)]
          by_cases ek : x.1 = Sum.inr ks
          · rw [decide_eq_true ek, if_pos rfl]
            have hn0 : hit = none := by
              rcases hh with ⟨h, _⟩ | ⟨j, y, _, hy, ey, ne⟩
              · exact h
              · exact absurd (nodup_at hn hx hy (ek.trans ey.symm)) (ne i List.mem_cons_self)
            subst hn0
            rw [if_neg (by simp)]
            refine (wpAny_bind (wpAny_rule ?_))
            split
            · exact wpAny_pure (wpAny_pure (hsome i x hx ek))
            · exact wpAny_pure ⟨rfl, some i, rfl, ndr, fun j h => sub j (List.mem_cons_of_mem _ h), .inr ⟨i, x, rfl, hx, ek, fun j h e => ndi (e ▸ h)⟩⟩
          · rw [decide_eq_false ek, if_neg (by decide)]
            refine (wpAny_bind (wpAny_rule ?_))
            rw [if_neg (by simp)]
            refine wpAny_pure ⟨rfl, hit, rfl, ndr, fun j h => sub j (List.mem_cons_of_mem _ h), ?_⟩
            rcases hh with ⟨h, m⟩ | ⟨j, y, h, hy, ey, ne⟩
            · refine .inl ⟨h, fun j y hy ey => ?_⟩
              rcases List.mem_cons.mp (m j y hy ey) with e | e
              · subst e
                rw [hx] at hy
                injection hy with hy
                exact absurd (hy ▸ ey) ek
              · exact e
            · exact .inr ⟨j, y, h, hy, ey, fun i h => ne i (List.mem_cons_of_mem _ h)⟩
        · rintro r s' ⟨rfl, hit, rfl, _, _, hh⟩
          rcases hh with ⟨rfl, m⟩ | ⟨j, y, rfl, hy, ey, _⟩
          · exact wpAny_pure (hnone fun j x hx e => nomatch m j x hx e)
          · exact wpAny_pure (hsome j y hy ey)
end
/-! ### in the abstract heap -/
def KV1 : MK → Addr → Value → Prop
  | .inl x, _, v => ∃ t, v = .str x t
  | .inr _, b, v => v = .ref b
def RX (p : MK × Addr × V) (q : MK × Value × Value) : Prop := p.1 = q.1 ∧ KV1 p.1 p.2.1 q.2.1 ∧ RelV p.2.2 q.2.2
def MxO (P : Program) (w : World) (a : Addr) (kvs : List (MK × Addr × V)) : HO := .ext fun h => kvs.length ≤ sizeLine ∧ (a == sysModules) = false ∧ ∃ xs : List (MK × Value × Value), Paired RX kvs xs ∧
  ∃ o es ep, h.get? a = some o ∧ o.ExactDict ∧ o.data = .dict es ep ∧ es.toList = xs.map (ent P w) ∧ (xs.map (·.1)).Nodup
structure MixAt (P : Program) (w : World) (H : Hp) (a : Addr) (kvs : List (MK × Addr × V)) : Prop where
  at_ : H a = some (MxO P w a kvs)
  keys : ∀ p ∈ kvs, ∀ ks, p.1 = .inr ks → H p.2.1 = some (.tup (ks.map kV))
def YK (H : Hp) (y : V) (b : Addr) : MK → Prop
  | .inl x => y = .str x
  | .inr ks => y = .ref b ∧ H b = some (.tup (ks.map kV))
theorem mx_ok {P : Program} {w : World} {H : Hp} {h : Heap} {a : Addr} {kvs : List (MK × Addr × V)} (z : kvs.length ≤ sizeLine) (na : (a == sysModules) = false) {xs : List (MK × Value × Value)} (r : Paired RX kvs xs) {o : Obj} {es : Array DictEntry} {ep : Nat}
    (h1 : h.get? a = some o) (h2 : o.ExactDict) (h3 : o.data = .dict es ep) (h4 : es.toList = xs.map (ent P w)) (h5 : (xs.map (·.1)).Nodup) : ObjOk P w H h a (MxO P w a kvs) :=
  ⟨⟨z, na, xs, r, o, es, ep, h1, h2, h3, h4, h5⟩, ⟨o, h1⟩, fun _ _ ⟨z, na, xs, r, o, es, ep, h1, h2, h3, h4, h5⟩ k => ⟨z, na, xs, r, o, es, ep, k _ h1, h2, h3, h4, h5⟩⟩
theorem rx_keys {P : Program} {w : World} {H : Hp} {h : Heap} (ok : HOk P w H h) : ∀ {kvs : List (MK × Addr × V)} {xs : List (MK × Value × Value)}, Paired RX kvs xs → (∀ p ∈ kvs, ∀ ks, p.1 = .inr ks → H p.2.1 = some (.tup (ks.map kV))) → ∀ x ∈ xs, KeyIs P w h x.1 x.2.1
  | _, _, .nil, _, x, hx => by cases hx
  | _, _, .cons (a := p) (b := q) r t, hk, x, hx => by
    rcases List.mem_cons.mp hx with e | e
    · subst e
      obtain ⟨r1, r2, _⟩ := r
      rw [← r1]
      have hp := hk p List.mem_cons_self
      generalize p.1 = k at r2 hp
      cases k with
      | inl y => exact r2
      | inr ks => exact ⟨p.2.1, r2, key_of ok (hp ks rfl)⟩
    · exact rx_keys ok t (fun p hp => hk p (List.mem_cons_of_mem _ hp)) x e
theorem rx_mem : ∀ {kvs : List (MK × Addr × V)} {xs : List (MK × Value × Value)}, Paired RX kvs xs → ∀ {p : MK × Addr × V}, p ∈ kvs → ∃ (j : Nat) (x : MK × Value × Value), xs[j]? = some x ∧ x.1 = p.1 ∧ RelV p.2.2 x.2.2
  | _, _, .cons r t, p, hp => by
    rcases List.mem_cons.mp hp with e | e
    · subst e
      exact ⟨0, _, rfl, r.1.symm, r.2.2⟩
    · obtain ⟨j, x, h1, h2⟩ := rx_mem t e
      exact ⟨j + 1, x, h1, h2⟩
theorem rx_fst : ∀ {kvs : List (MK × Addr × V)} {xs : List (MK × Value × Value)}, Paired RX kvs xs → kvs.map (·.1) = xs.map (·.1)
  | _, _, .nil => rfl
  | _, _, .cons r t => by rw [List.map_cons, List.map_cons, r.1, rx_fst t]
section
variable {X : Cx} {pins : List (Addr × Obj)} {σ : L2.St} {H : Hp} {s : Shared} {a b : Addr} {y v : V} {u r : Value} {A : Around} {E : Value → Shared → Prop} {kvs : List (MK × Addr × V)} {k : MK}
theorem yk_is (I : Inv X pins σ H s) (hk : YK H y b k) (ry : RelV y u) : KeyIs X.prog X.w s.heap k u := by
  cases k with
  | inl x =>
    obtain rfl : y = .str x := hk
    exact ry
  | inr ks =>
    obtain ⟨rfl, hb⟩ := hk
    exact ⟨b, ry, key_of I.hok hb⟩
theorem m_get {Q : Value → Shared → Prop} (hu : A.units + 1 < cLine) (I : Inv X pins σ H s) (m : MixAt X.prog X.w H a kvs) (hk : YK H y b k) (hv : ∃ c, (k, c, v) ∈ kvs) (ry : RelV y u) (h : ∀ w' s', Inv X pins σ H s' → RelV v w' → Q w' s') : wpAny (model X.prog X.w) A (getItem (.ref a) u) Q E s := by
  obtain ⟨⟨z, na, xs, rx, o, es, ep, ho, hc, hd, he, hn⟩, _⟩ := (show ObjOk X.prog X.w H s.heap a (MxO X.prog X.w a kvs) from I.hok a _ m.at_)
  have ty : s.TypeIs (.ref a) "dict" := ⟨o, ho, hc.1⟩
  have his := rx_keys I.hok rx m.keys
  have hu2 : A.in1.units < cLine := hu
  have hkey := yk_is I hk ry
  obtain ⟨c, hc⟩ := hv
  obtain ⟨j0, x0, hx0, e0, r0⟩ := rx_mem rx hc
  refine wpAny_holding (wpAny_bind (wpAny_sequenceKey ty (by decide) (wpAny_bind (wpAny_callSpecial?_slot (name := Str.ofString "__getitem__") ty slot_dict_getitem (wpAny_call_entry slot_dict_getitem ty entry_dict_getitem ?_ (args_dict_getitem _ _))))))
  show wpAny _ _ (dictGet a u >>= _) _ _ s
  refine wpAny_bind ?_
  unfold dictGet
  refine wpAny_holding (wpAny_bind (key_hash hu2 hkey fun tk => wpAny_bind (find_mix (s := { s with toks := tk }) hu2 hkey ho hd he his hn ?_ ?_)))
  · intro no
    exact absurd e0 (no j0 x0 hx0)
  · intro j x hx ex
    have ej : j = j0 := nodup_at hn hx hx0 (ex.trans e0.symm)
    subst ej
    rw [hx0] at hx
    injection hx with hx
    subst hx
    refine wpAny_bind (wpAny_dictEntries (s := { s with toks := tk }) ho hd ?_)
    rw [ent_at he, hx0]
    refine wpAny_pure ?_
    show wpAny _ _ (ret x0.2.2) _ _ _
    exact wpAny_pure ⟨_, rfl, wpAny_pure (h _ _ (I.tok _) r0)⟩
theorem m_put {Q : Unit → Shared → Prop} (hu : A.units + 1 < cLine) (I : Inv X pins σ H s) (m : MixAt X.prog X.w H a kvs) (hk : YK H y b k) (new : k ∉ kvs.map (·.1)) (hl : kvs.length < 1000) (ry : RelV y u) (rv : RelV v r)
    (h : ∀ s', Inv X pins σ (upd H a (MxO X.prog X.w a (kvs ++ [(k, b, v)]))) s' → Q () s') : wpAny (model X.prog X.w) A (setItem (.ref a) u r) Q E s := by
  obtain ⟨⟨z, na, xs, rx, o, es, ep, ho, hc, hd, he, hn⟩, _⟩ := (show ObjOk X.prog X.w H s.heap a (MxO X.prog X.w a kvs) from I.hok a _ m.at_)
  have ty : s.TypeIs (.ref a) "dict" := ⟨o, ho, hc.1⟩
  have his := rx_keys I.hok rx m.keys
  have hu2 : A.in1.units < cLine := hu
  have hkey := yk_is I hk ry
  rw [rx_fst rx] at new
  have sz : es.size = kvs.length := by
    have e1 := congrArg List.length he
    rw [List.length_map, Array.length_toList] at e1
    rw [e1]
    exact (Paired.length rx).symm
  refine wpAny_holding (wpAny_bind (wpAny_sequenceKey ty (by decide) (wpAny_bind (wpAny_callSpecial?_slot (name := Str.ofString "__setitem__") ty slot_dict_setitem (wpAny_call_entry slot_dict_setitem ty entry_dict_setitem ?_ (args_dict_setitem _ _ _))))))
  show wpAny _ _ (Builtin.Dict.notOrdered "__setitem__" ⟨[.ref a, u, r], []⟩ >>= _) _ _ s
  refine wpAny_bind (wpAny_notOrdered_dict ty ?_)
  show wpAny _ _ (dictSet a u r >>= _) _ _ s
  refine wpAny_bind ?_
  unfold dictSet
  refine wpAny_holding (wpAny_bind (key_hash hu2 hkey fun tk => ?_))
  unfold dictSetHashed
  refine wpAny_holding (wpAny_bind (find_mix (s := { s with toks := tk }) hu2 hkey ho hd he his hn ?_ ?_))
  · intro no
    refine wpAny_bind (wpAny_rule (wpAny_updateDictKeys (hz := by rw [sz]; exact Nat.le_of_lt (Nat.lt_of_lt_of_le hl (by decide))) (s := { s with toks := tk }) ho hd ?_))
    refine wpAny_pure ⟨.none, rfl, wpAny_pure (h _ (I.write (x := a) (e := a) (by rw [m.at_]; exact True.intro) (.inl rfl) (fun b q hb z => ((Heap.SameBut.update ..).2 b hb).trans z) ⟨_, Heap.get?_update_self _ ho (Obj.isFreed_of_dict (Obj.data_mapDictKeys hd _))⟩ ?_))⟩
    refine mx_ok (xs := xs ++ [(k, u, r)]) ?_ na ?_ (Heap.get?_update_self _ ho (Obj.isFreed_of_dict (Obj.data_mapDictKeys hd _))) (hc.mapDictKeys _) (Obj.data_mapDictKeys hd _) ?_ ?_
    · rw [List.length_append]
      exact Nat.le_trans (by show kvs.length + 1 ≤ 1000; omega) (by decide)
    · refine Paired.snoc rx ⟨rfl, ?_, rv⟩
      cases k with
      | inl x =>
        obtain rfl : y = .str x := hk
        exact ry
      | inr ks =>
        obtain ⟨rfl, _⟩ := hk
        exact ry
    · rw [Array.toList_push, he, List.map_append]
      rfl
    · rw [List.map_append, List.nodup_append]
      refine ⟨hn, List.pairwise_singleton _ _, fun p hp q hq e => ?_⟩
      rw [List.map_cons, List.map_nil, List.mem_singleton] at hq
      rw [e, hq] at hp
      exact new hp
  · intro j x hx ex
    exact absurd (List.mem_map.mpr ⟨x, List.mem_of_getElem? hx, ex⟩) new
end
/-- what a dict of either kind holds at y -/
def MGet (P : Program) (w : World) (H : Hp) (a : Addr) (y v : V) : Prop := DGet H a y (some v) ∨ ∃ kvs k b, MixAt P w H a kvs ∧ YK H y b k ∧ ∃ c, (k, c, v) ∈ kvs
def MPut (P : Program) (w : World) (H : Hp) (a : Addr) (y v : V) (H' : Hp) : Prop := ∃ kvs k b, MixAt P w H a kvs ∧ YK H y b k ∧ k ∉ kvs.map (·.1) ∧ kvs.length < 1000 ∧ H' = upd H a (MxO P w a (kvs ++ [(k, b, v)]))
def tMGet (P : Program) (w : World) (td ty : TE) : TE := fun σ H Q => td σ H fun x H1 => ty σ H1 fun y H2 => ∃ a v, x = .ref a ∧ MGet P w H2 a y v ∧ Q v H2
def sMPut (P : Program) (w : World) (td ty tv : TE) : TS := fun D σ H => tv σ H fun v H1 => td σ H1 fun x H2 => ty σ H2 fun y H3 => ∃ a H4, x = .ref a ∧ MPut P w H3 a y v H4 ∧ D.nx σ H4
def tMNew (P : Program) (w : World) : TE := fun _ H Q => ∀ p, H p = none → Q (.ref p) (upd H p (MxO P w p []))
section
variable {X : Cx} {o i e value : Expr} {pos pos' tpos : Pos} {td ty tv : TE}
theorem pe_mget (hu : X.A.units + 1 < cLine) (ho : PE X o td) (hi : PE X i ty) (hs : NoSl i) : PE X (.Subscript o i pos) (tMGet X.prog X.w td ty) := by
  refine ⟨fun pins s σ H Q I h => subD_of PySem.F.slot_dict_getitem.lookup hs (thn (ho.run pins s σ H _ I h) fun u s1 ⟨x, H1, I1, rx, q1⟩ => thn (hi.run pins s1 σ H1 _ I1 q1) fun iv s2 ⟨y, H2, I2, ry, a, v, ex, g, q2⟩ => ?_)⟩
  subst ex
  obtain rfl : u = Value.ref a := rx
  rcases g with g | ⟨kvs, k, b, m, hk, hv⟩
  · exact ⟨dict_typeIs I2 g, d_getItem hu I2 g ry fun w' s3 I3 rw' => ⟨v, H2, I3, rw', q2⟩⟩
  · obtain ⟨⟨z, na, xs, rx, o, es, ep, ho, hc, _⟩, _⟩ := (show ObjOk X.prog X.w H2 s2.heap a (MxO X.prog X.w a kvs) from I2.hok a _ m.at_)
    exact ⟨⟨o, ho, hc.1⟩, m_get hu I2 m hk hv ry fun w' s3 I3 rw' => ⟨v, H2, I3, rw', q2⟩⟩
theorem ps_mput (hu : X.A.units + 1 < cLine) (ho : PE X o td) (hi : PE X i ty) (hv : PE X value tv) (hs : swapsWith value (some (.Subscript o i pos')) pos.line X.env = pure false) :
    PS X (.Assign [.Subscript o i pos'] value pos) (sMPut X.prog X.w td ty tv) := by
  refine ⟨fun pins s σ H D I h => wpAny_Assign_Subscript (thn (hv.run pins s σ H _ I h) fun r s1 ⟨v, H1, I1, rv, q1⟩ => thn (ho.run pins s1 σ H1 _ I1 q1) fun u s2 ⟨x, H2, I2, rx, q2⟩ => thn (hi.run pins s2 σ H2 _ I2 q2) fun iv s3 ⟨y, H3, I3, ry, a, H4, ex, g, q3⟩ => ?_) hs⟩
  subst ex
  obtain rfl : u = Value.ref a := rx
  obtain ⟨kvs, k, b, m, hk, nk, hl, rfl⟩ := g
  exact m_put hu I3 m hk nk hl ry rv fun s4 I4 => ⟨σ, _, I4, q3⟩
theorem pe_mnew : PE X (.Dict [] [] pos) (tMNew X.prog X.w) := by
  refine ⟨fun pins s σ H Q I h => wpAny_Dict_empty ⟨.ref s.heap.objs.size, _, I.laid (a := s.heap.objs.size) (o := MxO X.prog X.w s.heap.objs.size []) (t' := s.toks) (fun _ _ q => Heap.get?_push_of_some _ q) (Nat.le_refl _) ?_, rfl, h _ (I.hok.fresh (Nat.le_refl _))⟩⟩
  have dd := (dt_empty (P := X.prog) (w := X.w) (H := H) s.heap I.big)
  obtain ⟨z, na, xs, r, o, es, ep, h1, h2, h3, h4, h5⟩ := dd
  cases r
  exact mx_ok (xs := []) (Nat.zero_le _) na .nil h1 h2 h3 h4 List.Pairwise.nil
end
end Mx
namespace Ev
open PySem PySem.Spec PyProof.Rows L2 Pen Dat Ki Fi Ep Eq Es
/-! ## Drawn expressions: of the width that is asked -/
mutual
def exH : Ex → Nat
  | .lf _ => 0
  | .op _ ps => exHs ps + 1
def exHs : List Ex → Nat
  | [] => 0
  | p :: ps => max (exH p) (exHs ps)
end
theorem exH_lf (l : Lf) : exH (.lf l) = 0 := by rw [exH]
theorem exH_op (o : Op) (ps : List Ex) : exH (.op o ps) = exHs ps + 1 := by rw [exH]
theorem exHs_nil : exHs [] = 0 := by rw [exHs]
theorem exHs_cons (p : Ex) (ps : List Ex) : exHs (p :: ps) = max (exH p) (exHs ps) := by rw [exHs]
theorem exZ_lf (l : Lf) : exZ (.lf l) = 1 := by rw [exZ]
theorem exZ_op (o : Op) (ps : List Ex) : exZ (.op o ps) = exZs ps + 1 := by rw [exZ]
/-- a name of the list: an expression, its width -/
structure NmE (Γ : Gam) (S h0 : Nat) (e : Ex) (w : Nat) : Prop where
  wt : Wt Γ e w
  z : exZ e ≤ S
  h : exH e ≤ h0
  lay : (exD e).canLay0 = true
  dep : (exD e).depth ≤ 20
def NmR (K : PySem.W.Frag) (H : Hp) (Γ : Gam) (S h0 : Nat) (v : V) (r : Ex × Nat) : Prop := ∃ t ev, v = .ref t ∧ SqT K H t [ev, .int (r.2 : Nat)] ∧ ExAt K H ev r.1 ∧ NmE Γ S h0 r.1 r.2
theorem NmR.firm {K : PySem.W.Frag} {H H' : Hp} {Γ : Gam} {S h0 : Nat} {v : V} {r : Ex × Nat} (s : Firm H H') (h : NmR K H Γ S h0 v r) : NmR K H' Γ S h0 v r := by
  obtain ⟨t, ev, e, hs, he, n⟩ := h
  exact ⟨t, ev, e, firm_seq s hs, he.firm s, n⟩
def FitR (K : PySem.W.Frag) (H : Hp) (Γ : Gam) (S h0 w : Nat) (v : V) (e : Ex) : Prop := ExAt K H v e ∧ NmE Γ S h0 e w
theorem fit_dp {K : PySem.W.Frag} {H : Hp} {Γ : Gam} {S h0 w : Nat} : ∀ {vs : List V} {es : List Ex}, All2 (FitR K H Γ S h0 w) vs es → DpAll K H vs (es.map exD) ∧ PyData.canLayAll0 (es.map exD) = true ∧ PyData.depthAll (es.map exD) ≤ 20
  | _, _, .nil => ⟨.nil, rfl, Nat.zero_le _⟩
  | _, _, .cons h t => by
    obtain ⟨a, b, c⟩ := fit_dp t
    refine ⟨.cons h.1 a, ?_, ?_⟩
    · show ((exD _).canLay0 && PyData.canLayAll0 (_)) = true
      rw [h.2.lay, b]
      rfl
    · show max (exD _).depth (PyData.depthAll _) ≤ 20
      exact Nat.max_le.mpr ⟨h.2.dep, c⟩
theorem fit_sh {K : PySem.W.Frag} {H : Hp} {Γ : Gam} {S h0 w : Nat} {vs : List V} {es : List Ex} (h : All2 (FitR K H Γ S h0 w) vs es) : SeqAt.shaped (.list (es.map exD)) = true := by
  obtain ⟨_, b, c⟩ := fit_dp h
  show (PyData.canLayAll0 (es.map exD) && decide (PyData.depthAll (es.map exD) + 1 ≤ 64)) = true
  rw [b, decide_eq_true (by omega)]
  rfl
theorem eqv_nil (ds : List PyData) : PyData.eqv (.list ds) (.list []) = ds.isEmpty := by
  cases ds with
  | nil => rfl
  | cons x r => simp [PyData.eqv, PyData.eqvAll]
theorem ine {a b : Nat} (h : a ≠ b) : decide (V.int (a : Int) = V.int (b : Int)) = false := decide_eq_false fun e => h (by injection e with e; exact Int.ofNat.inj e)
theorem ieq {a b : Nat} (h : a = b) : decide (V.int (a : Int) = V.int (b : Int)) = true := decide_eq_true (by rw [h])
def spDE (K : PySem.W.Frag) (d : Nat) : Sp := fun vs H Q _ => ∃ (Γ : Gam) (S h0 : Nat) (p c nl : Addr) (m w : Nat) (rows : List V) (es : List (Ex × Nat)), vs = [.ref p, .int (w : Nat), .ref nl, .int (d : Nat)] ∧
  PenC H p c m ∧ m + 5 * 4 ^ d ≤ 100000000000 ∧ nl ≠ p ∧ H nl = some (.lst rows) ∧ rows.length ≤ 1000 ∧ All2 (NmR K H Γ S h0) rows es ∧ 1 ≤ S ∧ 1 ≤ w ∧ w + 3 * d ≤ 29 ∧
  ∀ (H' : Hp) (v : V) (e : Ex), PenC H' p c (m + 5 * 4 ^ d) → But p H H' → ExAt K H' v e → Wt Γ e w → exZ e ≤ S * 4 ^ d → exH e ≤ h0 + d → Q v H'
theorem ijn {a b : Int} (h : a ≠ b) : decide (V.int a = V.int b) = false := decide_eq_false fun e => h (by injection e)
theorem ijt {a b : Int} (h : a = b) : decide (V.int a = V.int b) = true := decide_eq_true (by rw [h])
theorem pow_cast (w : Nat) : ((2 ^ w : Nat) : Int) = 2 ^ w := by
  rw [Int.natCast_pow]
  rfl
theorem len3 : 3 ≤ sizeLine := by decide
theorem len4 : 4 ≤ sizeLine := by decide
theorem len5 : 5 ≤ sizeLine := by decide
section
variable {σ : L2.St} {H : Hp} {R : Bool → Hp → Prop} {i j : Nat} {a b : Int}
theorem eqi {k : Int} (hs : σ[i]? = some (some (.int a))) (ht : a = k → R true H) (hf : a ≠ k → R false H) : tTest (tOp rEq (tVar i) (tC (.int k))) σ H R := by
  refine ⟨_, hs, rfl, _, rfl, ?_⟩
  rcases Int.decEq a k with h | h
  · rw [ijn h]; exact hf h
  · rw [ijt h]; exact ht h
theorem lti {k : Int} (hs : σ[i]? = some (some (.int a))) (ht : a < k → R true H) (hf : ¬ a < k → R false H) : tTest (tOp (rI0 fun i j => V.bl (decide (i < j))) (tVar i) (tC (.int k))) σ H R := by
  refine ⟨_, hs, _, _, rfl, rfl, _, rfl, ?_⟩
  by_cases h : a < k
  · rw [decide_eq_true h]; exact ht h
  · rw [decide_eq_false h]; exact hf h
theorem gti {k : Int} (hs : σ[i]? = some (some (.int a))) (ht : k < a → R true H) (hf : ¬ k < a → R false H) : tTest (tOp (rI0 fun i j => V.bl (decide (j < i))) (tVar i) (tC (.int k))) σ H R := by
  refine ⟨_, hs, _, _, rfl, rfl, _, rfl, ?_⟩
  by_cases h : k < a
  · rw [decide_eq_true h]; exact ht h
  · rw [decide_eq_false h]; exact hf h
theorem or12 (hs : σ[i]? = some (some (.int a))) (ht : a = 12 ∨ a = 11 → R true H) (hf : ¬ (a = 12 ∨ a = 11) → R false H) : tOr (tTest (tOp rEq (tVar i) (tC (.int 12)))) (tTest (tOp rEq (tVar i) (tC (.int 11)))) σ H R :=
  eqi hs (fun h => iteT (ht (.inl h))) (fun h => iteF (eqi hs (fun h2 => ht (.inr h2)) (fun h2 => hf (fun g => g.elim h h2))))
theorem and8 (hs : σ[i]? = some (some (.int a))) (hj : σ[j]? = some (some (.int b))) (ht : a = 8 → 1 < b → R true H) (hf : ¬ (a = 8 ∧ 1 < b) → R false H) : tAnd (tTest (tOp rEq (tVar i) (tC (.int 8)))) (tTest (tOp (rI0 fun i j => V.bl (decide (j < i))) (tVar j) (tC (.int 1)))) σ H R :=
  eqi hs (fun h => iteT (gti hj (fun h2 => ht h h2) (fun h2 => hf (fun g => h2 g.2)))) (fun h => iteF (hf (fun g => h g.1)))
theorem or9 (hs : σ[i]? = some (some (.int a))) (hj : σ[j]? = some (some (.int b))) (ht : a = 9 ∨ 1 < b → R true H) (hf : ¬ (a = 9 ∨ 1 < b) → R false H) : tOr (tTest (tOp rEq (tVar i) (tC (.int 9)))) (tTest (tOp (rI0 fun i j => V.bl (decide (j < i))) (tVar j) (tC (.int 1)))) σ H R :=
  eqi hs (fun h => iteT (ht (.inl h))) (fun h => iteF (gti hj (fun h2 => ht (.inr h2)) (fun h2 => hf (fun g => g.elim h h2))))
theorem ifc {k : Int} {x y : V} {Q : VK} (hs : σ[i]? = some (some (.int a))) (h : ∀ z, z = x ∨ z = y → Q z H) : tIf (tTest (tOp (rI0 fun i j => V.bl (decide (i < j))) (tVar i) (tC (.int k)))) (tC x) (tC y) σ H Q :=
  lti hs (fun _ => iteT (h _ (.inl rfl))) (fun _ => iteF (h _ (.inr rfl)))
end
theorem kinds {z : V} {r : Int} (hz : z = V.str "times" ∨ z = V.str "plus") (r0 : 0 ≤ r) (r5 : r < 5) : ∃ k : Str, [V.str "and", V.str "or", V.str "xor", V.str "plus", z][r.toNat]? = some (V.str k) ∧ (k = "and" ∨ k = "or" ∨ k = "xor" ∨ k = "plus" ∨ k = "times") := by
  have c : r = 0 ∨ r = 1 ∨ r = 2 ∨ r = 3 ∨ r = 4 := by omega
  rcases c with rfl | rfl | rfl | rfl | rfl
  · exact ⟨"and", rfl, .inl rfl⟩
  · exact ⟨"or", rfl, .inr (.inl rfl)⟩
  · exact ⟨"xor", rfl, .inr (.inr (.inl rfl))⟩
  · exact ⟨"plus", rfl, .inr (.inr (.inr (.inl rfl)))⟩
  · rcases hz with rfl | rfl
    · exact ⟨"times", rfl, .inr (.inr (.inr (.inr rfl)))⟩
    · exact ⟨"plus", rfl, .inr (.inr (.inr (.inl rfl)))⟩
theorem two_of {a b : Str} {i : Nat} {y : V} (h : [V.str a, V.str b][i]? = some y) : ∃ k, y = V.str k ∧ (k = a ∨ k = b) := by
  match i, h with
  | 0, h => exact ⟨a, (Option.some.inj h).symm, .inl rfl⟩
  | 1, h => exact ⟨b, (Option.some.inj h).symm, .inr rfl⟩
section
variable {K : PySem.W.Frag} {H : Hp} {t : Addr}
theorem at_un {k : Str} {v1 : V} {e1 : Ex} (h : H t = some (.tup [.str k, v1])) (h1 : ExAt K H v1 e1) : ExAt K H (.ref t) (.op (.un k) [e1]) := by
  unfold ExAt exD exDs exDs
  exact .tup (SqT.of h) (.cons (.str _) (.cons h1 .nil))
theorem at_sh {k : Str} {n : Int} {v1 : V} {e1 : Ex} (h : H t = some (.tup [.str k, v1, .int n])) (h1 : ExAt K H v1 e1) : ExAt K H (.ref t) (.op (.sh k n) [e1]) := by
  unfold ExAt exD exDs exDs
  exact .tup (SqT.of h) (.cons (.str _) (.cons h1 (.cons (.int _) .nil)))
theorem at_bin {k : Str} {v1 v2 : V} {e1 e2 : Ex} (h : H t = some (.tup [.str k, v1, v2])) (h1 : ExAt K H v1 e1) (h2 : ExAt K H v2 e2) : ExAt K H (.ref t) (.op (.bin k) [e1, e2]) := by
  unfold ExAt exD exDs exDs exDs
  exact .tup (SqT.of h) (.cons (.str _) (.cons h1 (.cons h2 .nil)))
theorem at_ite {v1 v2 v3 : V} {e1 e2 e3 : Ex} (h : H t = some (.tup [.str "if", v1, v2, v3])) (h1 : ExAt K H v1 e1) (h2 : ExAt K H v2 e2) (h3 : ExAt K H v3 e3) : ExAt K H (.ref t) (.op .ite [e1, e2, e3]) := by
  unfold ExAt exD exDs exDs exDs exDs
  exact .tup (SqT.of h) (.cons (.str _) (.cons h1 (.cons h2 (.cons h3 .nil))))
theorem at_join2 {u : Addr} {v1 v2 : V} {e1 e2 : Ex} (h : H t = some (.tup [.str "join", .ref u])) (hu : H u = some (.tup [v1, v2])) (h1 : ExAt K H v1 e1) (h2 : ExAt K H v2 e2) : ExAt K H (.ref t) (.op .join [e1, e2]) := by
  unfold ExAt exD exDs exDs exDs
  exact .tup (SqT.of h) (.cons (.str _) (.cons (.tup (SqT.of hu) (.cons h1 (.cons h2 .nil))) .nil))
theorem at_slc {hi lo hj : Int} {v1 : V} {e1 : Ex} (h : H t = some (.tup [.str "slice", v1, .int hj, .int lo])) (h1 : ExAt K H v1 e1) (e : hj = hi) : ExAt K H (.ref t) (.op (.slc hi lo) [e1]) := by
  subst e
  unfold ExAt exD exDs exDs
  exact .tup (SqT.of h) (.cons (.str _) (.cons h1 (.cons (.int _) (.cons (.int _) .nil))))
end
section
variable {P : Program} {w : World} {K : PySem.W.Frag} {mg : Str → Option Value} {base : Heap} {f : Addr} {fd : FuncData}
abbrev nDE : List Str := ["_law_pen_here", "_law_width", "_law_names", "_law_deep", "_law_part", "_law_wide", "_law_fit", "_law_way", "_law_kind", "_law_one", "_law_condition", "_law_low"]
theorem scDE : FnScope nDE ["_law_pen_here", "_law_width", "_law_names", "_law_deep"] (defScope sLDrawnExpression) := ⟨rfl, rfl, rfl, by decide +kernel, rfl, by decide +kernel, by decide +kernel⟩
theorem step_de (F : FnP K "_law_drawn_expression" sLDrawnExpression f fd) (d : Nat) (spI : Sp) (hI : ∀ e, d = e + 1 → spI = spDE K e)
    {fDR fPI : Addr} {dDR dPI : FuncData}
    (GDR : FnOk P w K mg base CX0 1 fDR dDR ["_law_pen_here", "_law_many"] (spDraw)) (gDR : mg "_law_draw" = some (.ref fDR)) (kDR : PySem.W.keepIn K (.ref fDR) = true) (bDR : Binds K dDR ["_law_pen_here", "_law_many"] [])
    (GPI : FnOk P w K mg base CX0 2 fPI dPI ["_law_pen_here", "_law_some"] ((spPick K))) (gPI : mg "_law_pick" = some (.ref fPI)) (kPI : PySem.W.keepIn K (.ref fPI) = true) (bPI : Binds K dPI ["_law_pen_here", "_law_some"] [])
    {fDE : Addr} {dDE : FuncData} (GDE : FnOk P w K mg base CX0 (d + 2) fDE dDE ["_law_pen_here", "_law_width", "_law_names", "_law_deep"] spI) (gDE : mg "_law_drawn_expression" = some (.ref fDE)) (kDE : PySem.W.keepIn K (.ref fDE) = true) (bDE : Binds K dDE ["_law_pen_here", "_law_width", "_law_names", "_law_deep"] [])
    : FnOk P w K mg base CX0 (d + 2 + 1) f fd ["_law_pen_here", "_law_width", "_law_names", "_law_deep"] (spDE K d) := by
  refine F.ok scDE (fun vs H Q E h => ?_) (fun cdv A outer s H vs Q E hr h => ?_)
  · obtain ⟨Γ, S, h0, p, c, nl, m, wd, rows, es, rfl, _⟩ := h
    rfl
  · obtain ⟨Γ, S, h0, p, c, nl, m, wd, rows, es, rfl, hP, hm, np, hN, rl, aN, hS, hw, hwd, q⟩ := h
    refine ⟨_, PSs.nox (pss_cons (ps_setLc (i := 6) (own := [("_law_part", 4), ("_law_wide", 5)]) (g := _) (by rfl) scDE.nd rfl rfl (sw_true rfl rfl rfl (by decide +kernel)) (pi_list (pv 2)) (blkOk_by (N := nDE) (sc := defScope sLDrawnExpression) (by decide +kernel)) (fun _ _ _ _ _ => (Us.pg_tupK (K := K) (n := 2) rfl rfl (pgs_cons (pg_name (i := 4) scDE.nd rfl (Or.inl rfl)) (pgs_cons (pg_name (i := 5) scDE.nd rfl (Or.inl rfl)) pgs_nil)))) (fun _ _ _ _ _ => pts_one (pt_cmpR op_eq (pv 5) (pv 1) (nomark _))) (fun _ _ _ _ _ => (pv 4)))
      (C8.pss_cut (ps_set (i := 7) scDE.nd rfl (Or.inl rfl) (pe_ifExp (pt_cmpR op_gt (pv 3) pe_int (nomark _)) (pe_call GDR (hr.mono (by omega)) (by rfl) gDR kDR bDR .nil pass0 (pa_cons (pv 0) (pa_cons pe_int pa_nil))) pe_int))
      (pss_cons (ps_if (PW.pt (pw_or (pt_cmpR op_eq (pv 7) pe_int (nomark _)) (pw_or1 (pt_cmpR op_eq (pv 7) pe_int (nomark _)))))
        (pss_cons (ps_if (PW.pt (pw_and (pt_cmpR (op_neD hr.units) (pv 6) (pe_lst pa_nil) (nomark _)) (pw_and1 (pt_cmpR op_gt (pe_call GDR (hr.mono (by omega)) (by rfl) gDR kDR bDR .nil pass0 (pa_cons (pv 0) (pa_cons pe_int pa_nil))) pe_int (nomark _)))))
          (pss_one (ps_ret (pe_call GPI (hr.mono (by omega)) (by rfl) gPI kPI bPI .nil pass0 (pa_cons (pv 0) (pa_cons (pv 6) pa_nil)))))
          pss_nil)
        (pss_one (ps_ret (pe_tup (pa_cons pe_str (pa_cons (pv 1) (pa_cons (pe_call GDR (hr.mono (by omega)) (by rfl) gDR kDR bDR .nil pass0 (pa_cons (pv 0) (pa_cons (pe_op op_oneShl pe_int (pv 1)) pa_nil))) pa_nil)))))))
        pss_nil)
      (pss_cons (ps_if (pt_cmpR op_lt (pv 7) pe_int (nomark _))
        (pss_cons (ps_set (i := 8) scDE.nd rfl (Or.inl rfl) (pe_ix ix_list (pe_lst (pa_cons pe_str (pa_cons pe_str (pa_cons pe_str (pa_cons pe_str (pa_cons (pe_ifExp (pt_cmpR op_lt (pv 1) pe_int (nomark _)) pe_str pe_str) pa_nil)))))) (pv 7) (fun _ _ => rfl)))
        (pss_cons (ps_set (i := 9) scDE.nd rfl (Or.inl rfl) (pe_call GDE (hr.mono (by omega)) (by rfl) gDE kDE bDE .nil pass0 (pa_cons (pv 0) (pa_cons (pv 1) (pa_cons (pv 2) (pa_cons (pe_op op_sub (pv 3) pe_int) pa_nil))))))
        (pss_one (ps_ret (pe_tup (pa_cons (pv 8) (pa_cons (pv 9) (pa_cons (pe_call GDE (hr.mono (by omega)) (by rfl) gDE kDE bDE .nil pass0 (pa_cons (pv 0) (pa_cons (pv 1) (pa_cons (pv 2) (pa_cons (pe_op op_sub (pv 3) pe_int) pa_nil))))) pa_nil))))))))
        pss_nil)
      (pss_cons (ps_if (pt_cmpR op_eq (pv 7) pe_int (nomark _))
        (pss_one (ps_ret (pe_tup (pa_cons (pe_call GPI (hr.mono (by omega)) (by rfl) gPI kPI bPI .nil pass0 (pa_cons (pv 0) (pa_cons (pe_lst (pa_cons pe_str (pa_cons pe_str pa_nil))) pa_nil))) (pa_cons (pe_call GDE (hr.mono (by omega)) (by rfl) gDE kDE bDE .nil pass0 (pa_cons (pv 0) (pa_cons (pv 1) (pa_cons (pv 2) (pa_cons (pe_op op_sub (pv 3) pe_int) pa_nil))))) pa_nil)))))
        pss_nil)
      (pss_cons (ps_if (pt_cmpR op_eq (pv 7) pe_int (nomark _))
        (pss_cons (ps_set (i := 9) scDE.nd rfl (Or.inl rfl) (pe_call GDE (hr.mono (by omega)) (by rfl) gDE kDE bDE .nil pass0 (pa_cons (pv 0) (pa_cons (pv 1) (pa_cons (pv 2) (pa_cons (pe_op op_sub (pv 3) pe_int) pa_nil))))))
        (pss_one (ps_ret (pe_tup (pa_cons (pe_call GPI (hr.mono (by omega)) (by rfl) gPI kPI bPI .nil pass0 (pa_cons (pv 0) (pa_cons (pe_lst (pa_cons pe_str (pa_cons pe_str pa_nil))) pa_nil))) (pa_cons (pv 9) (pa_cons (pe_call GDR (hr.mono (by omega)) (by rfl) gDR kDR bDR .nil pass0 (pa_cons (pv 0) (pa_cons (pe_op op_add (pv 1) pe_int) pa_nil))) pa_nil)))))))
        pss_nil)
      (pss_cons (ps_if (pt_cmpR op_eq (pv 7) pe_int (nomark _))
        (pss_cons (ps_set (i := 10) scDE.nd rfl (Or.inl rfl) (pe_call GDE (hr.mono (by omega)) (by rfl) gDE kDE bDE .nil pass0 (pa_cons (pv 0) (pa_cons pe_int (pa_cons (pv 2) (pa_cons (pe_op op_sub (pv 3) pe_int) pa_nil))))))
        (pss_cons (ps_set (i := 9) scDE.nd rfl (Or.inl rfl) (pe_call GDE (hr.mono (by omega)) (by rfl) gDE kDE bDE .nil pass0 (pa_cons (pv 0) (pa_cons (pv 1) (pa_cons (pv 2) (pa_cons (pe_op op_sub (pv 3) pe_int) pa_nil))))))
        (pss_one (ps_ret (pe_tup (pa_cons pe_str (pa_cons (pv 10) (pa_cons (pv 9) (pa_cons (pe_call GDE (hr.mono (by omega)) (by rfl) gDE kDE bDE .nil pass0 (pa_cons (pv 0) (pa_cons (pv 1) (pa_cons (pv 2) (pa_cons (pe_op op_sub (pv 3) pe_int) pa_nil))))) pa_nil)))))))))
        pss_nil)
      (pss_cons (ps_if (PW.pt (pw_and (pt_cmpR op_eq (pv 7) pe_int (nomark _)) (pw_and1 (pt_cmpR op_gt (pv 1) pe_int (nomark _)))))
        (pss_cons (ps_set (i := 11) scDE.nd rfl (Or.inl rfl) (pe_op op_add pe_int (pe_call GDR (hr.mono (by omega)) (by rfl) gDR kDR bDR .nil pass0 (pa_cons (pv 0) (pa_cons (pe_op op_sub (pv 1) pe_int) pa_nil)))))
        (pss_cons (ps_set (i := 9) scDE.nd rfl (Or.inl rfl) (pe_call GDE (hr.mono (by omega)) (by rfl) gDE kDE bDE .nil pass0 (pa_cons (pv 0) (pa_cons (pe_op op_sub (pv 1) (pv 11)) (pa_cons (pv 2) (pa_cons (pe_op op_sub (pv 3) pe_int) pa_nil))))))
        (pss_one (ps_ret (pe_tup (pa_cons pe_str (pa_cons (pe_tup (pa_cons (pv 9) (pa_cons (pe_call GDE (hr.mono (by omega)) (by rfl) gDE kDE bDE .nil pass0 (pa_cons (pv 0) (pa_cons (pv 11) (pa_cons (pv 2) (pa_cons (pe_op op_sub (pv 3) pe_int) pa_nil))))) pa_nil))) pa_nil)))))))
        pss_nil)
      (pss_cons (ps_if (PW.pt (pw_or (pt_cmpR op_eq (pv 7) pe_int (nomark _)) (pw_or1 (pt_cmpR op_gt (pv 1) pe_int (nomark _)))))
        (pss_cons (ps_set (i := 11) scDE.nd rfl (Or.inl rfl) (pe_call GDR (hr.mono (by omega)) (by rfl) gDR kDR bDR .nil pass0 (pa_cons (pv 0) (pa_cons pe_int pa_nil))))
        (pss_cons (ps_set (i := 5) scDE.nd rfl (Or.inl rfl) (pe_op op_add (pe_op op_add (pv 1) (pv 11)) (pe_call GDR (hr.mono (by omega)) (by rfl) gDR kDR bDR .nil pass0 (pa_cons (pv 0) (pa_cons pe_int pa_nil)))))
        (pss_one (ps_ret (pe_tup (pa_cons pe_str (pa_cons (pe_call GDE (hr.mono (by omega)) (by rfl) gDE kDE bDE .nil pass0 (pa_cons (pv 0) (pa_cons (pv 5) (pa_cons (pv 2) (pa_cons (pe_op op_sub (pv 3) pe_int) pa_nil))))) (pa_cons (pe_op op_sub (pe_op op_add (pv 1) (pv 11)) pe_int) (pa_cons (pv 11) pa_nil)))))))))
        pss_nil)
      (pss_cons (ps_set (i := 5) scDE.nd rfl (Or.inl rfl) (pe_op op_add pe_int (pe_call GDR (hr.mono (by omega)) (by rfl) gDR kDR bDR .nil pass0 (pa_cons (pv 0) (pa_cons pe_int pa_nil)))))
      (pss_cons (ps_set (i := 9) scDE.nd rfl (Or.inl rfl) (pe_call GDE (hr.mono (by omega)) (by rfl) gDE kDE bDE .nil pass0 (pa_cons (pv 0) (pa_cons (pv 5) (pa_cons (pv 2) (pa_cons (pe_op op_sub (pv 3) pe_int) pa_nil))))))
      (pss_one (ps_ret (pe_tup (pa_cons (pe_call GPI (hr.mono (by omega)) (by rfl) gPI kPI bPI .nil pass0 (pa_cons (pv 0) (pa_cons (pe_lst (pa_cons pe_str (pa_cons pe_str pa_nil))) pa_nil))) (pa_cons (pv 9) (pa_cons (pe_call GDE (hr.mono (by omega)) (by rfl) gDE kDE bDE .nil pass0 (pa_cons (pv 0) (pa_cons (pv 5) (pa_cons (pv 2) (pa_cons (pe_op op_sub (pv 3) pe_int) pa_nil))))) pa_nil))))))))))))))))), ?_⟩
    have T0 : 1 ≤ 4 ^ d := Nat.pow_pos (by decide)
    refine ⟨_, rfl, nl, rfl, ⟨_, SqL.of hN⟩, fun D nD => ?_⟩
    obtain ⟨Dp, Dc⟩ := hP.free nD
    have sD := same_new (u := .lst []) nD
    refine lc_list (K := K) (a := nl) (xs := rows) (fun i H' => Same H H' ∧ ∃ (xs : List V) (fs : List Ex), H' D = some (.lst xs) ∧ xs.length ≤ i ∧ All2 (FitR K H' Γ S h0 wd) xs fs) ⟨sD, [], [], upd_same, Nat.le_refl _, .nil⟩ (fun i H' _ ⟨s, _⟩ => SqL.of (s _ _ hN)) ?_ ?_
    · rintro i y H1 hy ⟨s1, xs, fs, h1, l1, a1⟩
      obtain ⟨⟨e, u⟩, he, t, ev, rfl, ht, hev, ne⟩ := aN.get hy
      have ht1 := seqT_same s1 ht
      have hev1 := hev.firm (Firm.of s1)
      refine ⟨t, _, rfl, ht1, rfl, _, _, rfl, _, _, rfl, rfl, rfl, _, rfl, _, rfl, rfl, _, rfl, ?_⟩
      rcases Nat.decEq u wd with c0 | c0
      · exact goF (ine c0) ⟨s1, xs, fs, h1, by omega, a1⟩
      · subst c0
        refine goT (ieq rfl) ⟨_, rfl, xs, h1, Nat.lt_of_lt_of_le (by have := (List.getElem?_eq_some_iff.mp hy).1; omega : xs.length < 1000) (by decide), fun b o e => ?_, xs ++ [ev], fs ++ [e], upd_same, by rw [List.length_append]; exact Nat.add_le_add_right l1 1, ?_⟩
        · rw [upd_ne (ne_of_none e nD)]
          exact s1 _ _ e
        · have f1 := Firm.upd (o := .lst (xs ++ [ev])) h1 rfl
          exact (a1.imp fun v e h => ⟨h.1.firm f1, h.2⟩).snoc ⟨hev1.firm f1, ne⟩
    rintro H1 ⟨s1, xs, fs, h1, l1, a1⟩
    refine ⟨fun σ H' => ∃ (r : Int), σ = [some (.ref p), some (.int (wd : Nat)), some (.ref nl), some (.int (d : Nat)), none, none, some (.ref D), some (.int r), none, none, none, none] ∧ PenC H' p c (m + 1) ∧ But p H1 H' ∧ 0 ≤ r ∧ r < 13 ∧ (d = 0 → r = 12), ?_, ?_⟩
    · refine ⟨_, rfl, _, _, rfl, rfl, _, rfl, ?_⟩
      rcases Nat.eq_zero_or_pos d with d0 | d0
      · exact goF (decide_eq_false (by omega)) ⟨12, rfl, (hP.same s1).more (by omega), But.refl, by decide, by decide, fun _ => rfl⟩
      · exact goT (decide_eq_true (by omega)) ⟨_, rfl, p, c, m, 13, rfl, hP.same s1, by omega, by decide, by decide, fun r H2 r0 r1 P2 B2 => ⟨r, rfl, P2, B2, r0, r1, fun h => by omega⟩⟩
    rintro σ H2 ⟨r, rfl, P2, B2, r0, r1, rd⟩
    have hN2 := B2 _ _ (s1 _ _ hN) np
    have hD2 := B2 _ _ h1 Dp
    have f12 := Firm.pen B2 (hP.same s1)
    have f02 := (Firm.of s1).trans f12
    have a2 : All2 (FitR K H2 Γ S h0 wd) xs fs := a1.imp fun v e h => ⟨h.1.firm f12, h.2⟩
    have aN2 : All2 (NmR K H2 Γ S h0) rows es := aN.imp fun v e h => h.firm f02
    have B02 : But p H H2 := (But.of_same s1).trans B2
    have xl : xs.length ≤ 1000 := by omega
    clear a1 aN h1 hN s1 B2 f12 f02 nD sD l1
    have pw0 : (0 : Int) < 2 ^ wd := Int.pow_pos (by decide)
    have pw1 : (2 : Int) ^ wd < 1073741824 := by
      rw [← pow_cast]
      have : 2 ^ wd ≤ 2 ^ 29 := Nat.pow_le_pow_right (by decide) (by omega)
      have h2 : (2 : Nat) ^ 29 = 536870912 := by decide
      omega
    refine or12 (i := 7) rfl (fun c0 => iteT ?_) (fun c0 => iteF ?_)
    · clear hI
      refine ⟨_, rfl, len0, fun L nL => ?_⟩
      have sL := same_new (u := .lst []) nL
      have aL : All2 (FitR K (upd H2 L (.lst [])) Γ S h0 wd) xs fs := a2.imp fun v e h => ⟨h.1.firm (Firm.of sL), h.2⟩
      obtain ⟨dpL, _, _⟩ := fit_dp aL
      have hD3 := sL _ _ hD2
      have P3 := P2.same sL
      refine ⟨_, _, .lst (SqL.of hD3) dpL, .lst (SqL.of upd_same) .nil, fit_sh aL, by decide +kernel, _, rfl, ?_⟩
      rw [eqv_nil]
      generalize upd H2 L _ = H3 at sL aL dpL hD3 P3 ⊢
      have B3 : But p H H3 := B02.trans (But.of_same sL)
      rcases List.eq_nil_or_concat fs with fe | fe
      · rw [fe]
        refine goF rfl (iteF ?_)
        refine ⟨_, rfl, _, rfl, _, rfl, wd, rfl, rfl, by omega, p, c, m + 1, _, rfl, P3, by omega, pw0, pw1, fun x H5 x0 x1 P5 B5 => ⟨len3, fun t nt => ?_⟩⟩
        obtain ⟨n, rfl⟩ := Int.eq_ofNat_of_zero_le x0
        have st := same_new (u := .tup [.str "number", .int (wd : Nat), .int (n : Nat)]) nt
        refine q _ _ (.lf (.num (wd : Nat) (n : Nat))) ((P5.same st).more (by omega)) (B3.trans (B5.trans (But.of_same st))) (.tup (SqT.of upd_same) (.cons (.str _) (.cons (.int _) (.cons (.int _) .nil)))) (.num wd n hw (by omega) (by rw [← pow_cast] at x1; exact Int.ofNat_lt.mp x1)) ?_ ?_
        · rw [exZ_lf]
          exact Nat.mul_pos hS T0
        · rw [exH_lf]
          exact Nat.zero_le _
      · have fpos : 0 < fs.length := by
          obtain ⟨a, b, rfl⟩ := fe
          rw [List.concat_eq_append, List.length_append]
          exact Nat.succ_pos _
        have xpos : 0 < xs.length := by rw [aL.len]; exact fpos
        have fb : (!(List.map exD fs).isEmpty) = true := by
          cases fs with
          | nil => cases fpos
          | cons a b => rfl
        refine goT fb ⟨_, rfl, p, c, m + 1, 5, rfl, P3, by omega, by decide, by decide, fun r2 H4 r20 r21 P4 B4 => ⟨_, _, rfl, rfl, _, rfl, ?_⟩⟩
        have hD4 := B4 _ _ hD3 Dp
        have f4 := Firm.pen B4 P3
        have B04 := B3.trans B4
        refine ite2 (fun _ => ?_) (fun _ => ?_)
        · refine ⟨_, rfl, _, rfl, p, c, D, m + 1 + 1, xs, rfl, P4, by omega, Dp, SqL.of hD4, xpos, xl, fun v i H5 hv P5 B5 => ?_⟩
          obtain ⟨e, he, hx⟩ := aL.get hv
          have f5 := f4.trans (Firm.pen B5 P4)
          refine q _ _ e (P5.more (by omega)) (B04.trans B5) (hx.1.firm f5) hx.2.wt (Nat.le_trans hx.2.z ?_) (Nat.le_trans hx.2.h (Nat.le_add_right _ _))
          exact Nat.le_mul_of_pos_right S T0
        · refine ⟨_, rfl, _, rfl, _, rfl, wd, rfl, rfl, by omega, p, c, m + 1 + 1, _, rfl, P4, by omega, pw0, pw1, fun x H5 x0 x1 P5 B5 => ⟨len3, fun t nt => ?_⟩⟩
          obtain ⟨n, rfl⟩ := Int.eq_ofNat_of_zero_le x0
          have st := same_new (u := .tup [.str "number", .int (wd : Nat), .int (n : Nat)]) nt
          refine q _ _ (.lf (.num (wd : Nat) (n : Nat))) ((P5.same st).more (by omega)) (B04.trans (B5.trans (But.of_same st))) (.tup (SqT.of upd_same) (.cons (.str _) (.cons (.int _) (.cons (.int _) .nil)))) (.num wd n hw (by omega) (by rw [← pow_cast] at x1; exact Int.ofNat_lt.mp x1)) ?_ ?_
          · rw [exZ_lf]
            exact Nat.mul_pos hS T0
          · rw [exH_lf]
            exact Nat.zero_le _
    obtain ⟨e, rfl⟩ : ∃ e, d = e + 1 := ⟨d - 1, by
      have : d ≠ 0 := fun h => c0 (.inl (rd h))
      omega⟩
    have hI := hI e rfl
    subst hI
    have T1 : 4 ^ (e + 1) = 4 ^ e * 4 := Nat.pow_succ ..
    have S1 : S * 4 ^ (e + 1) = S * 4 ^ e * 4 := by rw [T1, Nat.mul_assoc]
    have T2 : 1 ≤ 4 ^ e := Nat.pow_pos (by decide)
    have S2 : 1 ≤ S * 4 ^ e := Nat.mul_pos hS T2
    rw [S1] at q
    have rc : ∀ (H1 : Hp) (m1 w1 : Nat) (wi di : Int) (Q1 : VK), wi = (w1 : Nat) → di = (e : Nat) → PenC H1 p c m1 → But p H2 H1 → m1 + 5 * 4 ^ e ≤ 100000000000 → 1 ≤ w1 → w1 + 3 * e ≤ 29 → (∀ H' v ex, PenC H' p c (m1 + 5 * 4 ^ e) → But p H1 H' → ExAt K H' v ex → Wt Γ ex w1 → exZ ex ≤ S * 4 ^ e → exH ex ≤ h0 + e → Q1 v H') → spDE K e [.ref p, .int wi, .ref nl, .int di] H1 Q1 E0 := by
      rintro H1 m1 w1 _ _ Q1 rfl rfl P1 B1 hm1 hw1 hw2 q1
      have f := Firm.pen B1 P2
      exact ⟨Γ, S, h0, p, c, nl, m1, w1, rows, es, rfl, P1, hm1, np, B1 _ _ hN2 np, rl, aN2.imp (fun v r h => h.firm f), hS, hw1, hw2, q1⟩
    clear aN2 hN2 hD2 a2 xl
    refine lti (i := 7) rfl (fun c1 => iteT ?_) (fun c1 => iteF ?_)
    · refine ifc (i := 1) rfl fun z hz => ⟨len5, fun L nL => ?_⟩
      have sL := same_new (u := .lst [.str "and", .str "or", .str "xor", .str "plus", z]) nL
      obtain ⟨k, hk, ok⟩ := kinds hz r0 c1
      have P3 := P2.same sL
      have B3 : But p H2 _ := But.of_same sL
      refine ⟨_, rfl, L, _, r, _, rfl, rfl, SqL.of upd_same, at_of (j := r.toNat) (by omega) hk, ?_⟩
      generalize upd H2 L _ = H3 at sL P3 B3 ⊢
      refine ⟨_, rfl, _, rfl, _, rfl, _, rfl, _, _, rfl, rfl, rc H3 (m + 1) wd _ _ _ rfl (by omega) P3 B3 (by omega) (by omega) (by omega) fun H4 v4 e4 P4 B4 x4 w4 z4 g4 => ?_⟩
      refine ⟨_, rfl, _, rfl, _, rfl, _, rfl, _, rfl, _, rfl, _, _, rfl, rfl, rc H4 (m + 1 + 5 * 4 ^ e) wd _ _ _ rfl (by omega) P4 (B3.trans B4) (by omega) (by omega) (by omega) fun H5 v5 e5 P5 B5 x5 w5 z5 g5 => ⟨len3, fun t nt => ?_⟩⟩
      have st := same_new (u := .tup [.str k, v4, v5]) nt
      have f5 := Firm.pen B5 P4
      have hb : Wt Γ (.op (.bin k) [e4, e5]) wd := .bin k e4 e5 wd ok (by omega) w4 w5
      refine q _ _ _ ((P5.same st).more (by omega)) (B02.trans (B3.trans (B4.trans (B5.trans (But.of_same st))))) (at_bin upd_same ((x4.firm f5).firm (Firm.of st)) (x5.firm (Firm.of st))) hb ?_ ?_
      · rw [exZ_op, exZs_cons, exZs_cons, exZs_nil]
        omega
      · rw [exH_op, exHs_cons, exHs_cons, exHs_nil]
        omega
    refine eqi (i := 7) rfl (fun c2 => iteT ?_) (fun c2 => iteF ?_)
    · refine ⟨_, rfl, len2, fun L nL => ?_⟩
      have sL := same_new (u := .lst [.str "not", .str "minus"]) nL
      refine ⟨p, c, L, m + 1, _, rfl, P2.same sL, by omega, (P2.free nL).1, SqL.of upd_same, (by show 0 < 2; decide), (by show 2 ≤ 1000; decide), fun y i H4 hy P4 B4 => ?_⟩
      obtain ⟨k, rfl, ok⟩ := two_of hy
      have B3 : But p H2 H4 := (But.of_same sL).trans B4
      refine ⟨_, rfl, _, rfl, _, rfl, _, rfl, _, _, rfl, rfl, rc H4 (m + 1 + 1) wd _ _ _ rfl (by omega) P4 B3 (by omega) (by omega) (by omega) fun H5 v5 e5 P5 B5 x5 w5 z5 g5 => ⟨len2, fun t nt => ?_⟩⟩
      have st := same_new (u := .tup [.str k, v5]) nt
      have hb : Wt Γ (.op (.un k) [e5]) wd := .un k e5 wd ok (by omega) w5
      refine q _ _ _ ((P5.same st).more (by omega)) (B02.trans (B3.trans (B5.trans (But.of_same st)))) (at_un upd_same (x5.firm (Firm.of st))) hb ?_ ?_
      · rw [exZ_op, exZs_cons, exZs_nil]
        omega
      · rw [exH_op, exHs_cons, exHs_nil]
        omega
    refine eqi (i := 7) rfl (fun c3 => iteT ?_) (fun c3 => iteF ?_)
    · refine ⟨_, rfl, _, rfl, _, rfl, _, rfl, _, _, rfl, rfl, rc H2 (m + 1) wd _ _ _ rfl (by omega) P2 But.refl (by omega) (by omega) (by omega) fun H4 v4 e4 P4 B4 x4 w4 z4 g4 => ⟨_, rfl, len2, fun L nL => ?_⟩⟩
      have sL := same_new (u := .lst [.str "left", .str "right"]) nL
      refine ⟨p, c, L, m + 1 + 5 * 4 ^ e, _, rfl, P4.same sL, by omega, (P4.free nL).1, SqL.of upd_same, (by show 0 < 2; decide), (by show 2 ≤ 1000; decide), fun y i H5 hy P5 B5 => ?_⟩
      obtain ⟨k, rfl, ok⟩ := two_of hy
      refine ⟨_, rfl, _, rfl, _, rfl, _, _, rfl, rfl, p, c, m + 1 + 5 * 4 ^ e + 1, _, rfl, P5, by omega, by omega, by omega, fun x H6 hx0 hx1 P6 B6 => ⟨len3, fun t nt => ?_⟩⟩
      obtain ⟨n, rfl⟩ := Int.eq_ofNat_of_zero_le hx0
      have st := same_new (u := .tup [.str k, v4, .int (n : Nat)]) nt
      have f4 := ((Firm.of sL).trans (Firm.pen B5 (P4.same sL))).trans ((Firm.pen B6 P5).trans (Firm.of st))
      have hb : Wt Γ (.op (.sh k n) [e4]) wd := .sh k n e4 wd ok (by omega) (by omega) w4
      refine q _ _ _ ((P6.same st).more (by omega)) (B02.trans (B4.trans ((But.of_same sL).trans (B5.trans (B6.trans (But.of_same st)))))) (at_sh upd_same (x4.firm f4)) hb ?_ ?_
      · rw [exZ_op, exZs_cons, exZs_nil]
        omega
      · rw [exH_op, exHs_cons, exHs_nil]
        omega
    refine eqi (i := 7) rfl (fun c4 => iteT ?_) (fun c4 => iteF ?_)
    · refine ⟨_, rfl, _, rfl, _, rfl, _, _, rfl, rfl, rc H2 (m + 1) 1 _ _ _ rfl (by omega) P2 But.refl (by omega) (by omega) (by omega) fun H4 v4 e4 P4 B4 x4 w4 z4 g4 => ?_⟩
      refine ⟨_, rfl, _, rfl, _, rfl, _, rfl, _, _, rfl, rfl, rc H4 (m + 1 + 5 * 4 ^ e) wd _ _ _ rfl (by omega) P4 B4 (by omega) (by omega) (by omega) fun H5 v5 e5 P5 B5 x5 w5 z5 g5 => ?_⟩
      refine ⟨_, rfl, _, rfl, _, rfl, _, rfl, _, rfl, _, rfl, _, _, rfl, rfl, rc H5 (m + 1 + 5 * 4 ^ e + 5 * 4 ^ e) wd _ _ _ rfl (by omega) P5 (B4.trans B5) (by omega) (by omega) (by omega) fun H6 v6 e6 P6 B6 x6 w6 z6 g6 => ⟨len4, fun t nt => ?_⟩⟩
      have st := same_new (u := .tup [.str "if", v4, v5, v6]) nt
      have f6 := (Firm.pen B6 P5).trans (Firm.of st)
      have f5 := (Firm.pen B5 P4).trans f6
      have hb : Wt Γ (.op .ite [e4, e5, e6]) wd := .ite e4 e5 e6 wd (by omega) w4 w5 w6
      refine q _ _ _ ((P6.same st).more (by omega)) (B02.trans (B4.trans (B5.trans (B6.trans (But.of_same st))))) (at_ite upd_same (x4.firm f5) (x5.firm f6) (x6.firm (Firm.of st))) hb ?_ ?_
      · rw [exZ_op, exZs_cons, exZs_cons, exZs_cons, exZs_nil]
        omega
      · rw [exH_op, exHs_cons, exHs_cons, exHs_cons, exHs_nil]
        omega
    refine and8 (i := 7) (j := 1) rfl rfl (fun c5 c6 => iteT ?_) (fun c5 => iteF ?_)
    · refine ⟨_, rfl, _, rfl, _, _, rfl, rfl, p, c, m + 1, _, rfl, P2, by omega, by omega, by omega, fun x H3 hx0 hx1 P3 B3 => ⟨_, _, rfl, rfl, ?_⟩⟩
      obtain ⟨n, rfl⟩ := Int.eq_ofNat_of_zero_le hx0
      refine ⟨_, rfl, _, rfl, _, rfl, _, _, rfl, rfl, _, rfl, _, rfl, _, _, rfl, rfl, rc H3 (m + 1 + 1) (wd - (1 + n)) _ _ _ (by omega) (by omega) P3 B3 (by omega) (by omega) (by omega) fun H4 v4 e4 P4 B4 x4 w4 z4 g4 => ?_⟩
      refine ⟨_, rfl, _, rfl, _, rfl, _, rfl, _, rfl, _, _, rfl, rfl, rc H4 (m + 1 + 1 + 5 * 4 ^ e) (1 + n) _ _ _ (by omega) (by omega) P4 (B3.trans B4) (by omega) (by omega) (by omega) fun H5 v5 e5 P5 B5 x5 w5 z5 g5 => ⟨len2, fun u nu => ⟨len2, fun t nt => ?_⟩⟩⟩
      have su := same_new (u := .tup [v4, v5]) nu
      have hu := upd_same (H := H5) (a := u) (o := .tup [v4, v5])
      generalize upd H5 u _ = H6 at su hu nt ⊢
      have st := same_new (u := .tup [.str "join", .ref u]) nt
      have fs5 := (Firm.of su).trans (Firm.of st)
      have f5 := (Firm.pen B5 P4).trans fs5
      have hb : Wt Γ (.op .join [e4, e5]) wd := by
        have := Wt.join [e4, e5] [wd - (1 + n), 1 + n] (.cons _ _ _ _ w4 (.cons _ _ _ _ w5 .nil)) (by show wd - (1 + n) + (1 + n + 0) ≤ 4096; omega)
        rw [show [wd - (1 + n), 1 + n].sum = wd by show wd - (1 + n) + (1 + n + 0) = wd; omega] at this
        exact this
      refine q _ _ _ ((P5.same (su.trans st)).more (by omega)) (B02.trans (B3.trans (B4.trans (B5.trans (But.of_same (su.trans st)))))) (at_join2 upd_same (st _ _ hu) (x4.firm f5) (x5.firm fs5)) hb ?_ ?_
      · rw [exZ_op, exZs_cons, exZs_cons, exZs_nil]
        omega
      · rw [exH_op, exHs_cons, exHs_cons, exHs_nil]
        omega
    refine or9 (i := 7) (j := 1) rfl rfl (fun _ => iteT ?_) (fun c7 => iteF ?_)
    · refine ⟨_, rfl, p, c, m + 1, 3, rfl, P2, by omega, by decide, by decide, fun x H3 hx0 hx1 P3 B3 => ?_⟩
      obtain ⟨n, rfl⟩ := Int.eq_ofNat_of_zero_le hx0
      refine ⟨_, rfl, _, rfl, _, _, rfl, rfl, _, rfl, p, c, m + 1 + 1, 2, rfl, P3, by omega, by decide, by decide, fun y H4 hy0 hy1 P4 B4 => ⟨_, _, rfl, rfl, ?_⟩⟩
      obtain ⟨n2, rfl⟩ := Int.eq_ofNat_of_zero_le hy0
      refine ⟨_, rfl, _, rfl, _, rfl, _, rfl, _, _, rfl, rfl, rc H4 (m + 1 + 1 + 1) (wd + n + n2) _ _ _ (by omega) (by omega) P4 (B3.trans B4) (by omega) (by omega) (by omega) fun H5 v5 e5 P5 B5 x5 w5 z5 g5 => ?_⟩
      refine ⟨_, rfl, _, rfl, _, _, rfl, rfl, _, _, rfl, rfl, _, rfl, len4, fun t nt => ?_⟩
      have st := same_new (u := .tup [.str "slice", v5, .int ((wd : Int) + (n : Int) - 1), .int (n : Nat)]) nt
      have hb : Wt Γ (.op (.slc ((wd + n - 1 : Nat) : Int) (n : Nat)) [e5]) wd := by
        have := Wt.slc (Γ := Γ) (wd + n - 1) n e5 (wd + n + n2) (by omega) (by omega) (by omega) w5
        rw [show wd + n - 1 - n + 1 = wd by omega] at this
        exact this
      refine q _ _ _ ((P5.same st).more (by omega)) (B02.trans (B3.trans (B4.trans (B5.trans (But.of_same st))))) (at_slc upd_same (x5.firm (Firm.of st)) (by omega)) hb ?_ ?_
      · rw [exZ_op, exZs_cons, exZs_nil]
        omega
      · rw [exH_op, exHs_cons, exHs_nil]
        omega
    refine ⟨_, rfl, p, c, m + 1, 3, rfl, P2, by omega, by decide, by decide, fun x H3 hx0 hx1 P3 B3 => ⟨_, _, rfl, rfl, ?_⟩⟩
    obtain ⟨n, rfl⟩ := Int.eq_ofNat_of_zero_le hx0
    refine ⟨_, rfl, _, rfl, _, rfl, _, rfl, _, _, rfl, rfl, rc H3 (m + 1 + 1) (1 + n) _ _ _ (by omega) (by omega) P3 B3 (by omega) (by omega) (by omega) fun H4 v4 e4 P4 B4 x4 w4 z4 g4 => ⟨_, rfl, len2, fun L nL => ?_⟩⟩
    have sL := same_new (u := .lst [.str "equal", .str "below"]) nL
    refine ⟨p, c, L, m + 1 + 1 + 5 * 4 ^ e, _, rfl, P4.same sL, by omega, (P4.free nL).1, SqL.of upd_same, (by show 0 < 2; decide), (by show 2 ≤ 1000; decide), fun y i H5 hy P5 B5 => ?_⟩
    obtain ⟨k, rfl, ok⟩ := two_of hy
    have B45 := (But.of_same (p := p) sL).trans B5
    refine ⟨_, rfl, _, rfl, _, rfl, _, rfl, _, rfl, _, _, rfl, rfl, rc H5 (m + 1 + 1 + 5 * 4 ^ e + 1) (1 + n) _ _ _ (by omega) (by omega) P5 (B3.trans (B4.trans B45)) (by omega) (by omega) (by omega) fun H6 v6 e6 P6 B6 x6 w6 z6 g6 => ⟨len3, fun t nt => ?_⟩⟩
    have st := same_new (u := .tup [.str k, v4, v6]) nt
    have f4 := ((Firm.of sL).trans (Firm.pen B5 (P4.same sL))).trans ((Firm.pen B6 P5).trans (Firm.of st))
    have w1 : wd = 1 := by omega
    subst w1
    have hb : Wt Γ (.op (.bin k) [e4, e6]) 1 := .cmp k e4 e6 (1 + n) ok (by omega) w4 w6
    refine q _ _ _ ((P6.same st).more (by omega)) (B02.trans (B3.trans (B4.trans (B45.trans (B6.trans (But.of_same st)))))) (at_bin upd_same (x4.firm f4) (x6.firm (Firm.of st))) hb ?_ ?_
    · rw [exZ_op, exZs_cons, exZs_cons, exZs_nil]
      omega
    · rw [exH_op, exHs_cons, exHs_cons, exHs_nil]
      omega
theorem ok_de (F : FnP K "_law_drawn_expression" sLDrawnExpression f fd)
    {fDR fPI : Addr} {dDR dPI : FuncData}
    (GDR : FnOk P w K mg base CX0 1 fDR dDR ["_law_pen_here", "_law_many"] (spDraw)) (gDR : mg "_law_draw" = some (.ref fDR)) (kDR : PySem.W.keepIn K (.ref fDR) = true) (bDR : Binds K dDR ["_law_pen_here", "_law_many"] [])
    (GPI : FnOk P w K mg base CX0 2 fPI dPI ["_law_pen_here", "_law_some"] ((spPick K))) (gPI : mg "_law_pick" = some (.ref fPI)) (kPI : PySem.W.keepIn K (.ref fPI) = true) (bPI : Binds K dPI ["_law_pen_here", "_law_some"] [])
    (gDE : mg "_law_drawn_expression" = some (.ref f)) (kDE : PySem.W.keepIn K (.ref f) = true) (bDE : Binds K fd ["_law_pen_here", "_law_width", "_law_names", "_law_deep"] [])
    : ∀ d : Nat, FnOk P w K mg base CX0 (d + 2 + 1) f fd ["_law_pen_here", "_law_width", "_law_names", "_law_deep"] (spDE K d)
  | 0 => step_de F 0 (fun _ _ _ _ => False) (fun e h => by cases h) GDR gDR kDR bDR GPI gPI kPI bPI (F.ok (k := 1) scDE (fun _ _ _ _ (z : False) => z.elim) (fun _ _ _ _ _ _ _ _ _ (z : False) => z.elim)) gDE kDE bDE
  | d + 1 => step_de F (d + 1) (spDE K d) (fun e he => by injection he with he; rw [he]) GDR gDR kDR bDR GPI gPI kPI bPI (ok_de F GDR gDR kDR bDR GPI gPI kPI bPI gDE kDE bDE d) gDE kDE bDE
end
end Ev
namespace Ew
open PySem PySem.Spec PyProof.Rows L2 Pen Dat Ki Fi Ep Eq Es Ev
/-! ## The law's own words: bit by bit, and by the expression's own shape -/
def bwM (k : Str) (a b : Nat) : Nat := if k = "and" then a &&& b else if k = "or" then a ||| b else a ^^^ b
def spBW : Sp := fun vs H Q _ => ∃ (k : Str) (w a b : Nat), vs = [.str k, .int (w : Nat), .int (a : Nat), .int (b : Nat)] ∧ w ≤ 4096 ∧ a < 2 ^ w ∧ b < 2 ^ w ∧ Q (.int ((bwM k a b : Nat) : Int)) H
structure Tx (mg : Str → Option Value) : Prop where
  range : mg "range" = none
  int : mg "int" = none
  max : mg "max" = none
theorem mod_succ (x k : Nat) : x % 2 ^ (k + 1) = x % 2 ^ k + 2 ^ k * (x.testBit k).toNat := by rw [Nat.mod_pow_succ, Nat.toNat_testBit]
theorem bwM_lt {k : Str} {a b w : Nat} (ha : a < 2 ^ w) (hb : b < 2 ^ w) : bwM k a b < 2 ^ w := by
  unfold bwM
  split
  · exact Nat.lt_of_le_of_lt Nat.and_le_left ha
  · split
    · exact Nat.or_lt_two_pow ha hb
    · exact Nat.xor_lt_two_pow ha hb
theorem bit_cast (a k : Nat) : (a : Int) / 2 ^ k % 2 = ((a.testBit k).toNat : Nat) := by
  rw [Nat.toNat_testBit, Int.natCast_emod, Int.natCast_ediv, pow_cast]
  rfl
theorem div_ok {i : Int} (k : Nat) (h : k ≤ 4096) : CDivW i (2 ^ k) := by
  refine wide_div (b := k + 1) (Int.pow_pos (by decide)) ?_ (by omega) (by omega)
  rw [← pow_cast, Int.natAbs_natCast]
  exact Nat.pow_lt_pow_right (by decide) (Nat.lt_succ_self k)
theorem bw_bit (k : Str) (a b i : Nat) : ((bwM k a b).testBit i) = if k = "and" then (a.testBit i && b.testBit i) else if k = "or" then (a.testBit i || b.testBit i) else (a.testBit i ^^ b.testBit i) := by
  unfold bwM
  split
  · exact Nat.testBit_and ..
  · split
    · exact Nat.testBit_or ..
    · exact Nat.testBit_xor ..
theorem sqt {a b : Str} (h : a = b) : decide (V.str a = V.str b) = true := decide_eq_true (by rw [h])
theorem sqf {a b : Str} (h : ¬ a = b) : decide (V.str a = V.str b) = false := decide_eq_false fun e => h (by injection e)
theorem bit_mulC {x y : Bool} : CMul (x.toNat : Nat) (y.toNat : Nat) := by
  cases x <;> cases y <;> exact .inl ⟨by decide, by decide⟩
section
variable {P : Program} {w : World} {K : PySem.W.Frag} {mg : Str → Option Value} {base : Heap} {f : Addr} {fd : FuncData}
abbrev nBW : List Str := ["_law_kind", "_law_width", "_law_one", "_law_two", "_law_amount", "_law_k", "_law_a", "_law_b", "_law_bit"]
theorem scBW : FnScope nBW ["_law_kind", "_law_width", "_law_one", "_law_two"] (defScope sLBitwise) := ⟨rfl, rfl, rfl, by decide +kernel, rfl, by decide +kernel, by decide +kernel⟩
theorem ok_bw (F : FnP K "_law_bitwise" sLBitwise f fd) (T : Tx mg) : FnOk P w K mg base CX0 1 f fd ["_law_kind", "_law_width", "_law_one", "_law_two"] spBW := by
  refine F.ok scBW (fun vs H Q E h => ?_) (fun cdv A outer s H vs Q E hr h => ?_)
  · obtain ⟨k, wd, a, b, rfl, _⟩ := h
    rfl
  · obtain ⟨k, wd, a, b, rfl, hw, ha, hb, q⟩ := h
    refine ⟨_, PSs.nox (pss_cons (ps_set (i := 4) scBW.nd rfl (Or.inl rfl) pe_int)
      (pss_cons (ps_for PassesOwn.never rfl (pi_range1 (by rfl) T.range (pa_cons (pv 1) pa_nil)) (pg_name (i := 5) scBW.nd rfl (Or.inl rfl))
        (pss_cons (ps_par (i := 6) (j := 7) rfl scBW.nd rfl rfl (by decide) rfl rfl (pa_cons (pe_op op_mod (pe_callTy call_int1 (by rfl) T.int (by decide +kernel) (pa_cons (pe_op op_fdivW (pv 2) (pe_op op_oneShl pe_int (pv 5))) pa_nil)) pe_int) (pa_cons (pe_op op_mod (pe_callTy call_int1 (by rfl) T.int (by decide +kernel) (pa_cons (pe_op op_fdivW (pv 3) (pe_op op_oneShl pe_int (pv 5))) pa_nil)) pe_int) pa_nil)) (by rfl))
        (pss_cons (ps_set (i := 8) scBW.nd rfl (Or.inl rfl) (pe_ifExp (pt_cmpR op_eq (pv 0) pe_str (nomark _)) (pe_op op_mul (pv 6) (pv 7)) (pe_ifExp (pt_cmpR op_eq (pv 0) pe_str (nomark _)) (pe_callB (call_max2 rfl) (by rfl) T.max (by decide +kernel) (pa_cons (pv 6) (pa_cons (pv 7) pa_nil))) (pe_callTy call_int1 (by rfl) T.int (by decide +kernel) (pa_cons (pe_cmpR op_ne (pv 6) (pv 7) (nomark _)) pa_nil)))))
        (pss_one (ps_set (i := 4) scBW.nd rfl (Or.inl rfl) (pe_op op_add (pv 4) (pe_op op_mulX (pv 8) (pe_op op_oneShl pe_int (pv 5)))))))))
      (pss_one (ps_ret (pv 4))))), ?_⟩
    have hr2 := bwM_lt (k := k) ha hb
    refine ⟨_, rfl, _, rfl, by omega, by omega, for_range (lo := 0) (n := wd)
      (fun i σ H' => ∃ x5 x6 x7 x8 : Option V, σ = [some (.str k), some (.int (wd : Nat)), some (.int (a : Nat)), some (.int (b : Nat)), some (.int ((bwM k a b % 2 ^ i : Nat) : Int)), x5, x6, x7, x8] ∧ H' = H) ⟨none, none, none, none, by rw [Nat.pow_zero, Nat.mod_one]; rfl, rfl⟩ ?_ ?_⟩
    · rintro i σ H1 hi ⟨x5, x6, x7, x8, rfl, rfl⟩
      rw [Int.zero_add]
      refine ⟨_, rfl, _, rfl, i, rfl, rfl, by omega, _, _, rfl, rfl, div_ok i (by omega), .inl ⟨_, rfl, _, _, rfl, rfl, (by show (0 : Int) < 2; decide), ?_⟩⟩
      refine ⟨_, rfl, _, rfl, i, rfl, rfl, by omega, _, _, rfl, rfl, div_ok i (by omega), .inl ⟨_, rfl, _, _, rfl, rfl, (by show (0 : Int) < 2; decide), ?_⟩⟩
      refine ⟨.int ((a.testBit i).toNat : Nat), .int ((b.testBit i).toNat : Nat), by rw [← bit_cast, ← bit_cast], ?_⟩
      have fin : ∀ c : Int, c = ((bwM k a b).testBit i).toNat → CMulX c (2 ^ i) ∧ (((bwM k a b % 2 ^ i : Nat) : Int) + c * 2 ^ i = ((bwM k a b % 2 ^ (i + 1) : Nat) : Int)) := by
        rintro c rfl
        refine ⟨mulx_ok (a := 1) (b := i + 1) ?_ ?_ (by omega), ?_⟩
        · rw [Int.natAbs_natCast]
          cases (bwM k a b).testBit i <;> decide
        · rw [← pow_cast, Int.natAbs_natCast]
          exact Nat.pow_lt_pow_right (by decide) (Nat.lt_succ_self i)
        · rw [mod_succ, Int.natCast_add, Int.natCast_mul, pow_cast, Int.mul_comm]
      have bits := bw_bit k a b i
      generalize bwM k a b = r at fin bits ⊢
      refine ⟨_, rfl, rfl, _, rfl, ?_⟩
      by_cases c1 : k = "and"
      · refine goT (sqt c1) ⟨_, rfl, _, rfl, _, _, rfl, rfl, bit_mulC, ?_⟩
        obtain ⟨f1, f2⟩ := fin (((a.testBit i).toNat : Int) * ((b.testBit i).toNat : Int)) (by rw [bits, if_pos c1]; cases a.testBit i <;> cases b.testBit i <;> rfl)
        exact ⟨_, rfl, _, rfl, _, rfl, i, rfl, rfl, by omega, _, _, rfl, rfl, f1, _, _, rfl, rfl, _, _, _, _, by rw [← f2]; rfl, rfl⟩
      · refine goF (sqf c1) ⟨_, rfl, rfl, _, rfl, ?_⟩
        by_cases c2 : k = "or"
        · refine goT (sqt c2) ⟨_, rfl, _, rfl, _, _, rfl, ?_⟩
          obtain ⟨f1, f2⟩ := fin (if ((b.testBit i).toNat : Int) > ((a.testBit i).toNat : Int) then ((b.testBit i).toNat : Int) else ((a.testBit i).toNat : Int)) (by rw [bits, if_neg c1, if_pos c2]; cases a.testBit i <;> cases b.testBit i <;> rfl)
          exact ⟨_, rfl, _, rfl, _, rfl, i, rfl, rfl, by omega, _, _, rfl, rfl, f1, _, _, rfl, rfl, _, _, _, _, by rw [← f2]; rfl, rfl⟩
        · refine goF (sqf c2) ⟨_, rfl, _, rfl, rfl, .inr ⟨_, rfl, ?_⟩⟩
          obtain ⟨f1, f2⟩ := fin (if (!decide (V.int ((a.testBit i).toNat : Int) = V.int ((b.testBit i).toNat : Int))) = true then 1 else 0) (by rw [bits, if_neg c1, if_neg c2]; cases a.testBit i <;> cases b.testBit i <;> rfl)
          exact ⟨_, rfl, _, rfl, _, rfl, i, rfl, rfl, by omega, _, _, rfl, rfl, f1, _, _, rfl, rfl, _, _, _, _, by rw [← f2]; rfl, rfl⟩
    · rintro σ H1 ⟨x5, x6, x7, x8, rfl, rfl⟩
      rw [Nat.mod_eq_of_lt hr2]
      exact ⟨_, rfl, q⟩
end
/-- what stays while the names are looked up -/
def Ext1 (nd : Addr) (H H' : Hp) : Prop := Firm H H' ∧ ∀ o, H nd = some o → H' nd = some o
theorem Ext1.refl (nd : Addr) (H : Hp) : Ext1 nd H H := ⟨Firm.refl H, fun _ e => e⟩
theorem Ext1.of {nd : Addr} {H H' : Hp} (s : Same H H') : Ext1 nd H H' := ⟨Firm.of s, fun o e => s _ o e⟩
theorem Ext1.trans {nd : Addr} {H H1 H2 : Hp} (a : Ext1 nd H H1) (b : Ext1 nd H1 H2) : Ext1 nd H H2 := ⟨a.1.trans b.1, fun o e => b.2 o (a.2 o e)⟩
/-- the names, by G: what the dict tells at a key -/
structure NmAt (K : PySem.W.Frag) (G : Hp → Addr → V → V → Prop) (H : Hp) (nd : Addr) (Γ : Gam) (U : Vl) : Prop where
  nm : ∀ n w, Γ.nm n = some w → ∃ v, WAt K H v (w, U.nm n) ∧ ∀ H', Ext1 nd H H' → G H' nd (.str n) v
  pt : ∀ u n w, Γ.pt u n = some w → ∃ v, WAt K H v (w, U.pt u n) ∧ ∀ H' t, Ext1 nd H H' → H' t = some (.tup [.str u, .str n]) → G H' nd (.ref t) v
  mm : ∀ m w b, Γ.mm m = some (w, b) → ∃ t r, SqT K H t [.int (w : Nat), .ref r] ∧ SqT K H r ((List.range (2 ^ b)).map fun i => V.int (U.mm m i : Nat)) ∧ ∀ H', Ext1 nd H H' → G H' nd (.str m) (.ref t)
theorem NmAt.ext {K : PySem.W.Frag} {G : Hp → Addr → V → V → Prop} {H H' : Hp} {nd : Addr} {Γ : Gam} {U : Vl} (s : Ext1 nd H H') (h : NmAt K G H nd Γ U) : NmAt K G H' nd Γ U where
  nm := fun n w e => let ⟨v, a, b⟩ := h.nm n w e; ⟨v, a.firm s.1, fun H2 s2 => b H2 (s.trans s2)⟩
  pt := fun u n w e => let ⟨v, a, b⟩ := h.pt u n w e; ⟨v, a.firm s.1, fun H2 t s2 ht => b H2 t (s.trans s2) ht⟩
  mm := fun m w b e => let ⟨t, r, a1, a2, b⟩ := h.mm m w b e; ⟨t, r, firm_seq s.1 a1, firm_seq s.1 a2, fun H2 s2 => b H2 (s.trans s2)⟩
def spLW (K : PySem.W.Frag) (G : Hp → Addr → V → V → Prop) (h : Nat) : Sp := fun vs H Q _ => ∃ (Γ : Gam) (U : Vl) (nd : Addr) (v : V) (e : Ex) (w : Nat), vs = [v, .ref nd] ∧ ExAt K H v e ∧ Wt Γ e w ∧ Good Γ U ∧ exH e ≤ h ∧ NmAt K G H nd Γ U ∧
  ∀ H' r, Same H H' → WAt K H' r (den Γ U e) → Q r H'
section
variable {σ : L2.St} {H : Hp} {R : Bool → Hp → Prop} {i : Nat} {a : Str}
theorem eqsF {k : Str} (hs : σ[i]? = some (some (.str a))) (n : ¬ a = k) (hf : R false H) : tTest (tOp rEq (tVar i) (tC (.str k))) σ H R := by
  refine ⟨_, hs, rfl, _, rfl, ?_⟩
  rw [sqf n]
  exact hf
theorem eqsT (hs : σ[i]? = some (some (.str a))) (ht : R true H) : tTest (tOp rEq (tVar i) (tC (.str a))) σ H R := by
  refine ⟨_, hs, rfl, _, rfl, ?_⟩
  rw [sqt rfl]
  exact ht
end
theorem castM (a w : Nat) : ((a % 2 ^ w : Nat) : Int) = (a : Int) % 2 ^ w := by
  rw [Int.natCast_emod, pow_cast]
theorem lt_pow {x : Nat} (h : x < 2 ^ 4096) : x < 2 ^ 4097 := Nat.lt_of_lt_of_le h (Nat.pow_le_pow_right (by decide) (by decide))
theorem put {K : PySem.W.Frag} {H : Hp} {Q : VK} {x : WV} {p : Addr} {a b : Int} (q : ∀ H' r, Same H H' → WAt K H' r x → Q r H') (np : H p = none) (ea : (x.1 : Int) = a) (eb : (x.2 : Int) = b) : Q (.ref p) (upd H p (.tup [.int a, .int b])) := by
  subst ea
  subst eb
  exact q _ _ (same_new np) ⟨p, rfl, SqT.of upd_same⟩
theorem exHs_mem : ∀ {ps : List Ex} {p : Ex}, p ∈ ps → exH p ≤ exHs ps
  | x :: ps, p, h => by
    rw [exHs_cons]
    rcases List.mem_cons.mp h with g | g
    · rw [g]; exact Nat.le_max_left _ _
    · exact Nat.le_trans (exHs_mem g) (Nat.le_max_right _ _)
theorem h_succ {o : Op} {ps : List Ex} {h : Nat} (hh : exH (.op o ps) ≤ h) {p : Ex} (hp : p ∈ ps) : ∃ e, h = e + 1 ∧ exH p ≤ e := by
  rw [exH_op] at hh
  have := exHs_mem hp
  exact ⟨h - 1, by omega, by omega⟩
theorem row_get {n b : Nat} {F : Nat → V} (h : n < 2 ^ b) : ((List.range (2 ^ b)).map F)[n]? = some (F n) := by
  rw [List.getElem?_map, List.getElem?_range h]
  rfl
theorem wts_den {Γ : Gam} {U : Vl} (g : Good Γ U) : ∀ {ps : List Ex} {us : List Nat}, Wts Γ ps us → (∀ i : Nat, ((ps.map (den Γ U))[i]?).map (fun d : WV => d.1) = us[i]?) ∧ ∀ d ∈ ps.map (den Γ U), d.2 < 2 ^ d.1
  | _, _, .nil => ⟨fun i => rfl, fun d h => by cases h⟩
  | _, _, .cons p ps w ws h t => by
    obtain ⟨e1, e2⟩ := wt_den g h
    obtain ⟨i1, i2⟩ := wts_den g t
    refine ⟨fun i => ?_, fun d hd => ?_⟩
    · cases i with
      | zero => show some (den Γ U p).1 = some w; rw [e1]
      | succ i => exact i1 i
    · rw [List.map_cons] at hd
      rcases List.mem_cons.mp hd with g2 | g2
      · rw [g2, e1]; exact e2
      · exact i2 d g2
theorem take_step {α : Type} {xs : List α} {i : Nat} {x : α} (h : xs[i]? = some x) : xs.take (i + 1) = xs.take i ++ [x] := by
  rw [List.take_add_one, h]
  rfl
theorem sum_take_le : ∀ (us : List Nat) (i : Nat), (us.take i).sum ≤ us.sum
  | _, 0 => Nat.zero_le _
  | [], _ + 1 => Nat.le_refl _
  | u :: us, i + 1 => by
    rw [List.take_succ_cons, List.sum_cons, List.sum_cons]
    exact Nat.add_le_add_left (sum_take_le us i) u
theorem mem_le_sum : ∀ {us : List Nat} {u : Nat}, u ∈ us → u ≤ us.sum
  | x :: us, u, h => by
    rw [List.sum_cons]
    rcases List.mem_cons.mp h with g | g
    · omega
    · have := mem_le_sum g
      omega
theorem joinP_snoc (s d : WV) (ds : List WV) : joinP s (ds ++ [d]) = ((joinP s ds).1 + d.1, (joinP s ds).2 * 2 ^ d.1 + d.2) := by
  unfold joinP
  rw [List.foldl_append]
  rfl
section
variable {K : PySem.W.Frag} {H : Hp} {v : V}
theorem num_at {u n : Int} (h : ExAt K H v (.lf (.num u n))) : ∃ t, v = .ref t ∧ SqT K H t [.str "number", .int u, .int n] := by
  unfold ExAt exD lfD at h
  cases h with | tup hs h1 => cases h1 with | cons a h1 => cases h1 with | cons b h1 => cases h1 with | cons c h1 => cases a; cases b; cases c; cases h1; exact ⟨_, rfl, hs⟩
theorem nam_at {n : Str} (h : ExAt K H v (.lf (.nam n))) : ∃ t, v = .ref t ∧ SqT K H t [.str "name", .str n] := by
  unfold ExAt exD lfD at h
  cases h with | tup hs h1 => cases h1 with | cons a h1 => cases h1 with | cons b h1 => cases a; cases b; cases h1; exact ⟨_, rfl, hs⟩
theorem port_at {u n : Str} (h : ExAt K H v (.lf (.port u n))) : ∃ t, v = .ref t ∧ SqT K H t [.str "port", .str u, .str n] := by
  unfold ExAt exD lfD at h
  cases h with | tup hs h1 => cases h1 with | cons a h1 => cases h1 with | cons b h1 => cases h1 with | cons c h1 => cases a; cases b; cases c; cases h1; exact ⟨_, rfl, hs⟩
theorem read_at {m : Str} {p : Ex} (h : ExAt K H v (.op (.read m) [p])) : ∃ t v1, v = .ref t ∧ SqT K H t [.str "read", .str m, v1] ∧ ExAt K H v1 p := by
  unfold ExAt exD exDs exDs at h
  cases h with | tup hs h1 => cases h1 with | cons a h1 => cases h1 with | cons b h1 => cases h1 with | cons c h1 => cases a; cases b; cases h1; exact ⟨_, _, rfl, hs, c⟩
theorem un_at {k : Str} {p : Ex} (h : ExAt K H v (.op (.un k) [p])) : ∃ t v1, v = .ref t ∧ SqT K H t [.str k, v1] ∧ ExAt K H v1 p := by
  unfold ExAt exD exDs exDs at h
  cases h with | tup hs h1 => cases h1 with | cons a h1 => cases h1 with | cons b h1 => cases a; cases h1; exact ⟨_, _, rfl, hs, b⟩
theorem sh_at {k : Str} {n : Int} {p : Ex} (h : ExAt K H v (.op (.sh k n) [p])) : ∃ t v1, v = .ref t ∧ SqT K H t [.str k, v1, .int n] ∧ ExAt K H v1 p := by
  unfold ExAt exD exDs exDs at h
  cases h with | tup hs h1 => cases h1 with | cons a h1 => cases h1 with | cons b h1 => cases h1 with | cons c h1 => cases a; cases c; cases h1; exact ⟨_, _, rfl, hs, b⟩
theorem slc_at {hi lo : Int} {p : Ex} (h : ExAt K H v (.op (.slc hi lo) [p])) : ∃ t v1, v = .ref t ∧ SqT K H t [.str "slice", v1, .int hi, .int lo] ∧ ExAt K H v1 p := by
  unfold ExAt exD exDs exDs at h
  cases h with | tup hs h1 => cases h1 with | cons a h1 => cases h1 with | cons b h1 => cases h1 with | cons c h1 => cases h1 with | cons d h1 => cases a; cases c; cases d; cases h1; exact ⟨_, _, rfl, hs, b⟩
theorem bin_at {k : Str} {p p2 : Ex} (h : ExAt K H v (.op (.bin k) [p, p2])) : ∃ t v1 v2, v = .ref t ∧ SqT K H t [.str k, v1, v2] ∧ ExAt K H v1 p ∧ ExAt K H v2 p2 := by
  unfold ExAt exD exDs exDs exDs at h
  cases h with | tup hs h1 => cases h1 with | cons a h1 => cases h1 with | cons b h1 => cases h1 with | cons c h1 => cases a; cases h1; exact ⟨_, _, _, rfl, hs, b, c⟩
theorem ite_at {c p p2 : Ex} (h : ExAt K H v (.op .ite [c, p, p2])) : ∃ t v0 v1 v2, v = .ref t ∧ SqT K H t [.str "if", v0, v1, v2] ∧ ExAt K H v0 c ∧ ExAt K H v1 p ∧ ExAt K H v2 p2 := by
  unfold ExAt exD exDs exDs exDs exDs at h
  cases h with | tup hs h1 => cases h1 with | cons a h1 => cases h1 with | cons b h1 => cases h1 with | cons c h1 => cases h1 with | cons d h1 => cases a; cases h1; exact ⟨_, _, _, _, rfl, hs, b, c, d⟩
theorem join_at {ps : List Ex} (h : ExAt K H v (.op .join ps)) : ∃ t b vs, v = .ref t ∧ SqT K H t [.str "join", .ref b] ∧ SqT K H b vs ∧ All2 (ExAt K H) vs ps := by
  unfold ExAt exD at h
  cases h with | tup hs h1 => cases h1 with | cons a h1 => cases h1 with | cons b h1 => cases a; cases h1; cases b with | tup hb hx => exact ⟨_, _, _, rfl, hs, hb, exs_all hx⟩
end
section
variable {P : Program} {w : World} {K : PySem.W.Frag} {mg : Str → Option Value} {base : Heap} {f : Addr} {fd : FuncData}
abbrev nLW : List Str := ["_law_expression", "_law_names", "_law_kind", "_law_width", "_law_words", "_law_word_here", "_law_part", "_law_more", "_law_low", "_law_wide", "_law_other"]
theorem scLW : FnScope nLW ["_law_expression", "_law_names"] (defScope sLWord) := ⟨rfl, rfl, rfl, by decide +kernel, rfl, by decide +kernel, by decide +kernel⟩
theorem step_lw (F : FnP K "_law_word" sLWord f fd) (T : Tx mg) (h : Nat) (spI : Sp) (hI : ∀ e, h = e + 1 → spI = spLW K (Mx.MGet P w) e)
    {fBW : Addr} {dBW : FuncData}
    (GBW : FnOk P w K mg base CX0 1 fBW dBW ["_law_kind", "_law_width", "_law_one", "_law_two"] (spBW)) (gBW : mg "_law_bitwise" = some (.ref fBW)) (kBW : PySem.W.keepIn K (.ref fBW) = true) (bBW : Binds K dBW ["_law_kind", "_law_width", "_law_one", "_law_two"] [])
    {fLW : Addr} {dLW : FuncData} (GLW : FnOk P w K mg base CX0 (h + 1) fLW dLW ["_law_expression", "_law_names"] spI) (gLW : mg "_law_word" = some (.ref fLW)) (kLW : PySem.W.keepIn K (.ref fLW) = true) (bLW : Binds K dLW ["_law_expression", "_law_names"] [])
    : FnOk P w K mg base CX0 (h + 1 + 1) f fd ["_law_expression", "_law_names"] (spLW K (Mx.MGet P w) h) := by
  refine F.ok scLW (fun vs H Q E h => ?_) (fun cdv A outer s H vs Q E hr h => ?_)
  · obtain ⟨Γ, U, nd, v, e, wd, rfl, _⟩ := h
    rfl
  · obtain ⟨Γ, U, nd, v, e, wd, rfl, ea, wt, g, hh, na, q⟩ := h
    have hu := hu_of hr
    refine ⟨_, PSs.nox (pss_cons (ps_set (i := 2) scLW.nd rfl (Or.inl rfl) (pe_ix (r := L2.rIxT K) (by exact ix_tup) (pv 0) pe_int (fun _ _ => rfl)))
      (pss_cons (ps_if (pt_cmpR op_eq (pv 2) pe_str (nomark _))
        (pss_one (ps_ret (pe_tup (pa_cons (pe_ix (r := L2.rIxT K) (by exact ix_tup) (pv 0) pe_int (fun _ _ => rfl)) (pa_cons (pe_ix (r := L2.rIxT K) (by exact ix_tup) (pv 0) pe_int (fun _ _ => rfl)) pa_nil)))))
        pss_nil)
      (pss_cons (ps_if (pt_cmpR op_eq (pv 2) pe_str (nomark _))
        (pss_one (ps_ret (Mx.pe_mget hu (pv 1) (pe_ix (r := L2.rIxT K) (by exact ix_tup) (pv 0) pe_int (fun _ _ => rfl)) (fun _ _ => rfl))))
        pss_nil)
      (pss_cons (ps_if (pt_cmpR op_eq (pv 2) pe_str (nomark _))
        (pss_one (ps_ret (Mx.pe_mget hu (pv 1) (pe_tup (pa_cons (pe_ix (r := L2.rIxT K) (by exact ix_tup) (pv 0) pe_int (fun _ _ => rfl)) (pa_cons (pe_ix (r := L2.rIxT K) (by exact ix_tup) (pv 0) pe_int (fun _ _ => rfl)) pa_nil))) (fun _ _ => rfl))))
        pss_nil)
      (pss_cons (ps_if (pt_cmpR op_eq (pv 2) pe_str (nomark _))
        (pss_cons (ps_asg (Mx.pe_mget hu (pv 1) (pe_ix (r := L2.rIxT K) (by exact ix_tup) (pv 0) pe_int (fun _ _ => rfl)) (fun _ _ => rfl)) (pg_tup rfl (pgs_cons (pg_name (i := 3) scLW.nd rfl (Or.inl rfl)) (pgs_cons (pg_name (i := 4) scLW.nd rfl (Or.inl rfl)) pgs_nil))))
        (pss_one (ps_ret (pe_tup (pa_cons (pv 3) (pa_cons (pe_ix (r := L2.rIxT K) (by exact ix_tup) (pv 4) (pe_ix (r := L2.rIxT K) (by exact ix_tup) (pe_call GLW (hr.mono (by omega)) (by rfl) gLW kLW bLW .nil pass0 (pa_cons (pe_ix (r := L2.rIxT K) (by exact ix_tup) (pv 0) pe_int (fun _ _ => rfl)) (pa_cons (pv 1) pa_nil))) pe_int (fun _ _ => rfl)) (fun _ _ => rfl)) pa_nil))))))
        pss_nil)
      (pss_cons (ps_if (pt_cmpR op_eq (pv 2) pe_str (nomark _))
        (pss_cons (ps_asg (pe_tup (pa_cons pe_int (pa_cons pe_int pa_nil))) (pg_tup rfl (pgs_cons (pg_name (i := 3) scLW.nd rfl (Or.inl rfl)) (pgs_cons (pg_name (i := 5) scLW.nd rfl (Or.inl rfl)) pgs_nil))))
        (pss_cons (ps_for PassesOwn.never rfl (pi_tup (pe_ix (r := L2.rIxT K) (by exact ix_tup) (pv 0) pe_int (fun _ _ => rfl))) (pg_name (i := 6) scLW.nd rfl (Or.inl rfl))
          (pss_cons (ps_asg (pe_call GLW (hr.mono (by omega)) (by rfl) gLW kLW bLW .nil pass0 (pa_cons (pv 6) (pa_cons (pv 1) pa_nil))) (pg_tup rfl (pgs_cons (pg_name (i := 7) scLW.nd rfl (Or.inl rfl)) (pgs_cons (pg_name (i := 8) scLW.nd rfl (Or.inl rfl)) pgs_nil))))
          (pss_one (ps_par (i := 3) (j := 5) rfl scLW.nd rfl rfl (by decide) rfl rfl (pa_cons (pe_op op_add (pv 3) (pv 7)) (pa_cons (pe_op op_add (pe_op op_mulX (pv 5) (pe_op op_oneShl pe_int (pv 7))) (pv 8)) pa_nil)) (by rfl)))))
        (pss_one (ps_ret (pe_tup (pa_cons (pv 3) (pa_cons (pv 5) pa_nil)))))))
        pss_nil)
      (pss_cons (ps_if (pt_cmpR op_eq (pv 2) pe_str (nomark _))
        (pss_one (ps_ret (pe_call GLW (hr.mono (by omega)) (by rfl) gLW kLW bLW .nil pass0 (pa_cons (pe_ix (r := L2.rIxT K) (by exact ix_tup) (pv 0) (pe_ifExp (pt_cmpR op_eq (pe_ix (r := L2.rIxT K) (by exact ix_tup) (pe_call GLW (hr.mono (by omega)) (by rfl) gLW kLW bLW .nil pass0 (pa_cons (pe_ix (r := L2.rIxT K) (by exact ix_tup) (pv 0) pe_int (fun _ _ => rfl)) (pa_cons (pv 1) pa_nil))) pe_int (fun _ _ => rfl)) pe_int (nomark _)) pe_int pe_int) (fun _ _ => rfl)) (pa_cons (pv 1) pa_nil)))))
        pss_nil)
      (pss_cons (ps_asg (pe_call GLW (hr.mono (by omega)) (by rfl) gLW kLW bLW .nil pass0 (pa_cons (pe_ix (r := L2.rIxT K) (by exact ix_tup) (pv 0) pe_int (fun _ _ => rfl)) (pa_cons (pv 1) pa_nil))) (pg_tup rfl (pgs_cons (pg_name (i := 3) scLW.nd rfl (Or.inl rfl)) (pgs_cons (pg_name (i := 5) scLW.nd rfl (Or.inl rfl)) pgs_nil))))
      (pss_cons (ps_if (pt_cmpR op_eq (pv 2) pe_str (nomark _))
        (pss_cons (ps_set (i := 9) scLW.nd rfl (Or.inl rfl) (pe_op op_add (pe_op op_sub (pe_ix (r := L2.rIxT K) (by exact ix_tup) (pv 0) pe_int (fun _ _ => rfl)) (pe_ix (r := L2.rIxT K) (by exact ix_tup) (pv 0) pe_int (fun _ _ => rfl))) pe_int))
        (pss_one (ps_ret (pe_tup (pa_cons (pv 9) (pa_cons (pe_op op_mod (pe_callTy call_int1 (by rfl) T.int (by decide +kernel) (pa_cons (pe_op op_fdivW (pv 5) (pe_op op_oneShl pe_int (pe_ix (r := L2.rIxT K) (by exact ix_tup) (pv 0) pe_int (fun _ _ => rfl)))) pa_nil)) (pe_op op_oneShl pe_int (pv 9))) pa_nil))))))
        pss_nil)
      (pss_cons (ps_if (pt_cmpR op_eq (pv 2) pe_str (nomark _))
        (pss_one (ps_ret (pe_tup (pa_cons (pv 3) (pa_cons (pe_op op_mod (pe_callTy call_int1 (by rfl) T.int (by decide +kernel) (pa_cons (pe_op op_mulX (pv 5) (pe_op op_oneShl pe_int (pe_ix (r := L2.rIxT K) (by exact ix_tup) (pv 0) pe_int (fun _ _ => rfl)))) pa_nil)) (pe_op op_oneShl pe_int (pv 3))) pa_nil)))))
        pss_nil)
      (pss_cons (ps_if (pt_cmpR op_eq (pv 2) pe_str (nomark _))
        (pss_one (ps_ret (pe_tup (pa_cons (pv 3) (pa_cons (pe_op op_fdivW (pv 5) (pe_op op_oneShl pe_int (pe_ix (r := L2.rIxT K) (by exact ix_tup) (pv 0) pe_int (fun _ _ => rfl)))) pa_nil)))))
        pss_nil)
      (pss_cons (ps_if (pt_cmpR op_eq (pv 2) pe_str (nomark _))
        (pss_one (ps_ret (pe_tup (pa_cons (pv 3) (pa_cons (pe_op op_sub (pe_op op_sub (pe_op op_oneShl pe_int (pv 3)) pe_int) (pv 5)) pa_nil)))))
        pss_nil)
      (pss_cons (ps_if (pt_cmpR op_eq (pv 2) pe_str (nomark _))
        (pss_one (ps_ret (pe_tup (pa_cons (pv 3) (pa_cons (pe_op op_mod (pe_callTy call_int1 (by rfl) T.int (by decide +kernel) (pa_cons (pe_op op_sub (pe_op op_oneShl pe_int (pv 3)) (pv 5)) pa_nil)) (pe_op op_oneShl pe_int (pv 3))) pa_nil)))))
        pss_nil)
      (pss_cons (ps_set (i := 10) scLW.nd rfl (Or.inl rfl) (pe_ix (r := L2.rIxT K) (by exact ix_tup) (pe_call GLW (hr.mono (by omega)) (by rfl) gLW kLW bLW .nil pass0 (pa_cons (pe_ix (r := L2.rIxT K) (by exact ix_tup) (pv 0) pe_int (fun _ _ => rfl)) (pa_cons (pv 1) pa_nil))) pe_int (fun _ _ => rfl)))
      (pss_cons (ps_if (pt_cmpR op_eq (pv 2) pe_str (nomark _))
        (pss_one (ps_ret (pe_tup (pa_cons pe_int (pa_cons (pe_callTy call_int1 (by rfl) T.int (by decide +kernel) (pa_cons (pe_cmpR op_eq (pv 5) (pv 10) (nomark _)) pa_nil)) pa_nil)))))
        pss_nil)
      (pss_cons (ps_if (pt_cmpR op_eq (pv 2) pe_str (nomark _))
        (pss_one (ps_ret (pe_tup (pa_cons pe_int (pa_cons (pe_callTy call_int1 (by rfl) T.int (by decide +kernel) (pa_cons (pe_cmpR op_lt (pv 5) (pv 10) (nomark _)) pa_nil)) pa_nil)))))
        pss_nil)
      (pss_cons (ps_if (pt_cmpR op_eq (pv 2) pe_str (nomark _))
        (pss_one (ps_ret (pe_tup (pa_cons (pv 3) (pa_cons (pe_op op_mod (pe_callTy call_int1 (by rfl) T.int (by decide +kernel) (pa_cons (pe_op op_add (pv 5) (pv 10)) pa_nil)) (pe_op op_oneShl pe_int (pv 3))) pa_nil)))))
        pss_nil)
      (pss_cons (ps_if (pt_cmpR op_eq (pv 2) pe_str (nomark _))
        (pss_one (ps_ret (pe_tup (pa_cons (pv 3) (pa_cons (pe_op op_mod (pe_callTy call_int1 (by rfl) T.int (by decide +kernel) (pa_cons (pe_op op_mulX (pv 5) (pv 10)) pa_nil)) (pe_op op_oneShl pe_int (pv 3))) pa_nil)))))
        pss_nil)
      (pss_one (ps_ret (pe_tup (pa_cons (pv 3) (pa_cons (pe_call GBW (hr.mono (by omega)) (by rfl) gBW kBW bBW .nil pass0 (pa_cons (pv 2) (pa_cons (pv 3) (pa_cons (pv 5) (pa_cons (pv 10) pa_nil))))) pa_nil))))))))))))))))))))))), ?_⟩
    cases wt with
    | num u n h1 h2 h3 =>
      obtain ⟨t, rfl, hs⟩ := num_at ea
      refine ⟨_, rfl, t, _, 0, _, rfl, rfl, hs, at_of (j := 0) rfl rfl, ?_⟩
      refine eqsT (i := 2) rfl (iteT ?_)
      refine ⟨_, rfl, t, _, 1, _, rfl, rfl, hs, at_of (j := 1) rfl rfl, _, rfl, t, _, 2, _, rfl, rfl, hs, at_of (j := 2) rfl rfl, len2, fun z nz => ?_⟩
      rw [den_lf] at q
      exact put q nz rfl rfl
    | nam n u h1 h2 =>
      obtain ⟨t, rfl, hs⟩ := nam_at ea
      refine ⟨_, rfl, t, _, 0, _, rfl, rfl, hs, at_of (j := 0) rfl rfl, ?_⟩
      refine eqsF (i := 2) rfl (by decide) (iteF ?_)
      refine eqsT (i := 2) rfl (iteT ?_)
      obtain ⟨v, hv, hg⟩ := na.nm n wd h2
      rw [den_lf] at q
      refine ⟨_, rfl, _, rfl, t, _, 1, _, rfl, rfl, hs, at_of (j := 1) rfl rfl, nd, v, rfl, hg H (Ext1.refl nd H), q H v (Same.refl H) ?_⟩
      show WAt K H v ((Γ.nm n).getD 0, U.nm n)
      rw [h2]
      exact hv
    | port u n wd h1 h2 =>
      obtain ⟨t, rfl, hs⟩ := port_at ea
      refine ⟨_, rfl, t, _, 0, _, rfl, rfl, hs, at_of (j := 0) rfl rfl, ?_⟩
      refine eqsF (i := 2) rfl (by decide) (iteF ?_)
      refine eqsF (i := 2) rfl (by decide) (iteF ?_)
      refine eqsT (i := 2) rfl (iteT ?_)
      obtain ⟨v, hv, hg⟩ := na.pt u n wd h2
      rw [den_lf] at q
      refine ⟨_, rfl, _, rfl, t, _, 1, _, rfl, rfl, hs, at_of (j := 1) rfl rfl, _, rfl, t, _, 2, _, rfl, rfl, hs, at_of (j := 2) rfl rfl, len2, fun z nz => ?_⟩
      have sz := same_new (u := .tup [.str u, .str n]) nz
      refine ⟨nd, v, rfl, hg _ z (Ext1.of sz) upd_same, q _ v sz ?_⟩
      show WAt K _ v ((Γ.pt u n).getD 0, U.pt u n)
      rw [h2]
      exact hv.firm (Firm.of sz)
    | read m p wd b h1 h2 wp =>
      obtain ⟨t, v1, rfl, hs, x1⟩ := read_at ea
      obtain ⟨e, rfl, he⟩ := h_succ hh (p := p) (by simp)
      have hI := hI e rfl
      subst hI
      have rc : ∀ (H1 : Hp) (v1 : V) (p : Ex) (w1 : Nat) (Q1 : VK), Same H H1 → ExAt K H1 v1 p → Wt Γ p w1 → exH p ≤ e → (∀ H' r, Same H1 H' → WAt K H' r (den Γ U p) → Q1 r H') → spLW K (Mx.MGet P w) e [v1, .ref nd] H1 Q1 E0 :=
        fun H1 v1 p w1 Q1 s x wp hp q1 => ⟨Γ, U, nd, v1, p, w1, rfl, x, wp, g, hp, na.ext (Ext1.of s), q1⟩
      refine ⟨_, rfl, t, _, 0, _, rfl, rfl, hs, at_of (j := 0) rfl rfl, ?_⟩
      refine eqsF (i := 2) rfl (by decide) (iteF ?_)
      refine eqsF (i := 2) rfl (by decide) (iteF ?_)
      refine eqsF (i := 2) rfl (by decide) (iteF ?_)
      refine eqsT (i := 2) rfl (iteT ?_)
      obtain ⟨tr, row, htr, hrow, hg⟩ := na.mm m wd b h2
      refine ⟨_, rfl, _, rfl, t, _, 1, _, rfl, rfl, hs, at_of (j := 1) rfl rfl, nd, .ref tr, rfl, hg H (Ext1.refl nd H), tr, _, rfl, htr, rfl, _, _, rfl, _, _, rfl, rfl, ?_⟩
      refine ⟨_, rfl, _, rfl, _, rfl, t, _, 2, _, rfl, rfl, hs, at_of (j := 2) rfl rfl, _, rfl, rc H v1 p b _ (Same.refl H) x1 wp (by omega) fun H4 r4 s4 x4 => ?_⟩
      obtain ⟨t4, rfl, ht4⟩ := x4
      obtain ⟨d1, d2⟩ := wt_den g wp
      refine ⟨t4, _, 1, _, rfl, rfl, ht4, at_of (j := 1) rfl rfl, row, _, _, _, rfl, rfl, seqT_same s4 hrow, at_of (j := (den Γ U p).2) rfl (row_get d2), len2, fun z nz => ?_⟩
      rw [den_op] at q
      refine put (fun H' r s => q H' r (s4.trans s)) nz ?_ rfl
      show ((((Γ.mm m).getD (0, 0)).1 : Nat) : Int) = _
      rw [h2]
      rfl
    | un k p wd hk h1 wp =>
      obtain ⟨t, v1, rfl, hs, x1⟩ := un_at ea
      obtain ⟨e, rfl, he⟩ := h_succ hh (p := p) (by simp)
      have hI := hI e rfl
      subst hI
      have rc : ∀ (H1 : Hp) (v1 : V) (p : Ex) (w1 : Nat) (Q1 : VK), Same H H1 → ExAt K H1 v1 p → Wt Γ p w1 → exH p ≤ e → (∀ H' r, Same H1 H' → WAt K H' r (den Γ U p) → Q1 r H') → spLW K (Mx.MGet P w) e [v1, .ref nd] H1 Q1 E0 :=
        fun H1 v1 p w1 Q1 s x wp hp q1 => ⟨Γ, U, nd, v1, p, w1, rfl, x, wp, g, hp, na.ext (Ext1.of s), q1⟩
      rw [den_op] at q
      obtain ⟨d1, d2⟩ := wt_den g wp
      rw [List.map_cons, List.map_nil] at q
      have pw := pow_cast (den Γ U p).1
      rw [← d1] at h1 d2
      have pp := Nat.two_pow_pos (den Γ U p).1
      rcases hk with rfl | rfl
      · refine ⟨_, rfl, t, _, 0, _, rfl, rfl, hs, at_of (j := 0) rfl rfl, ?_⟩
        refine eqsF (i := 2) rfl (by decide) (iteF ?_)
        refine eqsF (i := 2) rfl (by decide) (iteF ?_)
        refine eqsF (i := 2) rfl (by decide) (iteF ?_)
        refine eqsF (i := 2) rfl (by decide) (iteF ?_)
        refine eqsF (i := 2) rfl (by decide) (iteF ?_)
        refine eqsF (i := 2) rfl (by decide) (iteF ?_)
        refine ⟨_, rfl, t, _, 1, _, rfl, rfl, hs, at_of (j := 1) rfl rfl, _, rfl, rc H v1 p _ _ (Same.refl H) x1 wp (by omega) fun H4 r4 s4 x4 => ?_⟩
        obtain ⟨t4, rfl, ht4⟩ := x4
        refine ⟨t4, _, rfl, ht4, rfl, _, _, rfl, _, _, rfl, rfl, ?_⟩
        refine eqsF (i := 2) rfl (by decide) (iteF ?_)
        refine eqsF (i := 2) rfl (by decide) (iteF ?_)
        refine eqsF (i := 2) rfl (by decide) (iteF ?_)
        refine eqsT (i := 2) rfl (iteT ?_)
        refine ⟨_, rfl, _, rfl, _, rfl, rfl, by show (den Γ U p).1 ≤ 134217727; omega, _, _, rfl, rfl, _, rfl, _, _, rfl, rfl, len2, fun z nz => put (fun H' r s => q H' r (s4.trans s)) nz rfl ?_⟩
        show ((2 ^ (den Γ U p).1 - 1 - (den Γ U p).2 : Nat) : Int) = 2 ^ (den Γ U p).1 - 1 - ((den Γ U p).2 : Int)
        omega
      · refine ⟨_, rfl, t, _, 0, _, rfl, rfl, hs, at_of (j := 0) rfl rfl, ?_⟩
        refine eqsF (i := 2) rfl (by decide) (iteF ?_)
        refine eqsF (i := 2) rfl (by decide) (iteF ?_)
        refine eqsF (i := 2) rfl (by decide) (iteF ?_)
        refine eqsF (i := 2) rfl (by decide) (iteF ?_)
        refine eqsF (i := 2) rfl (by decide) (iteF ?_)
        refine eqsF (i := 2) rfl (by decide) (iteF ?_)
        refine ⟨_, rfl, t, _, 1, _, rfl, rfl, hs, at_of (j := 1) rfl rfl, _, rfl, rc H v1 p _ _ (Same.refl H) x1 wp (by omega) fun H4 r4 s4 x4 => ?_⟩
        obtain ⟨t4, rfl, ht4⟩ := x4
        refine ⟨t4, _, rfl, ht4, rfl, _, _, rfl, _, _, rfl, rfl, ?_⟩
        refine eqsF (i := 2) rfl (by decide) (iteF ?_)
        refine eqsF (i := 2) rfl (by decide) (iteF ?_)
        refine eqsF (i := 2) rfl (by decide) (iteF ?_)
        refine eqsF (i := 2) rfl (by decide) (iteF ?_)
        refine eqsT (i := 2) rfl (iteT ?_)
        refine ⟨_, rfl, _, rfl, _, rfl, rfl, by show (den Γ U p).1 ≤ 134217727; omega, _, rfl, _, _, rfl, rfl, .inl ⟨_, rfl, _, rfl, _, rfl, rfl, by show (den Γ U p).1 ≤ 134217727; omega, _, _, rfl, rfl, Int.pow_pos (by decide), len2, fun z nz => put (fun H' r s => q H' r (s4.trans s)) nz rfl ?_⟩⟩
        show (((2 ^ (den Γ U p).1 - (den Γ U p).2) % 2 ^ (den Γ U p).1 : Nat) : Int) = (2 ^ (den Γ U p).1 - ((den Γ U p).2 : Int)) % 2 ^ (den Γ U p).1
        rw [castM, Int.ofNat_sub (by omega), pw]
    | sh k n p wd hk hn h1 wp =>
      obtain ⟨t, v1, rfl, hs, x1⟩ := sh_at ea
      obtain ⟨e, rfl, he⟩ := h_succ hh (p := p) (by simp)
      have hI := hI e rfl
      subst hI
      have rc : ∀ (H1 : Hp) (v1 : V) (p : Ex) (w1 : Nat) (Q1 : VK), Same H H1 → ExAt K H1 v1 p → Wt Γ p w1 → exH p ≤ e → (∀ H' r, Same H1 H' → WAt K H' r (den Γ U p) → Q1 r H') → spLW K (Mx.MGet P w) e [v1, .ref nd] H1 Q1 E0 :=
        fun H1 v1 p w1 Q1 s x wp hp q1 => ⟨Γ, U, nd, v1, p, w1, rfl, x, wp, g, hp, na.ext (Ext1.of s), q1⟩
      rw [den_op] at q
      obtain ⟨d1, d2⟩ := wt_den g wp
      rw [List.map_cons, List.map_nil] at q
      have pw := pow_cast (den Γ U p).1
      rw [← d1] at h1 d2
      have pp := Nat.two_pow_pos (den Γ U p).1
      rcases hk with rfl | rfl
      · refine ⟨_, rfl, t, _, 0, _, rfl, rfl, hs, at_of (j := 0) rfl rfl, ?_⟩
        refine eqsF (i := 2) rfl (by decide) (iteF ?_)
        refine eqsF (i := 2) rfl (by decide) (iteF ?_)
        refine eqsF (i := 2) rfl (by decide) (iteF ?_)
        refine eqsF (i := 2) rfl (by decide) (iteF ?_)
        refine eqsF (i := 2) rfl (by decide) (iteF ?_)
        refine eqsF (i := 2) rfl (by decide) (iteF ?_)
        refine ⟨_, rfl, t, _, 1, _, rfl, rfl, hs, at_of (j := 1) rfl rfl, _, rfl, rc H v1 p _ _ (Same.refl H) x1 wp (by omega) fun H4 r4 s4 x4 => ?_⟩
        obtain ⟨t4, rfl, ht4⟩ := x4
        refine ⟨t4, _, rfl, ht4, rfl, _, _, rfl, _, _, rfl, rfl, ?_⟩
        refine eqsF (i := 2) rfl (by decide) (iteF ?_)
        refine eqsT (i := 2) rfl (iteT ?_)
        refine ⟨_, rfl, _, rfl, _, rfl, t, _, 2, _, rfl, rfl, (seqT_same s4 hs), at_of (j := 2) rfl rfl, n, rfl, rfl, by omega, _, _, rfl, rfl, mulx_ok (a := 4097) (b := 4097) (by rw [Int.natAbs_natCast]; exact lt_pow (Nat.lt_of_lt_of_le d2 (Nat.pow_le_pow_right (by decide) h1))) (by rw [← pow_cast, Int.natAbs_natCast]; exact Nat.pow_lt_pow_right (by decide) (by omega)) (by decide), .inl ⟨_, rfl, _, rfl, _, rfl, rfl, by show (den Γ U p).1 ≤ 134217727; omega, _, _, rfl, rfl, Int.pow_pos (by decide), len2, fun z nz => put (fun H' r s => q H' r (s4.trans s)) nz rfl ?_⟩⟩
        show (((den Γ U p).2 * 2 ^ (n : Int).toNat % 2 ^ (den Γ U p).1 : Nat) : Int) = (((den Γ U p).2 : Int) * 2 ^ n) % 2 ^ (den Γ U p).1
        rw [castM, Int.natCast_mul, Int.toNat_natCast, pow_cast]
      · refine ⟨_, rfl, t, _, 0, _, rfl, rfl, hs, at_of (j := 0) rfl rfl, ?_⟩
        refine eqsF (i := 2) rfl (by decide) (iteF ?_)
        refine eqsF (i := 2) rfl (by decide) (iteF ?_)
        refine eqsF (i := 2) rfl (by decide) (iteF ?_)
        refine eqsF (i := 2) rfl (by decide) (iteF ?_)
        refine eqsF (i := 2) rfl (by decide) (iteF ?_)
        refine eqsF (i := 2) rfl (by decide) (iteF ?_)
        refine ⟨_, rfl, t, _, 1, _, rfl, rfl, hs, at_of (j := 1) rfl rfl, _, rfl, rc H v1 p _ _ (Same.refl H) x1 wp (by omega) fun H4 r4 s4 x4 => ?_⟩
        obtain ⟨t4, rfl, ht4⟩ := x4
        refine ⟨t4, _, rfl, ht4, rfl, _, _, rfl, _, _, rfl, rfl, ?_⟩
        refine eqsF (i := 2) rfl (by decide) (iteF ?_)
        refine eqsF (i := 2) rfl (by decide) (iteF ?_)
        refine eqsT (i := 2) rfl (iteT ?_)
        refine ⟨_, rfl, _, rfl, _, rfl, t, _, 2, _, rfl, rfl, (seqT_same s4 hs), at_of (j := 2) rfl rfl, n, rfl, rfl, by omega, _, _, rfl, rfl, div_ok n (by omega), len2, fun z nz => put (fun H' r s => q H' r (s4.trans s)) nz rfl ?_⟩
        show (((den Γ U p).2 / 2 ^ (n : Int).toNat : Nat) : Int) = ((den Γ U p).2 : Int) / 2 ^ n
        rw [Int.toNat_natCast, Int.natCast_ediv, pow_cast]
    | slc hi lo p u l1 l2 l3 wp =>
      obtain ⟨t, v1, rfl, hs, x1⟩ := slc_at ea
      obtain ⟨e, rfl, he⟩ := h_succ hh (p := p) (by simp)
      have hI := hI e rfl
      subst hI
      have rc : ∀ (H1 : Hp) (v1 : V) (p : Ex) (w1 : Nat) (Q1 : VK), Same H H1 → ExAt K H1 v1 p → Wt Γ p w1 → exH p ≤ e → (∀ H' r, Same H1 H' → WAt K H' r (den Γ U p) → Q1 r H') → spLW K (Mx.MGet P w) e [v1, .ref nd] H1 Q1 E0 :=
        fun H1 v1 p w1 Q1 s x wp hp q1 => ⟨Γ, U, nd, v1, p, w1, rfl, x, wp, g, hp, na.ext (Ext1.of s), q1⟩
      rw [den_op] at q
      rw [List.map_cons, List.map_nil] at q
      refine ⟨_, rfl, t, _, 0, _, rfl, rfl, hs, at_of (j := 0) rfl rfl, ?_⟩
      refine eqsF (i := 2) rfl (by decide) (iteF ?_)
      refine eqsF (i := 2) rfl (by decide) (iteF ?_)
      refine eqsF (i := 2) rfl (by decide) (iteF ?_)
      refine eqsF (i := 2) rfl (by decide) (iteF ?_)
      refine eqsF (i := 2) rfl (by decide) (iteF ?_)
      refine eqsF (i := 2) rfl (by decide) (iteF ?_)
      refine ⟨_, rfl, t, _, 1, _, rfl, rfl, hs, at_of (j := 1) rfl rfl, _, rfl, rc H v1 p _ _ (Same.refl H) x1 wp (by omega) fun H4 r4 s4 x4 => ?_⟩
      obtain ⟨t4, rfl, ht4⟩ := x4
      refine ⟨t4, _, rfl, ht4, rfl, _, _, rfl, _, _, rfl, rfl, ?_⟩
      refine eqsT (i := 2) rfl (iteT ?_)
      refine ⟨_, rfl, t, _, 2, _, rfl, rfl, (seqT_same s4 hs), at_of (j := 2) rfl rfl, _, rfl, t, _, 3, _, rfl, rfl, (seqT_same s4 hs), at_of (j := 3) rfl rfl, _, _, rfl, rfl, _, _, rfl, rfl, ?_⟩
      have ew : (hi : Int) - (lo : Int) + 1 = ((hi - lo + 1 : Nat) : Int) := by omega
      refine ⟨_, rfl, _, rfl, _, rfl, t, _, 3, _, rfl, rfl, (seqT_same s4 hs), at_of (j := 3) rfl rfl, lo, rfl, rfl, by omega, _, _, rfl, rfl, div_ok lo (by omega), .inl ⟨_, rfl, _, rfl, hi - lo + 1, rfl, congrArg V.int ew, by omega, _, _, rfl, rfl, Int.pow_pos (by decide), len2, fun z nz => put (fun H' r s => q H' r (s4.trans s)) nz ?_ ?_⟩⟩
      · show (((hi : Int).toNat - (lo : Int).toNat + 1 : Nat) : Int) = (hi : Int) - (lo : Int) + 1
        rw [Int.toNat_natCast, Int.toNat_natCast, ew]
      · show (((den Γ U p).2 / 2 ^ (lo : Int).toNat % 2 ^ ((hi : Int).toNat - (lo : Int).toNat + 1) : Nat) : Int) = (((den Γ U p).2 : Int) / 2 ^ lo) % 2 ^ (hi - lo + 1)
        rw [Int.toNat_natCast, Int.toNat_natCast, castM, Int.natCast_ediv, pow_cast]
    | bin k p p2 wd hk h1 wp wp2 =>
      obtain ⟨t, v1, v2, rfl, hs, x1, x2⟩ := bin_at ea
      obtain ⟨e, rfl, he⟩ := h_succ hh (p := p) (by simp)
      obtain ⟨e', ee, he2⟩ := h_succ hh (p := p2) (by simp)
      obtain rfl : e' = e := by omega
      have hI := hI e' rfl
      subst hI
      have rc : ∀ (H1 : Hp) (v1 : V) (p : Ex) (w1 : Nat) (Q1 : VK), Same H H1 → ExAt K H1 v1 p → Wt Γ p w1 → exH p ≤ e' → (∀ H' r, Same H1 H' → WAt K H' r (den Γ U p) → Q1 r H') → spLW K (Mx.MGet P w) e' [v1, .ref nd] H1 Q1 E0 :=
        fun H1 v1 p w1 Q1 s x wp hp q1 => ⟨Γ, U, nd, v1, p, w1, rfl, x, wp, g, hp, na.ext (Ext1.of s), q1⟩
      rw [den_op] at q
      obtain ⟨d1, d2⟩ := wt_den g wp
      obtain ⟨d3, d4⟩ := wt_den g wp2
      rw [List.map_cons, List.map_cons, List.map_nil] at q
      have hw1 : (den Γ U p).1 ≤ 4096 := by omega
      have d3 : (den Γ U p2).1 = (den Γ U p).1 := d3.trans d1.symm
      rw [← d1] at d2 d4
      rcases hk with rfl | rfl | rfl | rfl | rfl
      · refine ⟨_, rfl, t, _, 0, _, rfl, rfl, hs, at_of (j := 0) rfl rfl, ?_⟩
        refine eqsF (i := 2) rfl (by decide) (iteF ?_)
        refine eqsF (i := 2) rfl (by decide) (iteF ?_)
        refine eqsF (i := 2) rfl (by decide) (iteF ?_)
        refine eqsF (i := 2) rfl (by decide) (iteF ?_)
        refine eqsF (i := 2) rfl (by decide) (iteF ?_)
        refine eqsF (i := 2) rfl (by decide) (iteF ?_)
        refine ⟨_, rfl, t, _, 1, _, rfl, rfl, hs, at_of (j := 1) rfl rfl, _, rfl, rc H v1 p _ _ (Same.refl H) x1 wp (by omega) fun H4 r4 s4 x4 => ?_⟩
        obtain ⟨t4, rfl, ht4⟩ := x4
        refine ⟨t4, _, rfl, ht4, rfl, _, _, rfl, _, _, rfl, rfl, ?_⟩
        refine eqsF (i := 2) rfl (by decide) (iteF ?_)
        refine eqsF (i := 2) rfl (by decide) (iteF ?_)
        refine eqsF (i := 2) rfl (by decide) (iteF ?_)
        refine eqsF (i := 2) rfl (by decide) (iteF ?_)
        refine eqsF (i := 2) rfl (by decide) (iteF ?_)
        refine ⟨_, rfl, t, _, 2, _, rfl, rfl, (seqT_same s4 hs), at_of (j := 2) rfl rfl, _, rfl, rc H4 v2 p2 _ _ s4 (x2.firm (Firm.of s4)) wp2 (by omega) fun H5 r5 s5 x5 => ?_⟩
        obtain ⟨t5, rfl, ht5⟩ := x5
        refine ⟨t5, _, 1, _, rfl, rfl, ht5, at_of (j := 1) rfl rfl, ?_⟩
        refine eqsF (i := 2) rfl (by decide) (iteF ?_)
        refine eqsF (i := 2) rfl (by decide) (iteF ?_)
        refine eqsF (i := 2) rfl (by decide) (iteF ?_)
        refine eqsF (i := 2) rfl (by decide) (iteF ?_)
        refine ⟨_, rfl, _, rfl, _, rfl, _, rfl, _, rfl, _, (den Γ U p).1, (den Γ U p).2, (den Γ U p2).2, rfl, hw1, d2, d4, len2, fun z nz => put (fun H' r s => q H' r (s4.trans (s5.trans s))) nz rfl ?_⟩
        rfl
      · refine ⟨_, rfl, t, _, 0, _, rfl, rfl, hs, at_of (j := 0) rfl rfl, ?_⟩
        refine eqsF (i := 2) rfl (by decide) (iteF ?_)
        refine eqsF (i := 2) rfl (by decide) (iteF ?_)
        refine eqsF (i := 2) rfl (by decide) (iteF ?_)
        refine eqsF (i := 2) rfl (by decide) (iteF ?_)
        refine eqsF (i := 2) rfl (by decide) (iteF ?_)
        refine eqsF (i := 2) rfl (by decide) (iteF ?_)
        refine ⟨_, rfl, t, _, 1, _, rfl, rfl, hs, at_of (j := 1) rfl rfl, _, rfl, rc H v1 p _ _ (Same.refl H) x1 wp (by omega) fun H4 r4 s4 x4 => ?_⟩
        obtain ⟨t4, rfl, ht4⟩ := x4
        refine ⟨t4, _, rfl, ht4, rfl, _, _, rfl, _, _, rfl, rfl, ?_⟩
        refine eqsF (i := 2) rfl (by decide) (iteF ?_)
        refine eqsF (i := 2) rfl (by decide) (iteF ?_)
        refine eqsF (i := 2) rfl (by decide) (iteF ?_)
        refine eqsF (i := 2) rfl (by decide) (iteF ?_)
        refine eqsF (i := 2) rfl (by decide) (iteF ?_)
        refine ⟨_, rfl, t, _, 2, _, rfl, rfl, (seqT_same s4 hs), at_of (j := 2) rfl rfl, _, rfl, rc H4 v2 p2 _ _ s4 (x2.firm (Firm.of s4)) wp2 (by omega) fun H5 r5 s5 x5 => ?_⟩
        obtain ⟨t5, rfl, ht5⟩ := x5
        refine ⟨t5, _, 1, _, rfl, rfl, ht5, at_of (j := 1) rfl rfl, ?_⟩
        refine eqsF (i := 2) rfl (by decide) (iteF ?_)
        refine eqsF (i := 2) rfl (by decide) (iteF ?_)
        refine eqsF (i := 2) rfl (by decide) (iteF ?_)
        refine eqsF (i := 2) rfl (by decide) (iteF ?_)
        refine ⟨_, rfl, _, rfl, _, rfl, _, rfl, _, rfl, _, (den Γ U p).1, (den Γ U p).2, (den Γ U p2).2, rfl, hw1, d2, d4, len2, fun z nz => put (fun H' r s => q H' r (s4.trans (s5.trans s))) nz rfl ?_⟩
        rfl
      · refine ⟨_, rfl, t, _, 0, _, rfl, rfl, hs, at_of (j := 0) rfl rfl, ?_⟩
        refine eqsF (i := 2) rfl (by decide) (iteF ?_)
        refine eqsF (i := 2) rfl (by decide) (iteF ?_)
        refine eqsF (i := 2) rfl (by decide) (iteF ?_)
        refine eqsF (i := 2) rfl (by decide) (iteF ?_)
        refine eqsF (i := 2) rfl (by decide) (iteF ?_)
        refine eqsF (i := 2) rfl (by decide) (iteF ?_)
        refine ⟨_, rfl, t, _, 1, _, rfl, rfl, hs, at_of (j := 1) rfl rfl, _, rfl, rc H v1 p _ _ (Same.refl H) x1 wp (by omega) fun H4 r4 s4 x4 => ?_⟩
        obtain ⟨t4, rfl, ht4⟩ := x4
        refine ⟨t4, _, rfl, ht4, rfl, _, _, rfl, _, _, rfl, rfl, ?_⟩
        refine eqsF (i := 2) rfl (by decide) (iteF ?_)
        refine eqsF (i := 2) rfl (by decide) (iteF ?_)
        refine eqsF (i := 2) rfl (by decide) (iteF ?_)
        refine eqsF (i := 2) rfl (by decide) (iteF ?_)
        refine eqsF (i := 2) rfl (by decide) (iteF ?_)
        refine ⟨_, rfl, t, _, 2, _, rfl, rfl, (seqT_same s4 hs), at_of (j := 2) rfl rfl, _, rfl, rc H4 v2 p2 _ _ s4 (x2.firm (Firm.of s4)) wp2 (by omega) fun H5 r5 s5 x5 => ?_⟩
        obtain ⟨t5, rfl, ht5⟩ := x5
        refine ⟨t5, _, 1, _, rfl, rfl, ht5, at_of (j := 1) rfl rfl, ?_⟩
        refine eqsF (i := 2) rfl (by decide) (iteF ?_)
        refine eqsF (i := 2) rfl (by decide) (iteF ?_)
        refine eqsF (i := 2) rfl (by decide) (iteF ?_)
        refine eqsF (i := 2) rfl (by decide) (iteF ?_)
        refine ⟨_, rfl, _, rfl, _, rfl, _, rfl, _, rfl, _, (den Γ U p).1, (den Γ U p).2, (den Γ U p2).2, rfl, hw1, d2, d4, len2, fun z nz => put (fun H' r s => q H' r (s4.trans (s5.trans s))) nz rfl ?_⟩
        rfl
      · refine ⟨_, rfl, t, _, 0, _, rfl, rfl, hs, at_of (j := 0) rfl rfl, ?_⟩
        refine eqsF (i := 2) rfl (by decide) (iteF ?_)
        refine eqsF (i := 2) rfl (by decide) (iteF ?_)
        refine eqsF (i := 2) rfl (by decide) (iteF ?_)
        refine eqsF (i := 2) rfl (by decide) (iteF ?_)
        refine eqsF (i := 2) rfl (by decide) (iteF ?_)
        refine eqsF (i := 2) rfl (by decide) (iteF ?_)
        refine ⟨_, rfl, t, _, 1, _, rfl, rfl, hs, at_of (j := 1) rfl rfl, _, rfl, rc H v1 p _ _ (Same.refl H) x1 wp (by omega) fun H4 r4 s4 x4 => ?_⟩
        obtain ⟨t4, rfl, ht4⟩ := x4
        refine ⟨t4, _, rfl, ht4, rfl, _, _, rfl, _, _, rfl, rfl, ?_⟩
        refine eqsF (i := 2) rfl (by decide) (iteF ?_)
        refine eqsF (i := 2) rfl (by decide) (iteF ?_)
        refine eqsF (i := 2) rfl (by decide) (iteF ?_)
        refine eqsF (i := 2) rfl (by decide) (iteF ?_)
        refine eqsF (i := 2) rfl (by decide) (iteF ?_)
        refine ⟨_, rfl, t, _, 2, _, rfl, rfl, (seqT_same s4 hs), at_of (j := 2) rfl rfl, _, rfl, rc H4 v2 p2 _ _ s4 (x2.firm (Firm.of s4)) wp2 (by omega) fun H5 r5 s5 x5 => ?_⟩
        obtain ⟨t5, rfl, ht5⟩ := x5
        refine ⟨t5, _, 1, _, rfl, rfl, ht5, at_of (j := 1) rfl rfl, ?_⟩
        refine eqsF (i := 2) rfl (by decide) (iteF ?_)
        refine eqsF (i := 2) rfl (by decide) (iteF ?_)
        refine eqsT (i := 2) rfl (iteT ?_)
        refine ⟨_, rfl, _, rfl, _, rfl, _, _, rfl, rfl, .inl ⟨_, rfl, _, rfl, _, rfl, rfl, by show (den Γ U p).1 ≤ 134217727; omega, _, _, rfl, rfl, Int.pow_pos (by decide), len2, fun z nz => put (fun H' r s => q H' r (s4.trans (s5.trans s))) nz rfl ?_⟩⟩
        show ((((den Γ U p).2 + (den Γ U p2).2) % 2 ^ (den Γ U p).1 : Nat) : Int) = (((den Γ U p).2 : Int) + ((den Γ U p2).2 : Int)) % 2 ^ (den Γ U p).1
        rw [castM, Int.natCast_add]
      · refine ⟨_, rfl, t, _, 0, _, rfl, rfl, hs, at_of (j := 0) rfl rfl, ?_⟩
        refine eqsF (i := 2) rfl (by decide) (iteF ?_)
        refine eqsF (i := 2) rfl (by decide) (iteF ?_)
        refine eqsF (i := 2) rfl (by decide) (iteF ?_)
        refine eqsF (i := 2) rfl (by decide) (iteF ?_)
        refine eqsF (i := 2) rfl (by decide) (iteF ?_)
        refine eqsF (i := 2) rfl (by decide) (iteF ?_)
        refine ⟨_, rfl, t, _, 1, _, rfl, rfl, hs, at_of (j := 1) rfl rfl, _, rfl, rc H v1 p _ _ (Same.refl H) x1 wp (by omega) fun H4 r4 s4 x4 => ?_⟩
        obtain ⟨t4, rfl, ht4⟩ := x4
        refine ⟨t4, _, rfl, ht4, rfl, _, _, rfl, _, _, rfl, rfl, ?_⟩
        refine eqsF (i := 2) rfl (by decide) (iteF ?_)
        refine eqsF (i := 2) rfl (by decide) (iteF ?_)
        refine eqsF (i := 2) rfl (by decide) (iteF ?_)
        refine eqsF (i := 2) rfl (by decide) (iteF ?_)
        refine eqsF (i := 2) rfl (by decide) (iteF ?_)
        refine ⟨_, rfl, t, _, 2, _, rfl, rfl, (seqT_same s4 hs), at_of (j := 2) rfl rfl, _, rfl, rc H4 v2 p2 _ _ s4 (x2.firm (Firm.of s4)) wp2 (by omega) fun H5 r5 s5 x5 => ?_⟩
        obtain ⟨t5, rfl, ht5⟩ := x5
        refine ⟨t5, _, 1, _, rfl, rfl, ht5, at_of (j := 1) rfl rfl, ?_⟩
        refine eqsF (i := 2) rfl (by decide) (iteF ?_)
        refine eqsF (i := 2) rfl (by decide) (iteF ?_)
        refine eqsF (i := 2) rfl (by decide) (iteF ?_)
        refine eqsT (i := 2) rfl (iteT ?_)
        refine ⟨_, rfl, _, rfl, _, rfl, _, _, rfl, rfl, mulx_ok (a := 4097) (b := 4097) (by rw [Int.natAbs_natCast]; exact lt_pow (Nat.lt_of_lt_of_le d2 (Nat.pow_le_pow_right (by decide) hw1))) (by rw [Int.natAbs_natCast]; exact lt_pow (Nat.lt_of_lt_of_le d4 (Nat.pow_le_pow_right (by decide) hw1))) (by decide), .inl ⟨_, rfl, _, rfl, _, rfl, rfl, by show (den Γ U p).1 ≤ 134217727; omega, _, _, rfl, rfl, Int.pow_pos (by decide), len2, fun z nz => put (fun H' r s => q H' r (s4.trans (s5.trans s))) nz rfl ?_⟩⟩
        show ((((den Γ U p).2 * (den Γ U p2).2) % 2 ^ (den Γ U p).1 : Nat) : Int) = (((den Γ U p).2 : Int) * ((den Γ U p2).2 : Int)) % 2 ^ (den Γ U p).1
        rw [castM, Int.natCast_mul]
    | cmp k p p2 u hk h1 wp wp2 =>
      obtain ⟨t, v1, v2, rfl, hs, x1, x2⟩ := bin_at ea
      obtain ⟨e, rfl, he⟩ := h_succ hh (p := p) (by simp)
      obtain ⟨e', ee, he2⟩ := h_succ hh (p := p2) (by simp)
      obtain rfl : e' = e := by omega
      have hI := hI e' rfl
      subst hI
      have rc : ∀ (H1 : Hp) (v1 : V) (p : Ex) (w1 : Nat) (Q1 : VK), Same H H1 → ExAt K H1 v1 p → Wt Γ p w1 → exH p ≤ e' → (∀ H' r, Same H1 H' → WAt K H' r (den Γ U p) → Q1 r H') → spLW K (Mx.MGet P w) e' [v1, .ref nd] H1 Q1 E0 :=
        fun H1 v1 p w1 Q1 s x wp hp q1 => ⟨Γ, U, nd, v1, p, w1, rfl, x, wp, g, hp, na.ext (Ext1.of s), q1⟩
      rw [den_op] at q
      obtain ⟨d1, d2⟩ := wt_den g wp
      obtain ⟨d3, d4⟩ := wt_den g wp2
      rw [List.map_cons, List.map_cons, List.map_nil] at q
      have hw1 : (den Γ U p).1 ≤ 4096 := by omega
      have d3 : (den Γ U p2).1 = (den Γ U p).1 := d3.trans d1.symm
      rw [← d1] at d2 d4
      rcases hk with rfl | rfl
      · refine ⟨_, rfl, t, _, 0, _, rfl, rfl, hs, at_of (j := 0) rfl rfl, ?_⟩
        refine eqsF (i := 2) rfl (by decide) (iteF ?_)
        refine eqsF (i := 2) rfl (by decide) (iteF ?_)
        refine eqsF (i := 2) rfl (by decide) (iteF ?_)
        refine eqsF (i := 2) rfl (by decide) (iteF ?_)
        refine eqsF (i := 2) rfl (by decide) (iteF ?_)
        refine eqsF (i := 2) rfl (by decide) (iteF ?_)
        refine ⟨_, rfl, t, _, 1, _, rfl, rfl, hs, at_of (j := 1) rfl rfl, _, rfl, rc H v1 p _ _ (Same.refl H) x1 wp (by omega) fun H4 r4 s4 x4 => ?_⟩
        obtain ⟨t4, rfl, ht4⟩ := x4
        refine ⟨t4, _, rfl, ht4, rfl, _, _, rfl, _, _, rfl, rfl, ?_⟩
        refine eqsF (i := 2) rfl (by decide) (iteF ?_)
        refine eqsF (i := 2) rfl (by decide) (iteF ?_)
        refine eqsF (i := 2) rfl (by decide) (iteF ?_)
        refine eqsF (i := 2) rfl (by decide) (iteF ?_)
        refine eqsF (i := 2) rfl (by decide) (iteF ?_)
        refine ⟨_, rfl, t, _, 2, _, rfl, rfl, (seqT_same s4 hs), at_of (j := 2) rfl rfl, _, rfl, rc H4 v2 p2 _ _ s4 (x2.firm (Firm.of s4)) wp2 (by omega) fun H5 r5 s5 x5 => ?_⟩
        obtain ⟨t5, rfl, ht5⟩ := x5
        refine ⟨t5, _, 1, _, rfl, rfl, ht5, at_of (j := 1) rfl rfl, ?_⟩
        refine eqsT (i := 2) rfl (iteT ?_)
        refine ⟨_, rfl, _, rfl, rfl, .inr ⟨_, rfl, len2, fun z nz => put (fun H' r s => q H' r (s4.trans (s5.trans s))) nz rfl ?_⟩⟩
        show (((if (den Γ U p).2 = (den Γ U p2).2 then 1 else 0 : Nat)) : Int) = if decide (V.int ((den Γ U p).2 : Int) = V.int ((den Γ U p2).2 : Int)) = true then 1 else 0
        by_cases c : (den Γ U p).2 = (den Γ U p2).2
        · rw [if_pos c, if_pos (ieq c)]; rfl
        · rw [if_neg c, if_neg (by rw [ine c]; decide)]; rfl
      · refine ⟨_, rfl, t, _, 0, _, rfl, rfl, hs, at_of (j := 0) rfl rfl, ?_⟩
        refine eqsF (i := 2) rfl (by decide) (iteF ?_)
        refine eqsF (i := 2) rfl (by decide) (iteF ?_)
        refine eqsF (i := 2) rfl (by decide) (iteF ?_)
        refine eqsF (i := 2) rfl (by decide) (iteF ?_)
        refine eqsF (i := 2) rfl (by decide) (iteF ?_)
        refine eqsF (i := 2) rfl (by decide) (iteF ?_)
        refine ⟨_, rfl, t, _, 1, _, rfl, rfl, hs, at_of (j := 1) rfl rfl, _, rfl, rc H v1 p _ _ (Same.refl H) x1 wp (by omega) fun H4 r4 s4 x4 => ?_⟩
        obtain ⟨t4, rfl, ht4⟩ := x4
        refine ⟨t4, _, rfl, ht4, rfl, _, _, rfl, _, _, rfl, rfl, ?_⟩
        refine eqsF (i := 2) rfl (by decide) (iteF ?_)
        refine eqsF (i := 2) rfl (by decide) (iteF ?_)
        refine eqsF (i := 2) rfl (by decide) (iteF ?_)
        refine eqsF (i := 2) rfl (by decide) (iteF ?_)
        refine eqsF (i := 2) rfl (by decide) (iteF ?_)
        refine ⟨_, rfl, t, _, 2, _, rfl, rfl, (seqT_same s4 hs), at_of (j := 2) rfl rfl, _, rfl, rc H4 v2 p2 _ _ s4 (x2.firm (Firm.of s4)) wp2 (by omega) fun H5 r5 s5 x5 => ?_⟩
        obtain ⟨t5, rfl, ht5⟩ := x5
        refine ⟨t5, _, 1, _, rfl, rfl, ht5, at_of (j := 1) rfl rfl, ?_⟩
        refine eqsF (i := 2) rfl (by decide) (iteF ?_)
        refine eqsT (i := 2) rfl (iteT ?_)
        refine ⟨_, rfl, _, rfl, _, _, rfl, rfl, .inr ⟨_, rfl, len2, fun z nz => put (fun H' r s => q H' r (s4.trans (s5.trans s))) nz rfl ?_⟩⟩
        show (((if (den Γ U p).2 < (den Γ U p2).2 then 1 else 0 : Nat)) : Int) = if decide (((den Γ U p).2 : Int) < ((den Γ U p2).2 : Int)) = true then 1 else 0
        by_cases c : (den Γ U p).2 < (den Γ U p2).2
        · rw [if_pos c, if_pos (decide_eq_true (by omega))]; rfl
        · rw [if_neg c, if_neg (by rw [decide_eq_false (by omega)]; decide)]; rfl
    | ite c p p2 wd h1 wc wp wp2 =>
      obtain ⟨t, v0, v1, v2, rfl, hs, x0, x1, x2⟩ := ite_at ea
      obtain ⟨e, rfl, he⟩ := h_succ hh (p := c) (by simp)
      obtain ⟨e', ee, he2⟩ := h_succ hh (p := p) (by simp)
      obtain rfl : e' = e := by omega
      obtain ⟨e, ee2, he3⟩ := h_succ hh (p := p2) (by simp)
      obtain rfl : e' = e := by omega
      have hI := hI e' rfl
      subst hI
      have rc : ∀ (H1 : Hp) (v1 : V) (p : Ex) (w1 : Nat) (Q1 : VK), Same H H1 → ExAt K H1 v1 p → Wt Γ p w1 → exH p ≤ e' → (∀ H' r, Same H1 H' → WAt K H' r (den Γ U p) → Q1 r H') → spLW K (Mx.MGet P w) e' [v1, .ref nd] H1 Q1 E0 :=
        fun H1 v1 p w1 Q1 s x wp hp q1 => ⟨Γ, U, nd, v1, p, w1, rfl, x, wp, g, hp, na.ext (Ext1.of s), q1⟩
      rw [den_op] at q
      rw [List.map_cons, List.map_cons, List.map_cons, List.map_nil] at q
      refine ⟨_, rfl, t, _, 0, _, rfl, rfl, hs, at_of (j := 0) rfl rfl, ?_⟩
      refine eqsF (i := 2) rfl (by decide) (iteF ?_)
      refine eqsF (i := 2) rfl (by decide) (iteF ?_)
      refine eqsF (i := 2) rfl (by decide) (iteF ?_)
      refine eqsF (i := 2) rfl (by decide) (iteF ?_)
      refine eqsF (i := 2) rfl (by decide) (iteF ?_)
      refine eqsT (i := 2) rfl (iteT ?_)
      refine ⟨_, rfl, _, rfl, t, _, 1, _, rfl, rfl, hs, at_of (j := 1) rfl rfl, _, rfl, rc H v0 c 1 _ (Same.refl H) x0 wc (by omega) fun H4 r4 s4 x4 => ?_⟩
      obtain ⟨t4, rfl, ht4⟩ := x4
      refine ⟨t4, _, 1, _, rfl, rfl, ht4, at_of (j := 1) rfl rfl, rfl, _, rfl, ?_⟩
      have q : ∀ H' r, Same H H' → WAt K H' r (if (den Γ U c).2 = 1 then den Γ U p else den Γ U p2) → Q r H' := q
      by_cases c0 : (den Γ U c).2 = 1
      · rw [if_pos c0] at q
        refine goT (ieq c0) ⟨t, _, 2, _, rfl, rfl, seqT_same s4 hs, at_of (j := 2) rfl rfl, _, rfl, rc H4 v1 p wd _ s4 (x1.firm (Firm.of s4)) wp (by omega) fun H5 r5 s5 x5 => q _ _ (s4.trans s5) x5⟩
      · rw [if_neg c0] at q
        refine goF (ine c0) ⟨t, _, 3, _, rfl, rfl, seqT_same s4 hs, at_of (j := 3) rfl rfl, _, rfl, rc H4 v2 p2 wd _ s4 (x2.firm (Firm.of s4)) wp2 (by omega) fun H5 r5 s5 x5 => q _ _ (s4.trans s5) x5⟩
    | join ps us wts su =>
      obtain ⟨t, b, vs, rfl, hs, hb, ax⟩ := join_at ea
      rw [den_op] at q
      obtain ⟨dw, dl⟩ := wts_den g wts
      refine ⟨_, rfl, t, _, 0, _, rfl, rfl, hs, at_of (j := 0) rfl rfl, ?_⟩
      refine eqsF (i := 2) rfl (by decide) (iteF ?_)
      refine eqsF (i := 2) rfl (by decide) (iteF ?_)
      refine eqsF (i := 2) rfl (by decide) (iteF ?_)
      refine eqsF (i := 2) rfl (by decide) (iteF ?_)
      refine eqsT (i := 2) rfl (iteT ?_)
      refine ⟨len2, fun z nz => ⟨z, _, rfl, SqT.of upd_same, rfl, _, _, rfl, _, _, rfl, rfl, ?_⟩⟩
      have sz := same_new (u := .tup [.int 0, .int 0]) nz
      refine ⟨_, rfl, t, _, 1, _, rfl, rfl, (seqT_same sz hs), at_of (j := 1) rfl rfl, b, rfl, ⟨_, seqT_same sz hb⟩, for_tup (K := K) (a := b) (xs := vs) (fun i σ H' => ∃ x6 x7 x8 : Option V, σ = [some (.ref t), some (.ref nd), some (.str "join"), some (.int ((joinP (0, 0) ((ps.map (den Γ U)).take i)).1 : Nat)), none, some (.int ((joinP (0, 0) ((ps.map (den Γ U)).take i)).2 : Nat)), x6, x7, x8, none, none] ∧ Same H H')
        ⟨_, _, _, rfl, sz⟩ (fun i σ H' _ ⟨_, _, _, _, s⟩ => seqT_same s hb) ?_ ?_⟩
      · rintro i y σ H3 hy ⟨x6, x7, x8, rfl, s3⟩
        obtain ⟨p, hp, hyp⟩ := ax.get hy
        obtain ⟨u, wp⟩ := wts_mem wts p (List.mem_of_getElem? hp)
        obtain ⟨e, rfl, he⟩ := h_succ hh (p := p) (List.mem_of_getElem? hp)
        have hI := hI e rfl
        subst hI
        have rc : ∀ (H1 : Hp) (v1 : V) (p : Ex) (w1 : Nat) (Q1 : VK), Same H H1 → ExAt K H1 v1 p → Wt Γ p w1 → exH p ≤ e → (∀ H' r, Same H1 H' → WAt K H' r (den Γ U p) → Q1 r H') → spLW K (Mx.MGet P w) e [v1, .ref nd] H1 Q1 E0 :=
        fun H1 v1 p w1 Q1 s x wp hp q1 => ⟨Γ, U, nd, v1, p, w1, rfl, x, wp, g, hp, na.ext (Ext1.of s), q1⟩
        have hd : (ps.map (den Γ U))[i]? = some (den Γ U p) := by rw [List.getElem?_map, hp]; rfl
        have st := take_step hd
        obtain ⟨jw, jv⟩ := joinP_lt (ds := (ps.map (den Γ U)).take i) (ws := us.take i) (0, 0) (fun j => by rw [List.getElem?_take, List.getElem?_take]; split; exact dw j; rfl) (fun e he => dl e (List.mem_of_mem_take he)) (by decide)
        have su2 := sum_take_le us i
        rw [Nat.zero_add] at jw jv
        have dws : (den Γ U p).1 ≤ 4096 := by
          have h1 := dw i
          rw [hd] at h1
          have h2 := List.mem_of_getElem? h1.symm
          have h3 : (den Γ U p).1 ≤ us.sum := mem_le_sum h2
          omega
        refine ⟨_, rfl, _, rfl, rc H3 y p u _ s3 (hyp.firm (Firm.of s3)) wp (by omega) fun H4 r4 s4 x4 => ?_⟩
        obtain ⟨t4, rfl, ht4⟩ := x4
        refine ⟨t4, _, rfl, ht4, rfl, _, _, rfl, _, _, rfl, rfl, ?_⟩
        rw [st, joinP_snoc]
        have jle : (joinP (0, 0) (List.take i (ps.map (den Γ U)))).1 ≤ 4096 := by omega
        rw [← jw] at jv
        generalize joinP (0, 0) (List.take i (ps.map (den Γ U))) = s0 at jv jle ⊢
        refine ⟨_, rfl, _, rfl, _, _, rfl, rfl, _, rfl, _, rfl, (den Γ U p).1, rfl, rfl, by omega, _, _, rfl, rfl, mulx_ok (a := 4097) (b := 4097) (by rw [Int.natAbs_natCast]; exact lt_pow (Nat.lt_of_lt_of_le jv (Nat.pow_le_pow_right (by decide) jle))) (by rw [← pow_cast, Int.natAbs_natCast]; exact Nat.pow_lt_pow_right (by decide) (by omega)) (by decide), _, rfl, _, _, rfl, rfl, _, _, rfl, ?_⟩
        refine ⟨some y, some (.int ((den Γ U p).1 : Nat)), some (.int ((den Γ U p).2 : Nat)), ?_, s3.trans s4⟩
        rw [Int.natCast_add, Int.natCast_add, Int.natCast_mul, pow_cast]
        rfl
      · rintro σ H3 ⟨x6, x7, x8, rfl, s3⟩
        have wl := ax.len
        rw [List.take_of_length_le (by rw [List.length_map]; omega)]
        refine ⟨_, rfl, _, rfl, len2, fun z nz => ?_⟩
        exact q _ _ (s3.trans (same_new nz)) ⟨z, rfl, SqT.of upd_same⟩
theorem ok_lw (F : FnP K "_law_word" sLWord f fd) (T : Tx mg)
    {fBW : Addr} {dBW : FuncData}
    (GBW : FnOk P w K mg base CX0 1 fBW dBW ["_law_kind", "_law_width", "_law_one", "_law_two"] (spBW)) (gBW : mg "_law_bitwise" = some (.ref fBW)) (kBW : PySem.W.keepIn K (.ref fBW) = true) (bBW : Binds K dBW ["_law_kind", "_law_width", "_law_one", "_law_two"] [])
    (gLW : mg "_law_word" = some (.ref f)) (kLW : PySem.W.keepIn K (.ref f) = true) (bLW : Binds K fd ["_law_expression", "_law_names"] [])
    : ∀ h : Nat, FnOk P w K mg base CX0 (h + 1 + 1) f fd ["_law_expression", "_law_names"] (spLW K (Mx.MGet P w) h)
  | 0 => step_lw F T 0 (fun _ _ _ _ => False) (fun e h => by cases h) GBW gBW kBW bBW (F.ok scLW (fun _ _ _ _ (z : False) => z.elim) (fun _ _ _ _ _ _ _ _ _ (z : False) => z.elim)) gLW kLW bLW
  | h + 1 => step_lw F T (h + 1) (spLW K (Mx.MGet P w) h) (fun e he => by injection he with he; rw [he]) GBW gBW kBW bBW (ok_lw F T GBW gBW kBW bBW gLW kLW bLW h) gLW kLW bLW
end
end Ew
namespace Eu
open PySem PySem.Spec PyProof.Rows L2 Pen Dat Ki Fi Ep Eq Er Es Ev Ew
/-! ## The word of an expression -/
/-- a call of a local that holds a def told by what it does -/
def tCallK (i : Nat) (C : Str → Addr → Prop) (T : Str → Sp) (t : TA) : TE := fun σ H Q => ∃ k f, C k f ∧ σ[i]? = some (some (.ref f)) ∧ t σ H fun vs H1 => T k vs H1 Q (fun _ _ _ => False)
theorem kdct {K : PySem.W.Frag} {w : World} {d : Addr} {es : Array DictEntry} {n : Nat} {z : Str} {fk : Addr} (D : KDict K w d es n) (h : PySem.W.nsIn K d z = some (some (.ref fk))) : KDct K w d z (.ref fk) := ⟨es, n, _, D.at_, D.lit, h, rfl⟩
section
variable {X : Cx} {n i : Nat} {x : Str} {p pos : Pos} {e : Expr} {es : List Expr} {t : TA}
theorem pe_callK {C : Str → Addr → Prop} {T : Str → Sp} (A : ∀ k f, C k f → Held X.prog X.w X.K X.mg X.base n f (T k)) (hr : Room n X.A) (hN : X.N[i]? = some x) (hv : Vis X.env.scope x) (ha : PA X (e :: es) t)
    (hdb : (x == ("__debug__" : Str)) = false := by decide) (hcd : (x == ("__classdict__" : Str)) = false := by decide)
    (he : starEach (e :: es) X.env = (false, eval e X.env) :: starEach es X.env := by rfl) (hpl : (backTo pos (starEach es X.env)).any (·.1) = false := by rfl) : PE X (.Call (.Name x p) (e :: es) [] pos) (tCallK i C T t) := by
  refine ⟨fun pins s σ H Q I ⟨k, f, hC, hs, ht⟩ => ?_⟩
  obtain ⟨fd, ps, F, hk, hb⟩ := (A k f hC).ex
  refine (pe_callL (i := i) (f := f) (sp := T k) (dvs := []) (E := fun _ _ _ => False) F hr hN hv hk hb .nil (fun _ _ _ _ _ _ _ z => z.elim) ha hdb hcd he hpl).run pins s σ H Q I ⟨hs, ?_⟩
  have e0 : (fun (vs : List V) (H1 : Hp) => T k (vs ++ []) H1 Q (fun _ _ _ => False)) = fun vs H1 => T k vs H1 Q (fun _ _ _ => False) := by
    funext vs H1
    rw [List.append_nil]
  show t σ H (fun vs H1 => T k (vs ++ []) H1 Q (fun _ _ _ => False))
  rw [e0]
  exact ht
end
def spPart (K : PySem.W.Frag) (G : Hp → Addr → V → V → Prop) : Sp := fun vs H Q _ => ∃ (Γ : Gam) (U : Vl) (nd L : Addr) (v : V) (e : Ex) (w : Nat) (ws : List V), vs = [.ref nd, v, .ref L] ∧ ExAt K H v e ∧ Wt Γ e w ∧ Good Γ U ∧ NmAt K G H nd Γ U ∧ H L = some (.lst ws) ∧ All2 (WAt K H) ws ((parts e).map (den Γ U)) ∧
  ∀ H' r, Same H H' → WAt K H' r (den Γ U e) → Q r H'
def spWO (K : PySem.W.Frag) (G : Hp → Addr → V → V → Prop) : Sp := fun vs H Q _ => ∃ (Γ : Gam) (U : Vl) (nd : Addr) (od : HO) (v : V) (e : Ex) (w : Nat), vs = [v, .ref nd] ∧ ExAt K H v e ∧ Wt Γ e w ∧ Good Γ U ∧ exZ e ≤ 100000 ∧ H nd = some od ∧ NmAt K G H nd Γ U ∧
  ∀ H' r, Same H H' → WAt K H' r (den Γ U e) → Q r H'
def isOp (k : Str) : Prop := k = "not" ∨ k = "minus" ∨ k = "and" ∨ k = "or" ∨ k = "xor" ∨ k = "plus" ∨ k = "times" ∨ k = "equal" ∨ k = "below" ∨ k = "if" ∨ k = "left" ∨ k = "right" ∨ k = "slice" ∨ k = "join"
theorem op_other {k : Str} (h : isOp k) : ¬ k = "number" ∧ ¬ k = "name" ∧ ¬ k = "port" ∧ ¬ k = "read" := by
  rcases h with rfl | rfl | rfl | rfl | rfl | rfl | rfl | rfl | rfl | rfl | rfl | rfl | rfl | rfl <;> decide
theorem op_is {Γ : Gam} {o : Op} {ps : List Ex} {w : Nat} (h : Wt Γ (.op o ps) w) : (∃ m p, o = .read m ∧ ps = [p]) ∨ isOp (opK o) := by
  unfold isOp
  cases h with
  | read m p => exact .inl ⟨m, p, rfl, rfl⟩
  | un k p w hk => rcases hk with rfl | rfl <;> simp [opK]
  | sh k n p w hk => rcases hk with rfl | rfl <;> simp [opK]
  | slc => simp [opK]
  | bin k p q w hk => rcases hk with rfl | rfl | rfl | rfl | rfl <;> simp [opK]
  | cmp k p q w hk => rcases hk with rfl | rfl <;> simp [opK]
  | ite => simp [opK]
  | join => simp [opK]
theorem op_at {K : PySem.W.Frag} {H : Hp} {v : V} {o : Op} {ps : List Ex} (h : ExAt K H v (.op o ps)) : ∃ t xs, v = .ref t ∧ SqT K H t (.str (opK o) :: xs) := by
  unfold ExAt exD at h
  cases o <;> (cases h with | tup hs h1 => cases h1 with | cons a h1 => cases a; exact ⟨_, _, rfl, hs⟩)
section
variable {P : Program} {w : World} {K : PySem.W.Frag} {mg : Str → Option Value} {base : Heap} {f : Addr} {fd : FuncData}
abbrev nPA : List Str := ["names", "part", "words", "kind", "width", "word", "row", "action"]
theorem scPA : FnScope nPA ["names", "part", "words"] (defScope sPartWord) := ⟨rfl, rfl, rfl, by decide +kernel, rfl, by decide +kernel, by decide +kernel⟩
theorem ok_part (F : FnP K "part_word" sPartWord f fd) {C_INNER_WORDS : Addr} {es : Array DictEntry} {n : Nat} (D : KDict K w C_INNER_WORDS es n) (gIN : mg "INNER_WORDS" = some (.ref C_INNER_WORDS))
    (tab : ∀ k, isOp k → ∃ fk, PySem.W.nsIn K C_INNER_WORDS k = some (some (.ref fk)) ∧ Held P w K mg base 2 fk (spAct K k))
    : FnOk P w K mg base CX0 3 f fd ["names", "part", "words"] (spPart K (Mx.MGet P w)) := by
  refine F.ok scPA (fun vs H Q E h => ?_) (fun cdv A outer s H vs Q E hr h => ?_)
  · obtain ⟨Γ, U, nd, L, v, e, wd, ws, rfl, _⟩ := h
    rfl
  · obtain ⟨Γ, U, nd, L, v, e, wd, ws, rfl, ea, wt, g, na, hL, aw, q⟩ := h
    have hu := hu_of hr
    refine ⟨_, PSs.nox (pss_cons (ps_set (i := 3) scPA.nd rfl (Or.inl rfl) (pe_ix (r := L2.rIxT K) (by exact ix_tup) (pv 1) pe_int (fun _ _ => rfl)))
      (pss_cons (ps_if (pt_cmpR op_eq (pv 3) pe_str (nomark _))
        (pss_one (ps_ret (pe_tup (pa_cons (pe_ix (r := L2.rIxT K) (by exact ix_tup) (pv 1) pe_int (fun _ _ => rfl)) (pa_cons (pe_ix (r := L2.rIxT K) (by exact ix_tup) (pv 1) pe_int (fun _ _ => rfl)) pa_nil)))))
        pss_nil)
      (pss_cons (ps_if (pt_cmpR op_eq (pv 3) pe_str (nomark _))
        (pss_cons (ps_asg (Mx.pe_mget hu (pv 0) (pe_ix (r := L2.rIxT K) (by exact ix_tup) (pv 1) pe_int (fun _ _ => rfl)) (fun _ _ => rfl)) (pg_tup rfl (pgs_cons (pg_name (i := 4) scPA.nd rfl (Or.inl rfl)) (pgs_cons (pg_name (i := 5) scPA.nd rfl (Or.inl rfl)) pgs_nil))))
        (pss_one (ps_ret (pe_tup (pa_cons (pv 4) (pa_cons (pv 5) pa_nil))))))
        pss_nil)
      (pss_cons (ps_if (pt_cmpR op_eq (pv 3) pe_str (nomark _))
        (pss_cons (ps_asg (Mx.pe_mget hu (pv 0) (pe_tup (pa_cons (pe_ix (r := L2.rIxT K) (by exact ix_tup) (pv 1) pe_int (fun _ _ => rfl)) (pa_cons (pe_ix (r := L2.rIxT K) (by exact ix_tup) (pv 1) pe_int (fun _ _ => rfl)) pa_nil))) (fun _ _ => rfl)) (pg_tup rfl (pgs_cons (pg_name (i := 4) scPA.nd rfl (Or.inl rfl)) (pgs_cons (pg_name (i := 5) scPA.nd rfl (Or.inl rfl)) pgs_nil))))
        (pss_one (ps_ret (pe_tup (pa_cons (pv 4) (pa_cons (pv 5) pa_nil))))))
        pss_nil)
      (pss_cons (ps_if (pt_cmpR op_eq (pv 3) pe_str (nomark _))
        (pss_cons (ps_asg (Mx.pe_mget hu (pv 0) (pe_ix (r := L2.rIxT K) (by exact ix_tup) (pv 1) pe_int (fun _ _ => rfl)) (fun _ _ => rfl)) (pg_tup rfl (pgs_cons (pg_name (i := 4) scPA.nd rfl (Or.inl rfl)) (pgs_cons (pg_name (i := 6) scPA.nd rfl (Or.inl rfl)) pgs_nil))))
        (pss_one (ps_ret (pe_tup (pa_cons (pv 4) (pa_cons (pe_ix (r := L2.rIxT K) (by exact ix_tup) (pv 6) (pe_ix (r := L2.rIxT K) (by exact ix_tup) (pe_ix ix_list (pv 2) pe_int (fun _ _ => rfl)) pe_int (fun _ _ => rfl)) (fun _ _ => rfl)) pa_nil))))))
        pss_nil)
      (pss_cons (ps_set (i := 7) scPA.nd rfl (Or.inl rfl) (pe_ix (r := L2.rIxD K w) (by exact ix_kdict) (pe_glob (v := V.ref C_INNER_WORDS) (by rfl) gIN rfl) (pv 3) (fun _ _ => rfl)))
      (pss_one (ps_ret (Eu.pe_callK (i := 7) (C := fun k f => Held P w K mg base 2 f (spAct K k)) (T := spAct K) (n := 2) (fun _ _ h => h) (hr.mono (by decide)) rfl (.inl rfl) (pa_cons (pv 1) (pa_cons (pv 2) pa_nil))))))))))), ?_⟩
    cases e with
    | lf l =>
      rw [den_lf] at q
      cases wt with
      | num u n h1 h2 h3 =>
        obtain ⟨t, rfl, hs⟩ := num_at ea
        refine ⟨_, rfl, t, _, 0, _, rfl, rfl, hs, at_of (j := 0) rfl rfl, eqsT (i := 3) rfl (iteT ?_)⟩
        refine ⟨_, rfl, t, _, 1, _, rfl, rfl, hs, at_of (j := 1) rfl rfl, _, rfl, t, _, 2, _, rfl, rfl, hs, at_of (j := 2) rfl rfl, len2, fun z nz => ?_⟩
        exact Ew.put q nz rfl rfl
      | nam n u h1 h2 =>
        obtain ⟨t, rfl, hs⟩ := nam_at ea
        obtain ⟨v, ⟨tv, rfl, htv⟩, hg⟩ := na.nm n wd h2
        refine ⟨_, rfl, t, _, 0, _, rfl, rfl, hs, at_of (j := 0) rfl rfl, eqsF (i := 3) rfl (by decide) (iteF (eqsT (i := 3) rfl (iteT ?_)))⟩
        refine ⟨_, rfl, _, rfl, t, _, 1, _, rfl, rfl, hs, at_of (j := 1) rfl rfl, nd, _, rfl, hg H (Ext1.refl nd H), tv, _, rfl, htv, rfl, _, _, rfl, _, _, rfl, rfl, _, rfl, _, rfl, len2, fun z nz => ?_⟩
        refine Ew.put q nz ?_ rfl
        show (((Γ.nm n).getD 0 : Nat) : Int) = _
        rw [h2]
        rfl
      | port u n wd h1 h2 =>
        obtain ⟨t, rfl, hs⟩ := port_at ea
        obtain ⟨v, ⟨tv, rfl, htv⟩, hg⟩ := na.pt u n wd h2
        refine ⟨_, rfl, t, _, 0, _, rfl, rfl, hs, at_of (j := 0) rfl rfl, eqsF (i := 3) rfl (by decide) (iteF (eqsF (i := 3) rfl (by decide) (iteF (eqsT (i := 3) rfl (iteT ?_)))))⟩
        refine ⟨_, rfl, _, rfl, t, _, 1, _, rfl, rfl, hs, at_of (j := 1) rfl rfl, _, rfl, t, _, 2, _, rfl, rfl, hs, at_of (j := 2) rfl rfl, len2, fun y ny => ?_⟩
        have sy := same_new (u := .tup [.str u, .str n]) ny
        refine ⟨nd, _, rfl, hg _ y (Ext1.of sy) upd_same, tv, _, rfl, seqT_same sy htv, rfl, _, _, rfl, _, _, rfl, rfl, _, rfl, _, rfl, len2, fun z nz => ?_⟩
        refine Ew.put (fun H' r s => q H' r (sy.trans s)) nz ?_ rfl
        show (((Γ.pt u n).getD 0 : Nat) : Int) = _
        rw [h2]
        rfl
    | op o ps =>
      rcases op_is wt with ⟨m, p, rfl, rfl⟩ | ko
      · obtain ⟨t, v1, rfl, hs, x1⟩ := read_at ea
        cases wt with
        | read m p wd b h1 h2 wp =>
        obtain ⟨tr, row, htr, hrow, hg⟩ := na.mm m wd b h2
        obtain ⟨d1, d2⟩ := wt_den g wp
        have aw : All2 (WAt K H) ws [den Γ U p] := aw
        cases aw with
        | cons a0 a9 =>
        cases a9
        obtain ⟨t4, rfl, ht4⟩ := a0
        refine ⟨_, rfl, t, _, 0, _, rfl, rfl, hs, at_of (j := 0) rfl rfl, eqsF (i := 3) rfl (by decide) (iteF (eqsF (i := 3) rfl (by decide) (iteF (eqsF (i := 3) rfl (by decide) (iteF (eqsT (i := 3) rfl (iteT ?_)))))))⟩
        refine ⟨_, rfl, _, rfl, t, _, 1, _, rfl, rfl, hs, at_of (j := 1) rfl rfl, nd, .ref tr, rfl, hg H (Ext1.refl nd H), tr, _, rfl, htr, rfl, _, _, rfl, _, _, rfl, rfl, ?_⟩
        refine ⟨_, rfl, _, rfl, _, rfl, L, _, 0, _, rfl, rfl, SqL.of hL, at_of (j := 0) rfl rfl, t4, _, 1, _, rfl, rfl, ht4, at_of (j := 1) rfl rfl, row, _, _, _, rfl, rfl, hrow, at_of (j := (den Γ U p).2) rfl (row_get d2), len2, fun z nz => ?_⟩
        rw [den_op] at q
        refine Ew.put q nz ?_ rfl
        show ((((Γ.mm m).getD (0, 0)).1 : Nat) : Int) = _
        rw [h2]
        rfl
      · obtain ⟨t, xs, rfl, hs⟩ := op_at ea
        obtain ⟨n1, n2, n3, n4⟩ := op_other ko
        obtain ⟨fk, hk, held⟩ := tab _ ko
        refine ⟨_, rfl, t, _, 0, _, rfl, rfl, hs, at_of (j := 0) rfl rfl, eqsF (i := 3) rfl n1 (iteF (eqsF (i := 3) rfl n2 (iteF (eqsF (i := 3) rfl n3 (iteF (eqsF (i := 3) rfl n4 (iteF ?_)))))))⟩
        refine ⟨_, rfl, _, opK o, .ref fk, rfl, rfl, kdct D hk, ?_⟩
        refine ⟨opK o, fk, held, rfl, _, rfl, _, rfl, ?_⟩
        exact ⟨Γ, U, .ref t, L, o, ps, wd, ws, rfl, rfl, wt, g, ea, hL, aw, q⟩
abbrev nWO : List Str := ["expression", "names"]
theorem scWO : FnScope nWO ["expression", "names"] (defScope sWordOf) := ⟨rfl, rfl, rfl, by decide +kernel, rfl, by decide +kernel, by decide +kernel⟩
theorem ok_wo (F : FnP K "word_of" sWordOf f fd) {C_part_word : Addr} (gPA : mg "part_word" = some (.ref C_part_word))
    {fFO : Addr} {dFO : FuncData}
    (GFO : FnOk P w K mg base CX0 4 fFO dFO ["expression", "action", "known"] ((spFold K C_part_word (spPart K (Mx.MGet P w))))) (gFO : mg "folded" = some (.ref fFO)) (kFO : PySem.W.keepIn K (.ref fFO) = true) (bFO : Binds K dFO ["expression", "action", "known"] [])
    : FnOk P w K mg base CX0 5 f fd ["expression", "names"] (spWO K (Mx.MGet P w)) := by
  refine F.ok scWO (fun vs H Q E h => ?_) (fun cdv A outer s H vs Q E hr h => ?_)
  · obtain ⟨Γ, U, nd, od, v, e, wd, rfl, _⟩ := h
    rfl
  · obtain ⟨Γ, U, nd, od, v, e, wd, rfl, ea, wt, g, ez, hn, na, q⟩ := h
    refine ⟨_, PSs.nox (pss_one (ps_ret (pe_call GFO (hr.mono (by decide)) (by rfl) gFO kFO bFO .nil pass0 (pa_cons (pv 0) (pa_cons (pe_glob (v := V.ref C_part_word) (by rfl) gPA rfl) (pa_cons (pv 1) pa_nil)))))), ?_⟩
    refine ⟨_, rfl, _, rfl, WV, v, .ref nd, e, den Γ U, (fun b => b = nd), (fun H1 => H1 nd = some od ∧ NmAt K (Mx.MGet P w) H1 nd Γ U), (fun H1 => WAt K H1), (fun e => ∃ u, Wt Γ e u), rfl, ea, ez, ⟨wd, wt⟩, (fun b hb => by rw [hb, hn]; exact fun h => nomatch h), ⟨hn, na⟩, ?_, ?_⟩
    · refine ⟨fun e ⟨u, h⟩ => h.shp, fun e ⟨u, h⟩ p hp => h.sub p hp, fun H1 H2 ⟨h1, h2⟩ s t => ⟨⟨t nd _ rfl h1, h2.ext ⟨s, fun o e => t nd o rfl e⟩⟩, fun v x h => h.firm s⟩, ?_⟩
      rintro H1 v e L ws Q1 E1 ⟨u, we⟩ ⟨h1, h2⟩ x hL aw q1
      exact ⟨Γ, U, nd, L, v, e, u, ws, rfl, x, we, g, h2, hL, aw, fun H2 r s h => q1 H2 r ⟨s _ _ h1, h2.ext (Ext1.of s)⟩ (Firm.of s) (fun b o e _ => s _ _ e) (fun v x h => h.firm (Firm.of s)) h⟩
    · intro H1 r ⟨h1, _⟩ s k h
      refine q H1 r (fun b o e => ?_) h
      by_cases eb : b = nd
      · subst eb
        rw [hn] at e
        rw [h1, e]
      · exact k b o e eb
end
end Eu
namespace Kn
open PySem PySem.Spec PyProof.Rows L2 Pen Dat Ki Fi Ep Eq Er Es Ev Ew Eu
open Mx (MK MxO MixAt YK MGet MPut)
/-! ## The law's own names: words of three names and a port, a memory read somewhere -/
def keyAt : Nat → MK
  | 0 => .inl "a"
  | 1 => .inl "b"
  | 2 => .inl "c"
  | _ => .inr [.inr "u", .inr "x"]
def lfAt : Nat → Ex
  | 0 => .lf (.nam "a")
  | 1 => .lf (.nam "b")
  | 2 => .lf (.nam "c")
  | _ => .lf (.port "u" "x")
theorem lay_app : ∀ as bs : List PyData, PyData.canLayAll0 as = true → PyData.canLayAll0 bs = true → PyData.canLayAll0 (as ++ bs) = true
  | [], bs, _, h => h
  | a :: as, bs, h1, h2 => by
    obtain ⟨x, y⟩ := Bool.and_eq_true_iff.mp (show (a.canLay0 && PyData.canLayAll0 as) = true from h1)
    show (a.canLay0 && PyData.canLayAll0 (as ++ bs)) = true
    rw [x, lay_app as bs y h2]
    rfl
theorem lay_cons {a : PyData} {as : List PyData} (h1 : a.canLay0 = true) (h2 : PyData.canLayAll0 as = true) : PyData.canLayAll0 (a :: as) = true := by
  show (a.canLay0 && PyData.canLayAll0 as) = true
  rw [h1, h2]
  rfl
structure NamesOk (Γ : Gam) : Prop where
  nm : ∀ n w, Γ.nm n = some w → (PyData.str n).canLay0 = true
  pt : ∀ u n w, Γ.pt u n = some w → (PyData.str u).canLay0 = true ∧ (PyData.str n).canLay0 = true
  mm : ∀ m w, Γ.mm m = some w → (PyData.str m).canLay0 = true
theorem lay_wt {Γ : Gam} (ok : NamesOk Γ) {e : Ex} {w : Nat} (h : Wt Γ e w) : (exD e).canLay0 = true := by
  have nil : PyData.canLayAll0 (exDs []) = true := by rw [exDs]; rfl
  have cons : ∀ (p : Ex) (ps : List Ex), (exD p).canLay0 = true → PyData.canLayAll0 (exDs ps) = true → PyData.canLayAll0 (exDs (p :: ps)) = true := fun p ps h1 h2 => by rw [exDs]; exact lay_cons h1 h2
  refine Wt.rec (motive_1 := fun e _ _ => (exD e).canLay0 = true) (motive_2 := fun ps _ _ => PyData.canLayAll0 (exDs ps) = true) ?_ ?_ ?_ ?_ ?_ ?_ ?_ ?_ ?_ ?_ ?_ ?_ ?_ h
  · intro w v _ _ _; rw [exD]; exact lay_cons (by decide +kernel) rfl
  · intro n w _ h; rw [exD]; exact lay_cons (by decide +kernel) (lay_cons (ok.nm n w h) rfl)
  · intro u n w _ h; rw [exD]; exact lay_cons (by decide +kernel) (lay_cons (ok.pt u n w h).1 (lay_cons (ok.pt u n w h).2 rfl))
  · intro m p w b _ h _ ih; rw [exD]; exact lay_cons (by decide +kernel) (lay_cons (ok.mm m _ h) (cons p [] ih nil))
  · intro k p w hk _ _ ih; rw [exD]; exact lay_cons (by rcases hk with rfl | rfl <;> decide +kernel) (cons p [] ih nil)
  · intro k n p w hk _ _ _ ih; rw [exD]; exact lay_cons (by rcases hk with rfl | rfl <;> decide +kernel) (lay_app _ _ (cons p [] ih nil) rfl)
  · intro h l p w _ _ _ _ ih; rw [exD]; exact lay_cons (by decide +kernel) (lay_app _ _ (cons p [] ih nil) rfl)
  · intro k p q w hk _ _ _ ih1 ih2; rw [exD]; exact lay_cons (by rcases hk with rfl | rfl | rfl | rfl | rfl <;> decide +kernel) (cons p _ ih1 (cons q [] ih2 nil))
  · intro k p q w hk _ _ _ ih1 ih2; rw [exD]; exact lay_cons (by rcases hk with rfl | rfl <;> decide +kernel) (cons p _ ih1 (cons q [] ih2 nil))
  · intro c p q w _ _ _ _ ih1 ih2 ih3; rw [exD]; exact lay_cons (by decide +kernel) (cons c _ ih1 (cons p _ ih2 (cons q [] ih3 nil)))
  · intro ps ws _ _ ih; rw [exD]; exact lay_cons (by decide +kernel) (lay_cons ih rfl)
  · exact nil
  · intro p ps w ws _ _ ih1 ih2; exact cons p ps ih1 ih2
theorem dep_app : ∀ as bs : List PyData, PyData.depthAll (as ++ bs) = max (PyData.depthAll as) (PyData.depthAll bs)
  | [], bs => (Nat.zero_max _).symm
  | a :: as, bs => by
    show max a.depth (PyData.depthAll (as ++ bs)) = max (max a.depth (PyData.depthAll as)) _
    rw [dep_app as bs, Nat.max_assoc]
theorem dep_all : ∀ n : Nat, (∀ e : Ex, exZ e ≤ n → (exD e).depth ≤ 2 * exH e + 1) ∧ ∀ ps : List Ex, exZs ps ≤ n → PyData.depthAll (exDs ps) ≤ 2 * exHs ps + 1 := by
  intro n
  induction n with
  | zero =>
    refine ⟨fun e h => by have := exZ_pos e; omega, fun ps h => ?_⟩
    cases ps with
    | nil => rw [exDs]; exact Nat.zero_le _
    | cons p ps => rw [exZs_cons] at h; have := exZ_pos p; omega
  | succ n ih =>
    have he : ∀ e : Ex, exZ e ≤ n + 1 → (exD e).depth ≤ 2 * exH e + 1 := by
      intro e h
      cases e with
      | lf l => rw [exD, exH_lf]; cases l <;> exact Nat.le_refl _
      | op o ps =>
        rw [exZ_op] at h
        have := ih.2 ps (by omega)
        rw [exD, exH_op]
        have z : ∀ k : Nat, max 0 k = k := Nat.zero_max
        cases o with
        | read m => show max 0 (max 0 (PyData.depthAll (exDs ps))) + 1 ≤ _; rw [z, z]; omega
        | un k => show max 0 (PyData.depthAll (exDs ps)) + 1 ≤ _; rw [z]; omega
        | sh k i => show max 0 (PyData.depthAll (exDs ps ++ [.int i])) + 1 ≤ _; rw [z, dep_app]; show max _ 0 + 1 ≤ _; rw [Nat.max_zero]; omega
        | slc a b => show max 0 (PyData.depthAll (exDs ps ++ [.int a, .int b])) + 1 ≤ _; rw [z, dep_app]; show max _ 0 + 1 ≤ _; rw [Nat.max_zero]; omega
        | bin k => show max 0 (PyData.depthAll (exDs ps)) + 1 ≤ _; rw [z]; omega
        | ite => show max 0 (PyData.depthAll (exDs ps)) + 1 ≤ _; rw [z]; omega
        | join => show max 0 (max (PyData.depthAll (exDs ps) + 1) 0) + 1 ≤ _; rw [z, Nat.max_zero]; omega
    refine ⟨he, fun ps h => ?_⟩
    induction ps with
    | nil => rw [exDs]; exact Nat.zero_le _
    | cons p ps ih2 =>
      rw [exZs_cons] at h
      rw [exDs, exHs_cons]
      show max (exD p).depth (PyData.depthAll (exDs ps)) ≤ _
      have h1 := he p (by omega)
      have h2 := ih2 (by omega)
      omega
theorem nm_of {Γ : Gam} {S h0 : Nat} {e : Ex} {w : Nat} (ok : NamesOk Γ) (wt : Wt Γ e w) (z : exZ e ≤ S) (h : exH e ≤ h0) (hh : h0 ≤ 9) : NmE Γ S h0 e w :=
  ⟨wt, z, h, lay_wt ok wt, by have := (dep_all _).1 e (Nat.le_refl _); omega⟩
/-- what has been laid down behind i names -/
structure Sta (P : Program) (w : World) (K : PySem.W.Frag) (H : Hp) (i : Nat) (ws : List (Nat × Nat)) (kvs : List (MK × Addr × V)) (rows : List V) : Prop where
  lw : ws.length = i
  kk : kvs.map (·.1) = (List.range i).map keyAt
  kt : ∀ q ∈ kvs, ∀ ks, q.1 = .inr ks → H q.2.1 = some (.tup (ks.map kV))
  kv : ∀ (j : Nat) x, ws[j]? = some x → ∃ b v, kvs[j]? = some (keyAt j, b, v) ∧ WAt K H v x
  rl : rows.length = i
  rr : ∀ (j : Nat) x, ws[j]? = some x → ∃ t v, rows[j]? = some (.ref t) ∧ SqT K H t [v, .int (x.1 : Nat)] ∧ ExAt K H v (lfAt j)
  wb : ∀ x ∈ ws, 1 ≤ x.1 ∧ x.1 ≤ 24 ∧ x.2 < 2 ^ x.1
section
variable {P : Program} {w : World} {K : PySem.W.Frag} {H H' : Hp} {i : Nat} {ws : List (Nat × Nat)} {kvs : List (MK × Addr × V)} {rows : List V}
theorem Sta.firm (s : Firm H H') (h : Sta P w K H i ws kvs rows) : Sta P w K H' i ws kvs rows :=
  ⟨h.lw, h.kk, fun q m ks e => s _ _ (h.kt q m ks e) rfl, fun j x e => let ⟨b, v, a1, a2⟩ := h.kv j x e; ⟨b, v, a1, a2.firm s⟩, h.rl, fun j x e => let ⟨t, v, a1, a2, a3⟩ := h.rr j x e; ⟨t, v, a1, firm_seq s a2, a3.firm s⟩, h.wb⟩
theorem get_snoc {α : Type} {xs : List α} {x y : α} {j : Nat} (h : (xs ++ [x])[j]? = some y) : (xs[j]? = some y) ∨ (j = xs.length ∧ y = x) := by
  rcases Nat.lt_or_ge j xs.length with l | l
  · rw [List.getElem?_append_left l] at h
    exact .inl h
  · rw [List.getElem?_append_right l] at h
    rcases Nat.eq_zero_or_pos (j - xs.length) with z | z
    · rw [z] at h
      exact .inr ⟨by omega, (Option.some.inj h).symm⟩
    · rw [List.getElem?_eq_none (by show 1 ≤ _; omega)] at h
      cases h
theorem get_old {α : Type} {xs : List α} {x y : α} {j : Nat} (h : xs[j]? = some y) : (xs ++ [x])[j]? = some y := by
  rw [List.getElem?_append_left (List.getElem?_eq_some_iff.mp h).1]
  exact h
theorem get_end {α : Type} {xs : List α} {x : α} {j : Nat} (h : j = xs.length) : (xs ++ [x])[j]? = some x := by
  subst h
  rw [List.getElem?_append_right (Nat.le_refl _), Nat.sub_self]
  rfl
theorem Sta.push {x : Nat × Nat} {b : Addr} {v ev : V} {t : Addr} (h : Sta P w K H i ws kvs rows) (hb : ∀ ks, keyAt i = .inr ks → H b = some (.tup (ks.map kV))) (hv : WAt K H v x) (ht : SqT K H t [ev, .int (x.1 : Nat)]) (he : ExAt K H ev (lfAt i)) (hx : 1 ≤ x.1 ∧ x.1 ≤ 24 ∧ x.2 < 2 ^ x.1) :
    Sta P w K H (i + 1) (ws ++ [x]) (kvs ++ [(keyAt i, b, v)]) (rows ++ [.ref t]) := by
  have kl : kvs.length = i := by
    have := congrArg List.length h.kk
    rw [List.length_map, List.length_map, List.length_range] at this
    exact this
  refine ⟨by rw [List.length_append, h.lw]; rfl, ?_, fun q m ks e => ?_, fun j y e => ?_, by rw [List.length_append, h.rl]; rfl, fun j y e => ?_, fun y m => ?_⟩
  · rw [List.map_append, h.kk, List.range_succ, List.map_append]
    rfl
  · rcases List.mem_append.mp m with g | g
    · exact h.kt q g ks e
    · rw [List.mem_singleton.mp g] at e ⊢
      exact hb ks e
  · rcases get_snoc e with g | ⟨g, rfl⟩
    · obtain ⟨b2, v2, a1, a2⟩ := h.kv j y g
      exact ⟨b2, v2, get_old a1, a2⟩
    · rw [h.lw] at g
      subst g
      exact ⟨b, v, get_end kl.symm, hv⟩
  · rcases get_snoc e with g | ⟨g, rfl⟩
    · obtain ⟨t2, v2, a1, a2⟩ := h.rr j y g
      exact ⟨t2, v2, get_old a1, a2⟩
    · rw [h.lw] at g
      subst g
      exact ⟨t, ev, get_end h.rl.symm, ht, he⟩
  · rcases List.mem_append.mp m with g | g
    · exact h.wb y g
    · rw [List.mem_singleton.mp g]
      exact hx
end
theorem three_of {a b c : Int} {i : Nat} {y : V} (h : [V.int a, V.int b, V.int c][i]? = some y) : ∃ k, y = V.int k ∧ (k = a ∨ k = b ∨ k = c) := by
  match i, h with
  | 0, h => exact ⟨a, (Option.some.inj h).symm, .inl rfl⟩
  | 1, h => exact ⟨b, (Option.some.inj h).symm, .inr (.inl rfl)⟩
  | 2, h => exact ⟨c, (Option.some.inj h).symm, .inr (.inr rfl)⟩
theorem four_of {a b c d : Int} {i : Nat} {y : V} (h : [V.int a, V.int b, V.int c, V.int d][i]? = some y) : ∃ k, y = V.int k ∧ (k = a ∨ k = b ∨ k = c ∨ k = d) := by
  match i, h with
  | 0, h => exact ⟨a, (Option.some.inj h).symm, .inl rfl⟩
  | 1, h => exact ⟨b, (Option.some.inj h).symm, .inr (.inl rfl)⟩
  | 2, h => exact ⟨c, (Option.some.inj h).symm, .inr (.inr (.inl rfl))⟩
  | 3, h => exact ⟨d, (Option.some.inj h).symm, .inr (.inr (.inr rfl))⟩
def keyNo : MK → Nat
  | .inl x => if x = "a" then 0 else if x = "b" then 1 else if x = "c" then 2 else 4
  | .inr _ => 3
theorem key_no {j : Nat} (h : j < 4) : keyNo (keyAt j) = j := by
  have c : j = 0 ∨ j = 1 ∨ j = 2 ∨ j = 3 := by omega
  rcases c with rfl | rfl | rfl | rfl <;> decide +kernel
theorem key_new {i : Nat} (h : i < 4) : keyAt i ∉ (List.range i).map keyAt := by
  intro m
  obtain ⟨j, hj, e⟩ := (List.mem_map.mp m)
  rw [List.mem_range] at hj
  have := congrArg keyNo e
  rw [key_no h, key_no (by omega)] at this
  omega
theorem key_m : (.inl "m" : MK) ∉ (List.range 4).map keyAt := by
  intro m
  obtain ⟨j, hj, e⟩ := (List.mem_map.mp m)
  rw [List.mem_range] at hj
  have := congrArg keyNo e
  rw [key_no (by omega)] at this
  have h4 : keyNo (.inl "m") = 4 := by decide +kernel
  omega
def Gm (ws : List (Nat × Nat)) (wm bm : Nat) : Gam where
  nm := fun n => if n = "a" then some (ws.getD 0 (1, 0)).1 else if n = "b" then some (ws.getD 1 (1, 0)).1 else if n = "c" then some (ws.getD 2 (1, 0)).1 else none
  pt := fun u n => if u = "u" ∧ n = "x" then some (ws.getD 3 (1, 0)).1 else none
  mm := fun m => if m = "m" then some (wm, bm) else none
def Um (ws : List (Nat × Nat)) (mem : List Nat) : Vl where
  nm := fun n => if n = "a" then (ws.getD 0 (1, 0)).2 else if n = "b" then (ws.getD 1 (1, 0)).2 else (ws.getD 2 (1, 0)).2
  pt := fun _ _ => (ws.getD 3 (1, 0)).2
  mm := fun _ i => mem.getD i 0
theorem getD_at {ws : List (Nat × Nat)} (l : ws.length = 4) {j : Nat} (h : j < 4) : ws[j]? = some (ws.getD j (1, 0)) := by
  rw [List.getD_eq_getElem?_getD, List.getElem?_eq_getElem (by omega)]
  rfl
section
variable {P : Program} {w : World} {K : PySem.W.Frag} {H : Hp} {ws : List (Nat × Nat)} {wm bm : Nat} {mem : List Nat}
theorem names_ok : NamesOk (Gm ws wm bm) where
  nm := fun n w h => by
    unfold Gm at h
    by_cases c1 : n = "a"
    · rw [c1]; decide +kernel
    · by_cases c2 : n = "b"
      · rw [c2]; decide +kernel
      · by_cases c3 : n = "c"
        · rw [c3]; decide +kernel
        · have h : (if n = "a" then some _ else if n = "b" then some _ else if n = "c" then some _ else none) = some w := h
          rw [if_neg c1, if_neg c2, if_neg c3] at h
          cases h
  pt := fun u n w h => by
    by_cases c1 : u = "u" ∧ n = "x"
    · rw [c1.1, c1.2]; exact ⟨by decide +kernel, by decide +kernel⟩
    · have h : (if u = "u" ∧ n = "x" then some _ else none) = some w := h
      rw [if_neg c1] at h
      cases h
  mm := fun m w h => by
    by_cases c1 : m = "m"
    · rw [c1]; decide +kernel
    · have h : (if m = "m" then some _ else none) = some w := h
      rw [if_neg c1] at h
      cases h
/-- the three names and the port -/
theorem nm_cases {n : Str} {u : Nat} (h : (Gm ws wm bm).nm n = some u) : ∃ j, j < 3 ∧ keyAt j = .inl n ∧ (ws.getD j (1, 0)).1 = u ∧ (Um ws mem).nm n = (ws.getD j (1, 0)).2 := by
  have h : (if n = "a" then some (ws.getD 0 (1, 0)).1 else if n = "b" then some (ws.getD 1 (1, 0)).1 else if n = "c" then some (ws.getD 2 (1, 0)).1 else none) = some u := h
  by_cases c1 : n = "a"
  · subst c1
    rw [if_pos rfl] at h
    exact ⟨0, by decide, rfl, Option.some.inj h, by show (if ("a" : Str) = "a" then (ws.getD 0 (1, 0)).2 else if ("a" : Str) = "b" then (ws.getD 1 (1, 0)).2 else (ws.getD 2 (1, 0)).2) = _; exact if_pos rfl⟩
  · rw [if_neg c1] at h
    have e1 : (Um ws mem).nm n = if n = "b" then (ws.getD 1 (1, 0)).2 else (ws.getD 2 (1, 0)).2 := if_neg c1
    by_cases c2 : n = "b"
    · subst c2
      rw [if_pos rfl] at h e1
      exact ⟨1, by decide, rfl, Option.some.inj h, e1⟩
    · rw [if_neg c2] at h e1
      by_cases c3 : n = "c"
      · subst c3
        rw [if_pos rfl] at h
        exact ⟨2, by decide, rfl, Option.some.inj h, e1⟩
      · rw [if_neg c3] at h
        cases h
theorem good_of (l : ws.length = 4) (wb : ∀ x ∈ ws, 1 ≤ x.1 ∧ x.1 ≤ 24 ∧ x.2 < 2 ^ x.1) (hm : ∀ x ∈ mem, x < 2 ^ wm) (lm : mem.length = 2 ^ bm) : Good (Gm ws wm bm) (Um ws mem) where
  nm := fun n u h => by
    obtain ⟨j, hj, _, e1, e2⟩ := nm_cases (mem := mem) h
    rw [e2, ← e1]
    exact (wb _ (List.mem_of_getElem? (getD_at l (by omega)))).2.2
  pt := fun u n v h => by
    have h : (if u = "u" ∧ n = "x" then some (ws.getD 3 (1, 0)).1 else none) = some v := h
    by_cases c1 : u = "u" ∧ n = "x"
    · rw [if_pos c1] at h
      rw [← Option.some.inj h]
      exact (wb _ (List.mem_of_getElem? (getD_at l (by omega)))).2.2
    · rw [if_neg c1] at h
      cases h
  mm := fun m u b h i hi => by
    have h : (if m = "m" then some (wm, bm) else none) = some (u, b) := h
    by_cases c1 : m = "m"
    · rw [if_pos c1] at h
      injection h with h
      injection h with h1 h2
      subst h1
      subst h2
      have e : mem[i]? = some (mem.getD i 0) := by
        rw [List.getD_eq_getElem?_getD, List.getElem?_eq_getElem (by omega)]
        rfl
      exact hm _ (List.mem_of_getElem? e)
    · rw [if_neg c1] at h
      cases h
theorem leaf_wt (l : ws.length = 4) (wb : ∀ x ∈ ws, 1 ≤ x.1 ∧ x.1 ≤ 24 ∧ x.2 < 2 ^ x.1) {j : Nat} (hj : j < 4) : Wt (Gm ws wm bm) (lfAt j) (ws.getD j (1, 0)).1 := by
  have b := (wb _ (List.mem_of_getElem? (getD_at l hj))).2.1
  have c : j = 0 ∨ j = 1 ∨ j = 2 ∨ j = 3 := by omega
  rcases c with rfl | rfl | rfl | rfl
  · exact .nam _ _ (by omega) rfl
  · exact .nam _ _ (by omega) rfl
  · exact .nam _ _ (by omega) rfl
  · exact .port _ _ _ (by omega) rfl
theorem leaf_zh {j : Nat} (hj : j < 4) : exZ (lfAt j) = 1 ∧ exH (lfAt j) = 0 := by
  have c : j = 0 ∨ j = 1 ∨ j = 2 ∨ j = 3 := by omega
  rcases c with rfl | rfl | rfl | rfl <;> exact ⟨exZ_lf _, exH_lf _⟩
theorem leaf_nm (l : ws.length = 4) (wb : ∀ x ∈ ws, 1 ≤ x.1 ∧ x.1 ≤ 24 ∧ x.2 < 2 ^ x.1) {j S h0 : Nat} (hj : j < 4) (hS : 1 ≤ S) (hh : h0 ≤ 9) : NmE (Gm ws wm bm) S h0 (lfAt j) (ws.getD j (1, 0)).1 := by
  obtain ⟨z, h⟩ := leaf_zh hj
  exact nm_of names_ok (leaf_wt l wb hj) (by omega) (by omega) hh
theorem all2_of {α : Type} {R : V → α → Prop} : ∀ {vs : List V} {xs : List α}, vs.length = xs.length → (∀ (j : Nat) x, xs[j]? = some x → ∃ v, vs[j]? = some v ∧ R v x) → All2 R vs xs
  | [], [], _, _ => .nil
  | [], _ :: _, h, _ => by cases h
  | _ :: _, [], h, _ => by cases h
  | v :: vs, x :: xs, h, k => by
    obtain ⟨u, e, r⟩ := k 0 x rfl
    have e : v = u := Option.some.inj e
    subst e
    exact .cons r (all2_of (Nat.succ.inj h) fun j y hy => k (j + 1) y hy)
def leafs (ws : List (Nat × Nat)) : List (Ex × Nat) := (List.range 4).map fun j => (lfAt j, (ws.getD j (1, 0)).1)
theorem leaf_rows {kvs : List (MK × Addr × V)} {rows : List V} (h : Sta P w K H 4 ws kvs rows) {S h0 : Nat} (hS : 1 ≤ S) (hh : h0 ≤ 9) : All2 (NmR K H (Gm ws wm bm) S h0) rows (leafs ws) := by
  refine all2_of (by rw [h.rl]; rfl) fun j x hx => ?_
  unfold leafs at hx
  rw [List.getElem?_map] at hx
  obtain ⟨k, hk, rfl⟩ := Option.map_eq_some_iff.mp hx
  obtain ⟨lt, e⟩ := List.getElem?_eq_some_iff.mp hk
  rw [List.length_range] at lt
  rw [List.getElem_range] at e
  subst e
  obtain ⟨t, v, e1, e2, e3⟩ := h.rr j _ (getD_at h.lw lt)
  exact ⟨_, e1, t, v, rfl, e2, e3, leaf_nm h.lw h.wb lt hS hh⟩
/-- all that the dict tells -/
theorem nm_at {kvs : List (MK × Addr × V)} {rows : List V} {nd tm rm : Addr} {b0 : Addr} (h : Sta P w K H 4 ws kvs rows) (hn : H nd = some (MxO P w nd (kvs ++ [(.inl "m", b0, .ref tm)]))) (ht : SqT K H tm [.int (wm : Nat), .ref rm]) (hr : SqT K H rm (mem.map fun (x : Nat) => V.int (x : Int))) (lm : mem.length = 2 ^ bm) : NmAt K (MGet P w) H nd (Gm ws wm bm) (Um ws mem) := by
  have mx : ∀ H', Ext1 nd H H' → MixAt P w H' nd (kvs ++ [(.inl "m", b0, .ref tm)]) := fun H' s => ⟨s.2 _ hn, fun q m ks e => by
    rcases List.mem_append.mp m with g | g
    · exact s.1 _ _ (h.kt q g ks e) rfl
    · rw [List.mem_singleton.mp g] at e
      cases e⟩
  refine ⟨fun n u e => ?_, fun u n v e => ?_, fun m u b e => ?_⟩
  · obtain ⟨j, hj, ek, e1, e2⟩ := nm_cases (mem := mem) e
    obtain ⟨b, v, k1, k2⟩ := h.kv j _ (getD_at h.lw (by omega))
    refine ⟨v, ?_, fun H' s => .inr ⟨_, .inl n, 0, mx H' s, rfl, b, ?_⟩⟩
    · rw [e2, ← e1]
      exact k2
    · rw [ek] at k1
      exact List.mem_append_left _ (List.mem_of_getElem? k1)
  · have e : (if u = "u" ∧ n = "x" then some (ws.getD 3 (1, 0)).1 else none) = some v := e
    by_cases c1 : u = "u" ∧ n = "x"
    · rw [if_pos c1] at e
      obtain ⟨rfl, rfl⟩ := c1
      obtain ⟨b, x, k1, k2⟩ := h.kv 3 _ (getD_at h.lw (by omega))
      refine ⟨x, ?_, fun H' t s ht => .inr ⟨_, .inr [.inr "u", .inr "x"], t, mx H' s, ⟨rfl, ht⟩, b, List.mem_append_left _ (List.mem_of_getElem? k1)⟩⟩
      rw [← Option.some.inj e]
      exact k2
    · rw [if_neg c1] at e
      cases e
  · have e : (if m = "m" then some (wm, bm) else none) = some (u, b) := e
    by_cases c1 : m = "m"
    · rw [if_pos c1] at e
      injection e with e
      injection e with e1 e2
      subst e1
      subst e2
      subst c1
      refine ⟨tm, rm, ht, ?_, fun H' s => .inr ⟨_, .inl "m", 0, mx H' s, rfl, b0, List.mem_append_right _ (List.mem_singleton.mpr rfl)⟩⟩
      have e : (List.range (2 ^ bm)).map (fun i => V.int ((Um ws mem).mm "m" i : Nat)) = mem.map fun (x : Nat) => V.int (x : Int) := by
        refine List.ext_getElem? fun i => ?_
        rw [List.getElem?_map, List.getElem?_map]
        rcases Nat.lt_or_ge i (2 ^ bm) with l | l
        · rw [List.getElem?_range l, List.getElem?_eq_getElem (by omega)]
          show some (V.int ((mem.getD i 0 : Nat) : Int)) = _
          rw [List.getD_eq_getElem?_getD, List.getElem?_eq_getElem (by omega)]
          rfl
        · rw [List.getElem?_eq_none (by rw [List.length_range]; exact l), List.getElem?_eq_none (by omega)]
          rfl
      rw [e]
      exact hr
    · rw [if_neg c1] at e
      cases e
end
def rTupOf (K : PySem.W.Frag) : List V → Hp → VK → Prop := fun xs H Q => ∃ p ys, xs = [V.ref p] ∧ ((SqL K H p ys ∧ ∀ l, H l = none → Q (.ref l) (upd H l (.tup ys))) ∨ (SqT K H p ys ∧ Q (.ref p) H))
structure Tx (mg : Str → Option Value) : Prop where
  range : mg "range" = none
  tuple : mg "tuple" = none
  isinstance : mg "isinstance" = none
def spKN (K : PySem.W.Frag) (G : Hp → Addr → V → V → Prop) : Sp := fun vs H Q _ => ∃ (p c : Addr) (m : Nat), vs = [.ref p] ∧ PenC H p c m ∧ m ≤ 10000000 ∧
  ∀ (H' : Hp) (t nd rw : Addr) (od : HO) (Γ : Gam) (U : Vl) (rows : List V) (es : List (Ex × Nat)), PenC H' p c (m + 60) → But p H H' → SqT K H' t [.ref nd, .ref rw] → NmAt K G H' nd Γ U → Good Γ U → H' nd = some od → nd ≠ p → H' rw = some (.lst rows) → rw ≠ p → rows.length ≤ 1000 → All2 (NmR K H' Γ 5 2) rows es → Q (.ref t) H'
section
variable {P : Program} {w : World} {K : PySem.W.Frag} {mg : Str → Option Value} {base : Heap} {f : Addr} {fd : FuncData}
abbrev nKN : List Str := ["_law_pen_here", "_law_names", "_law_row", "_law_called", "_law_width", "_law_word_here", "_law_bits", "_law_place"]
theorem scKN : FnScope nKN ["_law_pen_here"] (defScope sLKnown) := ⟨rfl, rfl, rfl, by decide +kernel, rfl, by decide +kernel, by decide +kernel⟩
theorem ok_kn (F : FnP K "_law_known" sLKnown f fd) (T : Tx mg)
    {fDR fPI fDE : Addr} {dDR dPI dDE : FuncData}
    (GDR : FnOk P w K mg base CX0 1 fDR dDR ["_law_pen_here", "_law_many"] (spDraw)) (gDR : mg "_law_draw" = some (.ref fDR)) (kDR : PySem.W.keepIn K (.ref fDR) = true) (bDR : Binds K dDR ["_law_pen_here", "_law_many"] [])
    (GPI : FnOk P w K mg base CX0 2 fPI dPI ["_law_pen_here", "_law_some"] ((spPick K))) (gPI : mg "_law_pick" = some (.ref fPI)) (kPI : PySem.W.keepIn K (.ref fPI) = true) (bPI : Binds K dPI ["_law_pen_here", "_law_some"] [])
    (GDE : FnOk P w K mg base CX0 4 fDE dDE ["_law_pen_here", "_law_width", "_law_names", "_law_deep"] ((spDE K 1))) (gDE : mg "_law_drawn_expression" = some (.ref fDE)) (kDE : PySem.W.keepIn K (.ref fDE) = true) (bDE : Binds K dDE ["_law_pen_here", "_law_width", "_law_names", "_law_deep"] [])
    : FnOk P w K mg base CX0 5 f fd ["_law_pen_here"] (spKN K (MGet P w)) := by
  refine F.ok scKN (fun vs H Q E h => ?_) (fun cdv A outer s H vs Q E hr h => ?_)
  · obtain ⟨p, c, m, rfl, _⟩ := h
    rfl
  · obtain ⟨p, c, m, rfl, hP, hm, q⟩ := h
    have hu := hu_of hr
    refine ⟨_, PSs.nox (pss_cons (ps_par (i := 1) (j := 2) rfl scKN.nd rfl rfl (by decide) rfl rfl (pa_cons Mx.pe_mnew (pa_cons (pe_lst pa_nil) pa_nil)) (by rfl))
      (pss_cons (ps_for PassesOwn.never rfl (pi_list (pe_lst (pa_cons pe_str (pa_cons pe_str (pa_cons pe_str (pa_cons (pe_tup (pa_cons pe_str (pa_cons pe_str pa_nil))) pa_nil)))))) (pg_name (i := 3) scKN.nd rfl (Or.inl rfl))
        (pss_cons (ps_set (i := 4) scKN.nd rfl (Or.inr rfl) (pe_op op_add pe_int (pe_call GDR (hr.mono (by decide)) (by rfl) gDR kDR bDR .nil pass0 (pa_cons (pv 0) (pa_cons (pe_call GPI (hr.mono (by decide)) (by rfl) gPI kPI bPI .nil pass0 (pa_cons (pv 0) (pa_cons (pe_lst (pa_cons pe_int (pa_cons pe_int (pa_cons pe_int pa_nil)))) pa_nil))) pa_nil)))))
        (pss_cons (ps_set (i := 5) scKN.nd rfl (Or.inl rfl) (pe_call GPI (hr.mono (by decide)) (by rfl) gPI kPI bPI .nil pass0 (pa_cons (pv 0) (pa_cons (pe_lst (pa_cons pe_int (pa_cons (pe_op op_sub (pe_op op_oneShl pe_int (pv 4)) pe_int) (pa_cons (pe_call GDR (hr.mono (by decide)) (by rfl) gDR kDR bDR .nil pass0 (pa_cons (pv 0) (pa_cons (pe_op op_oneShl pe_int (pv 4)) pa_nil))) (pa_cons (pe_op op_fdiv (pe_op op_oneShl pe_int (pv 4)) pe_int) pa_nil))))) pa_nil))))
        (pss_cons (Mx.ps_mput hu (pv 1) (pv 3) (pe_tup (pa_cons (pv 4) (pa_cons (pv 5) pa_nil))) rfl)
        (pss_one (ps_expr (pe_bm PySem.F.plainAttrs_list PySem.F.slot_list_append PySem.F.type_list_append mt_append (pv 2) (pa_cons (pe_tup (pa_cons (pe_ifExp (pt_val (pe_callB call_isi (by rfl) T.isinstance (by decide +kernel) (pa_cons (pv 3) (pa_cons (pe_bltn (v := .ty "tuple") (by rfl) T.tuple (by decide +kernel) rfl) pa_nil)))) (pe_op op_catA (pe_tup (pa_cons pe_str pa_nil)) (pv 3)) (pe_tup (pa_cons pe_str (pa_cons (pv 3) pa_nil)))) (pa_cons (pv 4) pa_nil))) pa_nil))))))))
      (pss_cons (ps_asg (pe_tup (pa_cons (pe_op op_add pe_int (pe_call GDR (hr.mono (by decide)) (by rfl) gDR kDR bDR .nil pass0 (pa_cons (pv 0) (pa_cons pe_int pa_nil)))) (pa_cons (pe_op op_add pe_int (pe_call GDR (hr.mono (by decide)) (by rfl) gDR kDR bDR .nil pass0 (pa_cons (pv 0) (pa_cons pe_int pa_nil)))) pa_nil))) (pg_tup rfl (pgs_cons (pg_name (i := 4) scKN.nd rfl (Or.inr rfl)) (pgs_cons (pg_name (i := 6) scKN.nd rfl (Or.inl rfl)) pgs_nil))))
      (pss_cons (Mx.ps_mput hu (pv 1) pe_str (pe_tup (pa_cons (pv 4) (pa_cons (pe_callTy (T := "tuple") (r := rTupOf K) (by exact call_tuple_of) (by rfl) T.tuple (by decide +kernel) (pa_cons (pe_lc (own := [("_law_place", 7)]) (g := gName 7) (tt := tYes) rfl scKN.nd (pi_range1 (by rfl) T.range (pa_cons (pe_op op_oneShl pe_int (pv 6)) pa_nil)) (blkOk_by (N := nKN) (sc := defScope sLKnown) (by decide +kernel)) (fun _ _ _ _ _ => pg_name (i := 7) scKN.nd rfl (Or.inl rfl)) (fun _ _ _ _ _ => pts_nil) (fun _ _ _ _ _ => (pe_call GDR (hr.mono (by decide)) (by rfl) gDR kDR bDR .nil pass0 (pa_cons (pv 0) (pa_cons (pe_op op_oneShl pe_int (pv 4)) pa_nil))))) pa_nil)) pa_nil))) rfl)
      (pss_cons (ps_expr (pe_bm PySem.F.plainAttrs_list PySem.F.slot_list_append PySem.F.type_list_append mt_append (pv 2) (pa_cons (pe_tup (pa_cons (pe_tup (pa_cons pe_str (pa_cons pe_str (pa_cons (pe_call GDE (hr.mono (by decide)) (by rfl) gDE kDE bDE .nil pass0 (pa_cons (pv 0) (pa_cons (pv 6) (pa_cons (pv 2) (pa_cons pe_int pa_nil))))) pa_nil)))) (pa_cons (pv 4) pa_nil))) pa_nil)))
      (pss_one (ps_ret (pe_tup (pa_cons (pv 1) (pa_cons (pv 2) pa_nil)))))))))), ?_⟩
    refine fun nd nN => ⟨len0, fun rw nR => ⟨_, _, rfl, ?_⟩⟩
    have sN := same_new (u := MxO P w nd []) nN
    have nR : upd H nd (MxO P w nd []) rw = none := nR
    have sR := same_new (u := .lst []) nR
    have hN0 := sR _ _ (upd_same (H := H) (a := nd) (o := MxO P w nd []))
    have hR0 := upd_same (H := upd H nd (MxO P w nd [])) (a := rw) (o := .lst [])
    have nr : nd ≠ rw := ne_of_none (upd_same (H := H) (a := nd) (o := MxO P w nd [])) nR
    obtain ⟨Np, Nc⟩ := hP.free nN
    obtain ⟨Rp, Rc⟩ := (hP.same sN).free nR
    have s2 := sN.trans sR
    have P2 := hP.same s2
    generalize hg : upd (upd H nd _) rw _ = H2
    have hg : upd (upd H nd (MxO P w nd [])) rw (.lst []) = H2 := hg
    rw [hg] at s2 hN0 hR0 P2
    refine ⟨len2, fun tu nT => ⟨len4, fun L nL => ?_⟩⟩
    have sT := same_new (u := .tup [.str "u", .str "x"]) nT
    have hT0 := upd_same (H := H2) (a := tu) (o := .tup [.str "u", .str "x"])
    have sL := same_new (u := .lst [.str "a", .str "b", .str "c", .ref tu]) nL
    have hL0 := upd_same (H := upd H2 tu (.tup [.str "u", .str "x"])) (a := L) (o := .lst [.str "a", .str "b", .str "c", .ref tu])
    have Lp := ((P2.same sT).free nL).1
    have LN : L ≠ nd := fun e => by
      have := sT _ _ hN0
      rw [← e, nL] at this
      cases this
    have LR : L ≠ rw := fun e => by
      have := sT _ _ hR0
      rw [← e, nL] at this
      cases this
    have hT1 := sL _ _ hT0
    have s4 := sT.trans sL
    have hN1 := s4 _ _ hN0
    have hR1 := s4 _ _ hR0
    have P4 := P2.same s4
    have s04 := s2.trans s4
    generalize upd (upd H2 tu _) L _ = H4 at s4 hL0 hT1 hN1 hR1 P4 s04 ⊢
    refine ⟨L, rfl, ⟨_, SqL.of hL0⟩, for_list (K := K) (a := L) (xs := [.str "a", .str "b", .str "c", .ref tu])
      (fun i σ H' => ∃ (x3 x4 x5 : Option V) (ws : List (Nat × Nat)) (kvs : List (MK × Addr × V)) (rows : List V), σ = [some (.ref p), some (.ref nd), some (.ref rw), x3, x4, x5, none, none] ∧ PenC H' p c (m + 4 * i) ∧ But p H H' ∧ H' nd = some (MxO P w nd kvs) ∧ H' rw = some (.lst rows) ∧ H' L = some (.lst [.str "a", .str "b", .str "c", .ref tu]) ∧ H' tu = some (.tup [.str "u", .str "x"]) ∧ Sta P w K H' i ws kvs rows)
      ⟨none, none, none, [], [], [], rfl, P4, But.of_same s04, hN1, hR1, hL0, hT1, ⟨rfl, rfl, (fun q h => by cases h), (fun j x h => by cases h), rfl, (fun j x h => by cases h), (fun x h => by cases h)⟩⟩ (fun i σ H' _ ⟨_, _, _, _, _, _, _, _, _, _, _, h, _⟩ => SqL.of h) ?_ ?_⟩
    · rintro i y σ H5 hy ⟨x3, x4, x5, ws, kvs, rows, rfl, P5, B5, hN5, hR5, hL5, hT5, st⟩
      have i4 : i < 4 := (List.getElem?_eq_some_iff.mp hy).1
      refine ⟨_, rfl, _, rfl, len3, fun L1 nL1 => ⟨p, c, L1, m + 4 * i, _, rfl, P5.same (same_new nL1), by omega, (P5.free nL1).1, SqL.of upd_same, (by show 0 < 3; decide), (by show 3 ≤ 1000; decide), fun v j H6 hv P6 B6 => ?_⟩⟩
      obtain ⟨z, rfl, hz⟩ := three_of hv
      refine ⟨p, c, _, z, rfl, P6, by omega, by omega, by omega, fun r H7 r0 r1 P7 B7 => ⟨_, _, rfl, rfl, ?_⟩⟩
      obtain ⟨n, rfl⟩ := Int.eq_ofNat_of_zero_le r0
      have we : V.int (1 + (n : Int)) = V.int ((1 + n : Nat) : Int) := congrArg V.int (by omega)
      have w24 : 1 + n ≤ 24 := by omega
      have pw0 : (0 : Int) < 2 ^ (1 + n) := Int.pow_pos (by decide)
      have pw1 : (2 : Int) ^ (1 + n) ≤ 16777216 := by
        rw [← pow_cast]
        have : 2 ^ (1 + n) ≤ 2 ^ 24 := Nat.pow_le_pow_right (by decide) w24
        have h2 : (2 : Nat) ^ 24 = 16777216 := by decide
        omega
      have B57 := (But.of_same (p := p) (same_new (u := .lst [.int 2, .int 8, .int 24]) nL1)).trans (B6.trans B7)
      refine ⟨_, rfl, _, rfl, 1 + n, rfl, we, by omega, _, _, rfl, rfl, _, rfl, _, rfl, 1 + n, rfl, we, by omega, p, c, _, _, rfl, P7, by omega, pw0, by omega, fun x H8 x0 x1 P8 B8 => ?_⟩
      refine ⟨_, rfl, 1 + n, rfl, we, by omega, _, _, rfl, rfl, ⟨by decide, by decide⟩, len4, fun L2 nL2 => ?_⟩
      have sL2 := same_new (u := .lst [.int 0, .int (2 ^ (1 + n) - 1), .int x, .int (2 ^ (1 + n) / 2)]) nL2
      refine ⟨p, c, L2, _, [.int 0, .int (2 ^ (1 + n) - 1), .int x, .int (2 ^ (1 + n) / 2)], rfl, P8.same sL2, by omega, (P8.free nL2).1, SqL.of upd_same, (by show 0 < 4; decide), (by show 4 ≤ 1000; decide), fun v j H9 hv P9 B9 => ?_⟩
      obtain ⟨u, rfl, hu4⟩ := four_of hv
      obtain ⟨u0, u1⟩ : 0 ≤ u ∧ u < 2 ^ (1 + n) := by
        rcases hu4 with rfl | rfl | rfl | rfl
        · omega
        · omega
        · omega
        · omega
      obtain ⟨v, rfl⟩ := Int.eq_ofNat_of_zero_le u0
      have vb : v < 2 ^ (1 + n) := by rw [← pow_cast] at u1; exact Int.ofNat_lt.mp u1
      have B59 := B57.trans (B8.trans ((But.of_same sL2).trans B9))
      have f59 := Firm.pen B59 P5
      have hN9 := B59 _ _ hN5 Np
      have hR9 := B59 _ _ hR5 Rp
      have hL9 := B59 _ _ hL5 Lp
      have hT9 := f59 _ _ hT5 rfl
      have st9 := st.firm f59
      have B09 := B5.trans B59
      clear B57 B6 B7 B8 sL2 B9 B59 f59 hN5 hR5 hL5 hT5 st nL1 nL2 P8 P7 P6 hv hu4
      refine ⟨_, rfl, _, rfl, len2, fun t nt => ?_⟩
      have stt := same_new (u := .tup [.int (1 + (n : Int)), .int (v : Nat)]) nt
      have ht := upd_same (H := H9) (a := t) (o := .tup [.int (1 + (n : Int)), .int (v : Nat)])
      have hNa := stt _ _ hN9
      have hRa := stt _ _ hR9
      have hLa := stt _ _ hL9
      have hTa := stt _ _ hT9
      have sta := st9.firm (Firm.of stt)
      have Pa := P9.same stt
      have Ba := B09.trans (But.of_same stt)
      generalize upd H9 t _ = Ha at stt ht hNa hRa hLa hTa sta Pa Ba ⊢
      have hb : ∀ ks, keyAt i = .inr ks → Ha tu = some (.tup (ks.map kV)) := by
        intro ks e
        have c4 : i = 0 ∨ i = 1 ∨ i = 2 ∨ i = 3 := by omega
        rcases c4 with rfl | rfl | rfl | rfl
        · cases e
        · cases e
        · cases e
        · injection e with e
          rw [← e]
          exact hTa
      have yk : YK Ha y tu (keyAt i) := by
        have c4 : i = 0 ∨ i = 1 ∨ i = 2 ∨ i = 3 := by omega
        rcases c4 with rfl | rfl | rfl | rfl
        · exact (Option.some.inj hy).symm
        · exact (Option.some.inj hy).symm
        · exact (Option.some.inj hy).symm
        · exact ⟨(Option.some.inj hy).symm, hTa⟩
      have kl : kvs.length = i := by
        have := congrArg List.length sta.kk
        rw [List.length_map, List.length_map, List.length_range] at this
        exact this
      refine ⟨_, rfl, _, rfl, nd, _, rfl, ⟨kvs, keyAt i, tu, ⟨hNa, sta.kt⟩, yk, by rw [sta.kk]; exact key_new i4, by omega, rfl⟩, ?_⟩
      have fb := Firm.upd (o := MxO P w nd (kvs ++ [(keyAt i, tu, .ref t)])) hNa rfl
      have hNb := upd_same (H := Ha) (a := nd) (o := MxO P w nd (kvs ++ [(keyAt i, tu, .ref t)]))
      have oth : ∀ b, b ≠ nd → upd Ha nd (MxO P w nd (kvs ++ [(keyAt i, tu, .ref t)])) b = Ha b := fun b h => upd_ne h
      have Pb : PenC (upd Ha nd (MxO P w nd (kvs ++ [(keyAt i, tu, .ref t)]))) p c (m + 4 * i + 1 + 1 + 1 + 1) := Pa.upd Np Nc
      generalize hg2 : upd Ha nd _ = Hb
      have hg2 : upd Ha nd (MxO P w nd (kvs ++ [(keyAt i, tu, .ref t)])) = Hb := hg2
      rw [hg2] at fb hNb oth Pb
      have hRb : Hb rw = some (.lst rows) := by rw [oth rw nr.symm]; exact hRa
      have hLb : Hb L = some (.lst [.str "a", .str "b", .str "c", .ref tu]) := by rw [oth L LN]; exact hLa
      have hTb := fb _ _ hTa rfl
      have htb := fb _ _ ht rfl
      have stb := sta.firm fb
      have hbb : ∀ ks, keyAt i = .inr ks → Hb tu = some (.tup (ks.map kV)) := fun ks e => fb _ _ (hb ks e) rfl
      have Bb : ∀ b o, H b = some o → b ≠ p → Hb b = some o := fun b o e ne => by
        rw [oth b (fun h => by rw [h, nN] at e; cases e)]
        exact Ba b o e ne
      clear oth Ba sta Pa hTa ht hNa hRa hLa hb fb st9 hT9 hL9 hR9 hN9 B09
      have fin : ∀ (He : Hp) (ev : V) (tr : Addr), Same Hb He → ExAt K He ev (lfAt i) → He tr = some (.tup [ev, .int (1 + (n : Int))]) → ∃ (x3 x4 x5 : Option V) (ws2 : List (Nat × Nat)) (kvs2 : List (MK × Addr × V)) (rows2 : List V), [some (.ref p), some (.ref nd), some (.ref rw), some y, some (.int (1 + (n : Int))), some (.int (v : Nat)), none, none] = [some (.ref p), some (.ref nd), some (.ref rw), x3, x4, x5, none, none] ∧ PenC (upd He rw (.lst (rows ++ [.ref tr]))) p c (m + 4 * (i + 1)) ∧ But p H (upd He rw (.lst (rows ++ [.ref tr]))) ∧ upd He rw (.lst (rows ++ [.ref tr])) nd = some (MxO P w nd kvs2) ∧ upd He rw (.lst (rows ++ [.ref tr])) rw = some (.lst rows2) ∧ upd He rw (.lst (rows ++ [.ref tr])) L = some (.lst [.str "a", .str "b", .str "c", .ref tu]) ∧ upd He rw (.lst (rows ++ [.ref tr])) tu = some (.tup [.str "u", .str "x"]) ∧ Sta P w K (upd He rw (.lst (rows ++ [.ref tr]))) (i + 1) ws2 kvs2 rows2 := by
        intro He ev tr sb hev htr
        have hRe := sb _ _ hRb
        have fe := Firm.upd (o := .lst (rows ++ [.ref tr])) hRe rfl
        refine ⟨_, _, _, ws ++ [(1 + n, v)], _, _, rfl, ((Pb.same sb).upd Rp Rc).more (by omega), fun b o e ne => ?_, by rw [upd_ne nr]; exact sb _ _ hNb, upd_same, by rw [upd_ne LR]; exact sb _ _ hLb, fe _ _ (sb _ _ hTb) rfl, ?_⟩
        · rw [upd_ne (fun h => by
            rw [h] at e
            have := sN _ _ e
            rw [nR] at this
            cases this)]
          exact sb _ _ (Bb b o e ne)
        · refine ((stb.firm (Firm.of sb)).firm fe).push (fun ks e => fe _ _ (sb _ _ (hbb ks e)) rfl) ⟨t, rfl, ?_⟩ (t := tr) (ev := ev) ?_ (hev.firm fe) ⟨by omega, w24, vb⟩
          · have := SqT.of (K := K) (fe _ _ (sb _ _ htb) rfl)
            rw [we] at this
            exact this
          · have := SqT.of (K := K) (fe _ _ htr rfl)
            rw [we] at this
            exact this
      have rl := stb.rl
      have c4 : (∃ x : Str, y = .str x ∧ lfAt i = .lf (.nam x)) ∨ (y = .ref tu ∧ lfAt i = .lf (.port "u" "x")) := by
        have c4 : i = 0 ∨ i = 1 ∨ i = 2 ∨ i = 3 := by omega
        rcases c4 with rfl | rfl | rfl | rfl
        · exact .inl ⟨"a", (Option.some.inj hy).symm, rfl⟩
        · exact .inl ⟨"b", (Option.some.inj hy).symm, rfl⟩
        · exact .inl ⟨"c", (Option.some.inj hy).symm, rfl⟩
        · exact .inr ⟨(Option.some.inj hy).symm, rfl⟩
      refine ⟨_, rfl, .inl ⟨rfl, _, SqL.of hRb⟩, ?_⟩
      rcases c4 with ⟨x, rfl, el⟩ | ⟨rfl, el⟩
      · have hd : Dp K Hb (.str x) (.str x) := .str x
        refine ⟨_, rfl, _, _, _, _, _, rfl, .ty _, ty_of hd, kit_ty (a := "str") (b := "tuple") (r := false) (by decide +kernel), _, rfl, ?_⟩
        refine goF rfl ?_
        refine ⟨_, rfl, len2, fun t2 n2 => ?_⟩
        have s2' := same_new (u := .tup [.str "name", .str x]) n2
        refine ⟨_, rfl, len2, fun t3 n3 => ?_⟩
        have s3' := same_new (u := .tup [.ref t2, .int (1 + (n : Int))]) n3
        refine ⟨rw, rows, _, rfl, rfl, s3' _ _ (s2' _ _ hRb), Nat.lt_of_lt_of_le (by omega : rows.length < 1000) (by decide), ?_⟩
        refine fin _ (.ref t2) t3 (s2'.trans s3') ?_ upd_same
        rw [el]
        unfold ExAt exD lfD
        exact .tup (SqT.of (s3' _ _ upd_same)) (.cons (.str _) (.cons (.str _) .nil))
      · have hd : Dp K Hb (.ref tu) (.tuple [.str "u", .str "x"]) := .tup (SqT.of hTb) (.cons (.str _) (.cons (.str _) .nil))
        refine ⟨_, rfl, _, _, _, _, _, rfl, .ty _, ty_of hd, kit_ty (a := "tuple") (b := "tuple") (r := true) (by decide +kernel), _, rfl, ?_⟩
        refine goT rfl ?_
        refine ⟨len1, fun t1 n1 => ?_⟩
        have s1' := same_new (u := .tup [.str "port"]) n1
        refine ⟨_, rfl, t1, tu, [.str "port"], [.str "u", .str "x"], rfl, rfl, SqT.of upd_same, SqT.of (s1' _ _ hTb), (by show 3 ≤ sizeLine; decide), (fun h => by cases h), (fun _ h => by cases h), fun _ _ t2 n2 => ?_⟩
        have s2' := same_new (u := .tup ([.str "port"] ++ [.str "u", .str "x"])) n2
        refine ⟨_, rfl, len2, fun t3 n3 => ?_⟩
        have s3' := same_new (u := .tup [.ref t2, .int (1 + (n : Int))]) n3
        refine ⟨rw, rows, _, rfl, rfl, s3' _ _ (s2' _ _ (s1' _ _ hRb)), Nat.lt_of_lt_of_le (by omega : rows.length < 1000) (by decide), ?_⟩
        refine fin _ (.ref t2) t3 (s1'.trans (s2'.trans s3')) ?_ upd_same
        rw [el]
        unfold ExAt exD lfD
        exact .tup (SqT.of (s3' _ _ upd_same)) (.cons (.str _) (.cons (.str _) (.cons (.str _) .nil)))
    · rintro σ H5 ⟨x3, x4, x5, ws, kvs, rows, rfl, P5, B5, hN5, hR5, hL5, hT5, st⟩
      have st : Sta P w K H5 4 ws kvs rows := st
      clear hL5 hT5 hL0 hT1 hN1 hR1 P4 s04 s4
      refine ⟨_, rfl, p, c, _, 5, rfl, P5, by show m + 4 * 4 ≤ _; omega, by decide, by decide, fun r H6 r0 r1 P6 B6 => ⟨_, _, rfl, rfl, ?_⟩⟩
      obtain ⟨n, rfl⟩ := Int.eq_ofNat_of_zero_le r0
      refine ⟨_, rfl, p, c, _, 3, rfl, P6, by show m + 4 * 4 + 1 ≤ _; omega, by decide, by decide, fun r2 H7 r20 r21 P7 B7 => ⟨_, _, rfl, rfl, len2, fun z nz => ?_⟩⟩
      obtain ⟨n2, rfl⟩ := Int.eq_ofNat_of_zero_le r20
      refine ⟨z, _, rfl, SqT.of upd_same, rfl, _, _, rfl, _, _, rfl, rfl, ?_⟩
      have we : V.int (1 + (n : Int)) = V.int ((1 + n : Nat) : Int) := congrArg V.int (by omega)
      have we2 : V.int (1 + (n2 : Int)) = V.int ((1 + n2 : Nat) : Int) := congrArg V.int (by omega)
      have pb : (((2 : Int) ^ (1 + n2)).toNat) = 2 ^ (1 + n2) := by rw [← pow_cast, Int.toNat_natCast]
      have p8 : 2 ^ (1 + n2) ≤ 8 := by
        have := Nat.pow_le_pow_right (n := 2) (by decide) (show 1 + n2 ≤ 3 by omega)
        exact this
      have pw0 : (0 : Int) < 2 ^ (1 + n) := Int.pow_pos (by decide)
      have pw1 : (2 : Int) ^ (1 + n) ≤ 32 := by
        rw [← pow_cast]
        have h1 := Nat.pow_le_pow_right (n := 2) (by decide) (show 1 + n ≤ 5 by omega)
        have h2 : (2 : Nat) ^ 5 = 32 := by decide
        omega
      have sz := same_new (u := .tup [.int (1 + (n : Int)), .int (1 + (n2 : Int))]) nz
      have P7z := P7.same sz
      have B7z := (B6.trans B7).trans (But.of_same (p := p) sz)
      generalize upd H7 z _ = H8 at sz P7z B7z ⊢
      clear P6 B6 P7 B7 nz
      have pw2 : (0 : Int) < 2 ^ (1 + n2) := Int.pow_pos (by decide)
      have pw3 : (2 : Int) ^ (1 + n2) < 2 ^ 62 := by
        rw [← pow_cast]
        have h3 : (2 : Int) ^ 62 = 4611686018427387904 := by decide
        omega
      refine ⟨_, rfl, _, rfl, 1 + n2, rfl, we2, by omega, (2 : Int) ^ (1 + n2), rfl, Int.le_of_lt (Int.lt_trans (by decide : -(2 : Int) ^ 62 < 0) pw2), pw3, fun D nD => ?_⟩
      obtain ⟨Dp, Dc⟩ := P7z.free nD
      refine lc_range (lo := 0) (n := ((2 : Int) ^ (1 + n2)).toNat) (fun j H' => PenC H' p c (m + 18 + j) ∧ But p H8 H' ∧ ∃ xs : List Nat, H' D = some (.lst (xs.map fun (x : Nat) => V.int (x : Int))) ∧ xs.length = j ∧ ∀ x ∈ xs, x < 2 ^ (1 + n)) ⟨(P7z.same (same_new nD)).more (by show m + 4 * 4 + 1 + 1 ≤ m + 18 + 0; omega), But.of_same (same_new nD), [], upd_same, rfl, (fun x h => by cases h)⟩ ?_ ?_
      · rintro j H9 hj ⟨P9, B9, xs, h9, l9, a9⟩
        rw [pb] at hj
        refine ⟨rfl, yes_of ?_⟩
        refine ⟨_, rfl, _, rfl, 1 + n, rfl, we, by omega, p, c, _, _, rfl, P9, by omega, pw0, by omega, fun x Ha x0 x1 Pa Ba => ?_⟩
        obtain ⟨x, rfl⟩ := Int.eq_ofNat_of_zero_le x0
        have ha := Ba _ _ h9 Dp
        refine ⟨_, ha, ?_, Pa.upd Dp Dc, fun b o e ne => ?_, xs ++ [x], ?_, by rw [List.length_append, l9]; rfl, fun y hy => ?_⟩
        · rw [List.length_map]
          exact Nat.lt_of_lt_of_le (by omega : xs.length < 10) (by decide)
        · rw [upd_ne (ne_of_none e nD)]
          exact Ba _ _ (B9 _ _ e ne) ne
        · rw [upd_same, List.map_append]
          rfl
        · rcases List.mem_append.mp hy with g | g
          · exact a9 y g
          · rw [List.mem_singleton.mp g]
            rw [← pow_cast] at x1
            exact Int.ofNat_lt.mp x1
      rintro H9 ⟨P9, B9, xs, h9, l9, a9⟩
      rw [pb] at l9 P9
      refine ⟨D, _, rfl, .inl ⟨SqL.of h9, fun l nl => ⟨len2, fun t nt => ?_⟩⟩⟩
      have sl := same_new (u := .tup (xs.map fun (x : Nat) => V.int (x : Int))) nl
      have hl := upd_same (H := H9) (a := l) (o := .tup (xs.map fun (x : Nat) => V.int (x : Int)))
      have st2 := same_new (u := .tup [.int (1 + (n : Int)), .ref l]) nt
      have ht := upd_same (H := upd H9 l (.tup (xs.map fun (x : Nat) => V.int (x : Int)))) (a := t) (o := .tup [.int (1 + (n : Int)), .ref l])
      have hl2 := st2 _ _ hl
      have s9 := sl.trans st2
      have Bx := (B7z.trans B9).trans (But.of_same (p := p) s9)
      have Px := P9.same s9
      generalize upd (upd H9 l _) t _ = Hx at s9 hl2 ht Bx Px ⊢
      have hNx := Bx _ _ hN5 Np
      have hRx := Bx _ _ hR5 Rp
      have sx := st.firm (Firm.pen Bx P5)
      have B0x := B5.trans Bx
      clear sl hl st2 nl nt nD h9 B9 P9 B7z P7z st hN5 hR5 B5 P5 Bx s9
      have kl : kvs.length = 4 := by
        have := congrArg List.length sx.kk
        rw [List.length_map, List.length_map, List.length_range] at this
        exact this
      refine ⟨_, rfl, nd, _, rfl, ⟨kvs, .inl "m", 0, ⟨hNx, sx.kt⟩, rfl, by rw [sx.kk]; exact key_m, by omega, rfl⟩, ?_⟩
      have fb := Firm.upd (o := MxO P w nd (kvs ++ [(.inl "m", 0, .ref t)])) hNx rfl
      have hNb := upd_same (H := Hx) (a := nd) (o := MxO P w nd (kvs ++ [(.inl "m", 0, .ref t)]))
      have oth : ∀ b, b ≠ nd → upd Hx nd (MxO P w nd (kvs ++ [(.inl "m", 0, .ref t)])) b = Hx b := fun b h => upd_ne h
      have Pb : PenC (upd Hx nd (MxO P w nd (kvs ++ [(.inl "m", 0, .ref t)]))) p c (m + 26) := (Px.upd Np Nc).more (by omega)
      generalize hg2 : upd Hx nd _ = Hb
      have hg2 : upd Hx nd (MxO P w nd (kvs ++ [(.inl "m", 0, .ref t)])) = Hb := hg2
      rw [hg2] at fb hNb oth Pb
      have hRb : Hb rw = some (.lst rows) := by rw [oth rw nr.symm]; exact hRx
      have htb := fb _ _ ht rfl
      have hlb := fb _ _ hl2 rfl
      have stb := sx.firm fb
      have Bb : But p H Hb := fun b o e ne => by
        rw [oth b (fun h => by rw [h, nN] at e; cases e)]
        exact B0x b o e ne
      clear oth B0x sx Px ht hl2 fb hNx hRx
      have rl := stb.rl
      refine ⟨_, rfl, .inl ⟨rfl, _, SqL.of hRb⟩, _, rfl, _, rfl, _, rfl, Gm ws (1 + n) (1 + n2), 1, 0, p, c, rw, m + 26, 1 + n2, rows, leafs ws, congrArg (fun x => [V.ref p, x, V.ref rw, V.int 1]) we2, Pb, by show m + 26 + 5 * 4 ≤ _; omega, Rp, hRb, by omega, leaf_rows stb (Nat.le_refl _) (by decide), Nat.le_refl _, by omega, by omega, fun Hc v e Pc Bc hv wt ez eh => ?_⟩
      have fc := Firm.pen Bc Pb
      refine ⟨len3, fun t2 nt2 => ⟨_, rfl, len2, fun t3 nt3 => ?_⟩⟩
      have s2' := same_new (u := .tup [.str "read", .str "m", v]) nt2
      have h2' := upd_same (H := Hc) (a := t2) (o := .tup [.str "read", .str "m", v])
      have s3' := same_new (u := .tup [.ref t2, .int (1 + (n : Int))]) nt3
      have h3' := upd_same (H := upd Hc t2 (.tup [.str "read", .str "m", v])) (a := t3) (o := .tup [.ref t2, .int (1 + (n : Int))])
      have hR3 := s3' _ _ (s2' _ _ (Bc _ _ hRb Rp))
      have hN3 := s3' _ _ (s2' _ _ (Bc _ _ hNb Np))
      have s23 := s2'.trans s3'
      have h23 := s3' _ _ h2'
      generalize upd (upd Hc t2 _) t3 _ = Hd at s23 h23 h3' hR3 hN3 ⊢
      refine ⟨rw, rows, _, rfl, rfl, hR3, Nat.lt_of_lt_of_le (by omega : rows.length < 1000) (by decide), _, rfl, _, rfl, len2, fun t4 nt4 => ?_⟩
      have fr := Firm.upd (o := .lst (rows ++ [.ref t3])) hR3 rfl
      have s4' := same_new (u := .tup [.ref nd, .ref rw]) nt4
      have ff := (fc.trans (Firm.of s23)).trans (fr.trans (Firm.of s4'))
      have f3 := fr.trans (Firm.of s4')
      have sf := stb.firm ff
      have wtr : Wt (Gm ws (1 + n) (1 + n2)) (.op (.read "m") [e]) (1 + n) := .read "m" e (1 + n) (1 + n2) (by omega) rfl wt
      have hNf := s4' _ _ (show upd Hd rw (.lst (rows ++ [.ref t3])) nd = _ by rw [upd_ne nr]; exact hN3)
      refine q _ t4 nd rw _ (Gm ws (1 + n) (1 + n2)) (Um ws xs) (rows ++ [.ref t3]) (leafs ws ++ [(.op (.read "m") [e], 1 + n)]) ?_ ?_ (SqT.of upd_same) (nm_at sf hNf ?_ (SqT.of (ff _ _ hlb rfl)) l9) (good_of sf.lw sf.wb a9 l9) hNf Np (s4' _ _ upd_same) Rp ?_ ?_
      · exact (((Pc.same s23).upd Rp Rc).same s4').more (by show m + 26 + 5 * 4 ≤ _; omega)
      · intro b o e ne
        refine s4' _ _ ?_
        rw [upd_ne (fun h => by
          rw [h] at e
          have := sN _ _ e
          rw [nR] at this
          cases this)]
        exact s23 _ _ (Bc _ _ (Bb _ _ e ne) ne)
      · have := SqT.of (K := K) (ff _ _ htb rfl)
        rw [we] at this
        exact this
      · rw [List.length_append, rl]
        show 4 + 1 ≤ 1000
        decide
      · refine (leaf_rows sf (by decide) (by decide)).append (.cons ⟨t3, .ref t2, rfl, ?_, ?_, nm_of names_ok wtr ?_ ?_ (by decide)⟩ .nil)
        · have := SqT.of (K := K) (f3 _ _ h3' rfl)
          rw [we] at this
          exact this
        · unfold ExAt exD exDs exDs
          exact .tup (SqT.of (f3 _ _ h23 rfl)) (.cons (.str _) (.cons (.str _) (.cons ((hv.firm (Firm.of s23)).firm f3) .nil)))
        · rw [exZ_op, exZs_cons, exZs_nil]
          have : exZ e ≤ 1 * 4 := ez
          omega
        · rw [exH_op, exHs_cons, exHs_nil]
          omega
end
end Kn
namespace Sr
open PySem PySem.Spec PyProof.Rows L2 Pen Dat Ki Fi Ep Eq Er Es Ev Ew Eu
open Mx (MGet)
/-! ## The law's single operators -/
def G2 (W : Nat) : Gam where
  nm := fun n => if n = "a" then some W else if n = "b" then some W else none
  pt := fun _ _ => none
  mm := fun _ => none
def U2 (va vb : Nat) : Vl where
  nm := fun n => if n = "a" then va else vb
  pt := fun _ _ => 0
  mm := fun _ _ => 0
abbrev eA : Ex := .lf (.nam "a")
abbrev eB : Ex := .lf (.nam "b")
structure RowE (K : PySem.W.Frag) (H : Hp) (Γ : Gam) (U : Vl) (v : V) (e : Ex) : Prop where
  at_ : ∃ t ev dv, v = .ref t ∧ SqT K H t [ev, dv] ∧ ExAt K H ev e ∧ WAt K H dv (den Γ U e)
  wt : ∃ w, Wt Γ e w
  z : exZ e ≤ 50
theorem RowE.firm {K : PySem.W.Frag} {H H' : Hp} {Γ : Gam} {U : Vl} {v : V} {e : Ex} (s : Firm H H') (h : RowE K H Γ U v e) : RowE K H' Γ U v e :=
  ⟨let ⟨t, ev, dv, a, b, c, d⟩ := h.at_; ⟨t, ev, dv, a, firm_seq s b, c.firm s, d.firm s⟩, h.wt, h.z⟩
section
variable {K : PySem.W.Frag} {Γ : Gam} {U : Vl} {σ : L2.St} {H : Hp} {te tw tv : TE} {e : Ex}
/-- a row: an expression, and the word that is due -/
theorem row_of {Q : VK} (wt : ∃ w, Wt Γ e w) (z : exZ e ≤ 50) (he : ∀ Q' : VK, (∀ H' ev, Same H H' → ExAt K H' ev e → Q' ev H') → te σ H Q') {a b : Int} (ha : ((den Γ U e).1 : Int) = a) (hb : ((den Γ U e).2 : Int) = b) (hw : ∀ (H' : Hp) (Q' : VK), Q' (.int a) H' → tw σ H' Q') (hv : ∀ (H' : Hp) (Q' : VK), Q' (.int b) H' → tv σ H' Q')
    (q : ∀ H' t, Same H H' → RowE K H' Γ U (.ref t) e → Q (.ref t) H') : tTup (tCons te (tCons (tTup (tCons tw (tCons tv tNil))) tNil)) σ H Q := by
  subst ha
  subst hb
  refine he _ fun H1 ev s1 x1 => hw _ _ (hv _ _ ⟨len2, fun t2 n2 => ⟨len2, fun t3 n3 => ?_⟩⟩)
  have s2 := same_new (u := .tup [.int ((den Γ U e).1 : Nat), .int ((den Γ U e).2 : Nat)]) n2
  have s3 := same_new (u := .tup [ev, .ref t2]) n3
  exact q _ t3 (s1.trans (s2.trans s3)) ⟨⟨t3, ev, .ref t2, rfl, SqT.of upd_same, x1.firm (Firm.of (s2.trans s3)), t2, rfl, SqT.of (s3 _ _ upd_same)⟩, wt, z⟩
end
structure Tx (mg : Str → Option Value) : Prop where
  int : mg "int" = none
theorem seven_of {i : Nat} {y : V} (h : [V.int 1, V.int 2, V.int 7, V.int 31, V.int 32, V.int 63, V.int 64][i]? = some y) : ∃ k : Nat, y = V.int (k : Nat) ∧ 1 ≤ k ∧ k ≤ 64 := by
  match i, h with
  | 0, h => exact ⟨1, (Option.some.inj h).symm, by decide, by decide⟩
  | 1, h => exact ⟨2, (Option.some.inj h).symm, by decide, by decide⟩
  | 2, h => exact ⟨7, (Option.some.inj h).symm, by decide, by decide⟩
  | 3, h => exact ⟨31, (Option.some.inj h).symm, by decide, by decide⟩
  | 4, h => exact ⟨32, (Option.some.inj h).symm, by decide, by decide⟩
  | 5, h => exact ⟨63, (Option.some.inj h).symm, by decide, by decide⟩
  | 6, h => exact ⟨64, (Option.some.inj h).symm, by decide, by decide⟩
section
variable {K : PySem.W.Frag} {σ : L2.St} {H : Hp} {W va vb : Nat} {ua ub : Addr} {k : Str}
theorem good2 (ha : va < 2 ^ W) (hb : vb < 2 ^ W) : Good (G2 W) (U2 va vb) where
  nm := fun n u h => by
    have h : (if n = "a" then some W else if n = "b" then some W else none) = some u := h
    have e : (U2 va vb).nm n = if n = "a" then va else vb := rfl
    by_cases c1 : n = "a"
    · rw [if_pos c1] at h e
      rw [e, ← Option.some.inj h]
      exact ha
    · rw [if_neg c1] at h e
      by_cases c2 : n = "b"
      · rw [if_pos c2] at h
        rw [e, ← Option.some.inj h]
        exact hb
      · rw [if_neg c2] at h
        cases h
  pt := fun u n w h => by cases h
  mm := fun m w b h => by cases h
theorem wA (h : W ≤ 4096) : Wt (G2 W) eA W := .nam _ _ h rfl
theorem wB (h : W ≤ 4096) : Wt (G2 W) eB W := .nam _ _ h rfl
theorem dA : den (G2 W) (U2 va vb) eA = (W, va) := by rw [den_lf]; rfl
theorem dB : den (G2 W) (U2 va vb) eB = (W, vb) := by rw [den_lf]; rfl
theorem atL {n : Str} (h : H ua = some (.tup [.str "name", .str n])) : ExAt K H (.ref ua) (.lf (.nam n)) := by
  unfold ExAt exD lfD
  exact .tup (SqT.of h) (.cons (.str _) (.cons (.str _) .nil))
theorem he_bin (h5 : σ[5]? = some (some (.ref ua))) (h6 : σ[6]? = some (some (.ref ub))) (ha : H ua = some (.tup [.str "name", .str "a"])) (hb : H ub = some (.tup [.str "name", .str "b"])) (Q' : VK) (q : ∀ H' ev, Same H H' → ExAt K H' ev (.op (.bin k) [eA, eB]) → Q' ev H') : tTup (tCons (tC (.str k)) (tCons (tVar 5) (tCons (tVar 6) tNil))) σ H Q' :=
  ⟨_, h5, _, h6, len3, fun t nt => q _ _ (same_new nt) (at_bin upd_same (atL (same_new nt _ _ ha)) (atL (same_new nt _ _ hb)))⟩
theorem he_binV (h13 : σ[13]? = some (some (.str k))) (h5 : σ[5]? = some (some (.ref ua))) (h6 : σ[6]? = some (some (.ref ub))) (ha : H ua = some (.tup [.str "name", .str "a"])) (hb : H ub = some (.tup [.str "name", .str "b"])) (Q' : VK) (q : ∀ H' ev, Same H H' → ExAt K H' ev (.op (.bin k) [eA, eB]) → Q' ev H') : tTup (tCons (tVar 13) (tCons (tVar 5) (tCons (tVar 6) tNil))) σ H Q' :=
  ⟨_, h13, _, h5, _, h6, len3, fun t nt => q _ _ (same_new nt) (at_bin upd_same (atL (same_new nt _ _ ha)) (atL (same_new nt _ _ hb)))⟩
theorem he_un (h5 : σ[5]? = some (some (.ref ua))) (ha : H ua = some (.tup [.str "name", .str "a"])) (Q' : VK) (q : ∀ H' ev, Same H H' → ExAt K H' ev (.op (.un k) [eA]) → Q' ev H') : tTup (tCons (tC (.str k)) (tCons (tVar 5) tNil)) σ H Q' :=
  ⟨_, h5, len2, fun t nt => q _ _ (same_new nt) (at_un upd_same (atL (same_new nt _ _ ha)))⟩
theorem he_sh {n : Nat} (h5 : σ[5]? = some (some (.ref ua))) (h9 : σ[9]? = some (some (.int (n : Nat)))) (ha : H ua = some (.tup [.str "name", .str "a"])) (Q' : VK) (q : ∀ H' ev, Same H H' → ExAt K H' ev (.op (.sh k n) [eA]) → Q' ev H') : tTup (tCons (tC (.str k)) (tCons (tVar 5) (tCons (tVar 9) tNil))) σ H Q' :=
  ⟨_, h5, _, h9, len3, fun t nt => q _ _ (same_new nt) (at_sh upd_same (atL (same_new nt _ _ ha)))⟩
theorem den_bin {k : Str} : den (G2 W) (U2 va vb) (.op (.bin k) [eA, eB]) = binP k (W, va) (W, vb) := by
  rw [den_op, List.map_cons, List.map_cons, List.map_nil, dA, dB]
  rfl
theorem den_un {k : Str} : den (G2 W) (U2 va vb) (.op (.un k) [eA]) = unP k (W, va) := by
  rw [den_op, List.map_cons, List.map_nil, dA]
  rfl
theorem den_sh {k : Str} {n : Nat} : den (G2 W) (U2 va vb) (.op (.sh k n) [eA]) = shP k n (W, va) := by
  rw [den_op, List.map_cons, List.map_nil, dA]
  show shP k (n : Int).toNat (W, va) = _
  rw [Int.toNat_natCast]
theorem den_slc {low d : Nat} : den (G2 W) (U2 va vb) (.op (.slc ((low + d : Nat) : Int) (low : Nat)) [eA]) = (d + 1, va / 2 ^ low % 2 ^ (d + 1)) := by
  rw [den_op, List.map_cons, List.map_nil, dA]
  show (((low + d : Nat) : Int).toNat - (low : Int).toNat + 1, va / 2 ^ (low : Int).toNat % 2 ^ (((low + d : Nat) : Int).toNat - (low : Int).toNat + 1)) = _
  rw [Int.toNat_natCast, Int.toNat_natCast, Nat.add_sub_cancel_left]
theorem he_ite (h5 : σ[5]? = some (some (.ref ua))) (h6 : σ[6]? = some (some (.ref ub))) (ha : H ua = some (.tup [.str "name", .str "a"])) (hb : H ub = some (.tup [.str "name", .str "b"])) (Q' : VK) (q : ∀ H' ev, Same H H' → ExAt K H' ev (.op .ite [.op (.bin "equal") [eA, eB], eA, .op (.un "not") [eB]]) → Q' ev H') : tTup (tCons (tC (.str "if")) (tCons (tTup (tCons (tC (.str "equal")) (tCons (tVar 5) (tCons (tVar 6) tNil)))) (tCons (tVar 5) (tCons (tTup (tCons (tC (.str "not")) (tCons (tVar 6) tNil))) tNil)))) σ H Q' := by
  refine ⟨_, h5, _, h6, len3, fun t nt => ⟨_, h5, _, h6, len2, fun u nu => ⟨len4, fun z nz => ?_⟩⟩⟩
  have s1 := same_new (u := .tup [.str "equal", .ref ua, .ref ub]) nt
  have s2 := same_new (u := .tup [.str "not", .ref ub]) nu
  have s3 := same_new (u := .tup [.str "if", .ref t, .ref ua, .ref u]) nz
  exact q _ _ (s1.trans (s2.trans s3)) (at_ite upd_same ((at_bin upd_same (atL (s1 _ _ ha)) (atL (s1 _ _ hb))).firm (Firm.of (s2.trans s3))) (atL (s3 _ _ (s2 _ _ (s1 _ _ ha)))) ((at_un upd_same (atL (s2 _ _ (s1 _ _ hb)))).firm (Firm.of s3)))
theorem den_ite : den (G2 W) (U2 va vb) (.op .ite [.op (.bin "equal") [eA, eB], eA, .op (.un "not") [eB]]) = if va = vb then (W, va) else (W, 2 ^ W - 1 - vb) := by
  rw [den_op, List.map_cons, List.map_cons, List.map_cons, List.map_nil, den_op, den_op, List.map_cons, List.map_cons, List.map_nil, dA, dB]
  have key : ∀ c a b : WV, opP (G2 W) (U2 va vb) .ite [c, a, b] = if c.2 = 1 then a else b := fun _ _ _ => rfl
  have k2 : opP (G2 W) (U2 va vb) (.bin "equal") [(W, va), (W, vb)] = (1, if va = vb then 1 else 0) := rfl
  have k3 : opP (G2 W) (U2 va vb) (.un "not") [(W, vb)] = (W, 2 ^ W - 1 - vb) := rfl
  rw [key, k2, k3]
  by_cases c : va = vb
  · rw [if_pos c, if_pos rfl, if_pos c]
  · rw [if_neg c, if_neg (by decide), if_neg c]
theorem if_due (hb : vb < 2 ^ W) : (((if va = vb then (W, va) else (W, 2 ^ W - 1 - vb)).2 : Nat) : Int) = if va = vb then (va : Int) else 2 ^ W - 1 - (vb : Int) := by
  have pw := pow_cast W
  by_cases c : va = vb
  · rw [if_pos c, if_pos c]
  · rw [if_neg c, if_neg c]
    show ((2 ^ W - 1 - vb : Nat) : Int) = _
    omega
theorem ite_hv {Q : VK} (h7 : σ[7]? = some (some (.int (va : Nat)))) (h8 : σ[8]? = some (some (.int (vb : Nat)))) (h2 : σ[2]? = some (some (.int (2 ^ W)))) (h : Q (.int (if va = vb then (va : Int) else 2 ^ W - 1 - (vb : Int))) H) : tIf (tTest (tOp rEq (tVar 7) (tVar 8))) (tVar 7) (tOp (rI0 fun i j => V.int (i - j)) (tOp (rI0 fun i j => V.int (i - j)) (tVar 2) (tC (.int 1))) (tVar 8)) σ H Q := by
  by_cases c : va = vb
  · rw [if_pos c] at h
    exact ⟨_, h7, _, h8, rfl, _, rfl, goT (ieq c) ⟨_, h7, h⟩⟩
  · rw [if_neg c] at h
    exact ⟨_, h7, _, h8, rfl, _, rfl, goF (ine c) ⟨_, h2, _, _, rfl, rfl, _, h8, _, _, rfl, rfl, h⟩⟩
theorem nm_at2 {P : Program} {w : World} {nd ta tb : Addr} (hn : H nd = some (.dK [(.inr "a", .ref ta), (.inr "b", .ref tb)])) (ha : SqT K H ta [.int (W : Nat), .int (va : Nat)]) (hb : SqT K H tb [.int (W : Nat), .int (vb : Nat)]) : NmAt K (MGet P w) H nd (G2 W) (U2 va vb) where
  nm := fun n u h => by
    have h : (if n = "a" then some W else if n = "b" then some W else none) = some u := h
    have e : (U2 va vb).nm n = if n = "a" then va else vb := rfl
    by_cases c1 : n = "a"
    · rw [if_pos c1] at h e
      have hu : W = u := Option.some.inj h
      subst hu
      subst c1
      exact ⟨.ref ta, ⟨ta, rfl, by rw [e]; exact ha⟩, fun H' s => .inl (DGet.k (k := .inr "a") (s.2 _ hn))⟩
    · rw [if_neg c1] at h e
      by_cases c2 : n = "b"
      · rw [if_pos c2] at h
        have hu : W = u := Option.some.inj h
        subst hu
        subst c2
        exact ⟨.ref tb, ⟨tb, rfl, by rw [e]; exact hb⟩, fun H' s => .inl (DGet.k (k := .inr "b") (s.2 _ hn))⟩
      · rw [if_neg c2] at h
        cases h
  pt := fun u n w h => by cases h
  mm := fun m w b h => by cases h
theorem sh_p (p : Int × Int) : SeqAt.shaped (pD p) = true := rfl
theorem wt_bin (h : W ≤ 4096) (hk : k = "and" ∨ k = "or" ∨ k = "xor" ∨ k = "plus" ∨ k = "times") : ∃ w, Wt (G2 W) (.op (.bin k) [eA, eB]) w := ⟨W, .bin k eA eB W hk h (wA h) (wB h)⟩
theorem wt_cmp (h : W ≤ 4096) (hk : k = "equal" ∨ k = "below") : ∃ w, Wt (G2 W) (.op (.bin k) [eA, eB]) w := ⟨1, .cmp k eA eB W hk h (wA h) (wB h)⟩
theorem castM (a w : Nat) : ((a % 2 ^ w : Nat) : Int) = (a : Int) % 2 ^ w := by
  rw [Int.natCast_emod, pow_cast]
theorem eq_due {a b : Nat} : (((if a = b then 1 else 0 : Nat)) : Int) = if decide (V.int (a : Int) = V.int (b : Int)) = true then 1 else 0 := by
  by_cases c : a = b
  · rw [if_pos c, if_pos (ieq c)]; rfl
  · rw [if_neg c, if_neg (by rw [ine c]; decide)]; rfl
theorem lt_due {a b : Nat} : (((if a < b then 1 else 0 : Nat)) : Int) = if decide ((a : Int) < (b : Int)) = true then 1 else 0 := by
  by_cases c : a < b
  · rw [if_pos c, if_pos (decide_eq_true (by omega))]; rfl
  · rw [if_neg c, if_neg (by rw [decide_eq_false (by omega)]; decide)]; rfl
theorem mul64 {a b : Nat} (h : W ≤ 64) (ha : a < 2 ^ W) (hb : b < 2 ^ W) : CMulX (a : Int) (b : Int) := mulx_ok (a := 64) (b := 64) (by rw [Int.natAbs_natCast]; exact Nat.lt_of_lt_of_le ha (Nat.pow_le_pow_right (by decide) h)) (by rw [Int.natAbs_natCast]; exact Nat.lt_of_lt_of_le hb (Nat.pow_le_pow_right (by decide) h)) (by decide)
theorem mulP {a n : Nat} (h : W ≤ 64) (ha : a < 2 ^ W) (hn : n ≤ 64) : CMulX (a : Int) (2 ^ n) := mulx_ok (a := 64) (b := 65) (by rw [Int.natAbs_natCast]; exact Nat.lt_of_lt_of_le ha (Nat.pow_le_pow_right (by decide) h)) (by rw [← pow_cast, Int.natAbs_natCast]; exact Nat.pow_lt_pow_right (by decide) (by omega)) (by decide)
theorem len20 {n : Nat} : n ≤ n := Nat.le_refl n
theorem z_bin : exZ (.op (.bin k) [eA, eB]) ≤ 50 := by
  rw [exZ_op, exZs_cons, exZs_cons, exZs_nil, exZ_lf, exZ_lf]
  decide
theorem z_one {o : Op} : exZ (.op o [eA]) ≤ 50 := by
  rw [exZ_op, exZs_cons, exZs_nil, exZ_lf]
  decide
end
def spSR : Sp := fun vs H Q _ => ∃ (p c : Addr) (m : Nat), vs = [.ref p] ∧ PenC H p c m ∧ m ≤ 10000000 ∧ ∀ (H' : Hp) (m' : Nat), PenC H' p c m' → Q (.bl true) H'
section
variable {P : Program} {w : World} {K : PySem.W.Frag} {mg : Str → Option Value} {base : Heap} {f : Addr} {fd : FuncData}
abbrev nSR : List Str := ["_law_pen_here", "_law_width", "_law_far", "_law_names", "_law_called", "_law_one", "_law_two", "_law_a", "_law_b", "_law_k", "_law_low", "_law_high", "_law_rows", "_law_kind", "_law_expression", "_law_due"]
theorem scSR : FnScope nSR ["_law_pen_here"] (defScope sLSingleRight) := ⟨rfl, rfl, rfl, by decide +kernel, rfl, by decide +kernel, by decide +kernel⟩
theorem ok_sr (F : FnP K "_law_single_right" sLSingleRight f fd) (T : Tx mg)
    {fDR fPI fBW fWO : Addr} {dDR dPI dBW dWO : FuncData}
    (GDR : FnOk P w K mg base CX0 1 fDR dDR ["_law_pen_here", "_law_many"] (spDraw)) (gDR : mg "_law_draw" = some (.ref fDR)) (kDR : PySem.W.keepIn K (.ref fDR) = true) (bDR : Binds K dDR ["_law_pen_here", "_law_many"] [])
    (GPI : FnOk P w K mg base CX0 2 fPI dPI ["_law_pen_here", "_law_some"] ((spPick K))) (gPI : mg "_law_pick" = some (.ref fPI)) (kPI : PySem.W.keepIn K (.ref fPI) = true) (bPI : Binds K dPI ["_law_pen_here", "_law_some"] [])
    (GBW : FnOk P w K mg base CX0 1 fBW dBW ["_law_kind", "_law_width", "_law_one", "_law_two"] (spBW)) (gBW : mg "_law_bitwise" = some (.ref fBW)) (kBW : PySem.W.keepIn K (.ref fBW) = true) (bBW : Binds K dBW ["_law_kind", "_law_width", "_law_one", "_law_two"] [])
    (GWO : FnOk P w K mg base CX0 5 fWO dWO ["expression", "names"] ((spWO K (MGet P w)))) (gWO : mg "word_of" = some (.ref fWO)) (kWO : PySem.W.keepIn K (.ref fWO) = true) (bWO : Binds K dWO ["expression", "names"] [])
    : FnOk P w K mg base CX0 6 f fd ["_law_pen_here"] spSR := by
  refine F.ok scSR (fun vs H Q E h => ?_) (fun cdv A outer s H vs Q E hr h => ?_)
  · obtain ⟨p, c, m, rfl, _⟩ := h
    rfl
  · obtain ⟨p, c, m, rfl, hP, hm, q⟩ := h
    have hu := hu_of hr
    refine ⟨_, PSs.nox (pss_cons (ps_set (i := 1) scSR.nd rfl (Or.inl rfl) (pe_call GPI (hr.mono (by decide)) (by rfl) gPI kPI bPI .nil pass0 (pa_cons (pv 0) (pa_cons (pe_lst (pa_cons pe_int (pa_cons pe_int (pa_cons pe_int (pa_cons pe_int (pa_cons pe_int (pa_cons pe_int (pa_cons pe_int pa_nil)))))))) pa_nil))))
      (pss_cons (ps_asg (pe_tup (pa_cons (pe_op op_oneShl pe_int (pv 1)) (pa_cons pe_dnewK pa_nil))) (pg_tup rfl (pgs_cons (pg_name (i := 2) scSR.nd rfl (Or.inl rfl)) (pgs_cons (pg_name (i := 3) scSR.nd rfl (Or.inr rfl)) pgs_nil))))
      (pss_cons (ps_for PassesOwn.never rfl (pi_list (pe_lst (pa_cons pe_str (pa_cons pe_str pa_nil)))) (pg_name (i := 4) scSR.nd rfl (Or.inl rfl))
        (pss_one (ps_dput hu (pv 3) (pv 4) (pe_tup (pa_cons (pv 1) (pa_cons (pe_op op_mod (pe_callTy call_int1 (by rfl) T.int (by decide +kernel) (pa_cons (pe_op op_add (pe_op op_mul (pe_call GDR (hr.mono (by decide)) (by rfl) gDR kDR bDR .nil pass0 (pa_cons (pv 0) (pa_cons (pe_op op_pow pe_int pe_int) pa_nil))) (pe_op op_pow pe_int pe_int)) (pe_call GDR (hr.mono (by decide)) (by rfl) gDR kDR bDR .nil pass0 (pa_cons (pv 0) (pa_cons (pe_op op_pow pe_int pe_int) pa_nil)))) pa_nil)) (pv 2)) pa_nil))) rfl)))
      (pss_cons (ps_dput hu (pv 3) pe_str (pe_call GPI (hr.mono (by decide)) (by rfl) gPI kPI bPI .nil pass0 (pa_cons (pv 0) (pa_cons (pe_lst (pa_cons (pe_dget hu (pv 3) pe_str (fun _ _ => rfl)) (pa_cons (pe_dget hu (pv 3) pe_str (fun _ _ => rfl)) (pa_cons (pe_tup (pa_cons (pv 1) (pa_cons (pe_op op_sub (pv 2) pe_int) pa_nil))) (pa_cons (pe_tup (pa_cons (pv 1) (pa_cons pe_int pa_nil))) pa_nil))))) pa_nil))) rfl)
      (pss_cons (ps_asg (pe_tup (pa_cons (pe_tup (pa_cons pe_str (pa_cons pe_str pa_nil))) (pa_cons (pe_tup (pa_cons pe_str (pa_cons pe_str pa_nil))) (pa_cons (pe_ix (r := L2.rIxT K) (by exact ix_tup) (pe_dget hu (pv 3) pe_str (fun _ _ => rfl)) pe_int (fun _ _ => rfl)) (pa_cons (pe_ix (r := L2.rIxT K) (by exact ix_tup) (pe_dget hu (pv 3) pe_str (fun _ _ => rfl)) pe_int (fun _ _ => rfl)) pa_nil))))) (pg_tup rfl (pgs_cons (pg_name (i := 5) scSR.nd rfl (Or.inl rfl)) (pgs_cons (pg_name (i := 6) scSR.nd rfl (Or.inl rfl)) (pgs_cons (pg_name (i := 7) scSR.nd rfl (Or.inl rfl)) (pgs_cons (pg_name (i := 8) scSR.nd rfl (Or.inl rfl)) pgs_nil))))))
      (C8.pss_cut (ps_par (i := 9) (j := 10) rfl scSR.nd rfl rfl (by decide) rfl rfl (pa_cons (pe_call GDR (hr.mono (by decide)) (by rfl) gDR kDR bDR .nil pass0 (pa_cons (pv 0) (pa_cons (pe_op op_add (pv 1) pe_int) pa_nil))) (pa_cons (pe_call GDR (hr.mono (by decide)) (by rfl) gDR kDR bDR .nil pass0 (pa_cons (pv 0) (pa_cons (pv 1) pa_nil))) pa_nil)) (by rfl))
      (pss_cons (ps_set (i := 11) scSR.nd rfl (Or.inl rfl) (pe_op op_add (pv 10) (pe_call GDR (hr.mono (by decide)) (by rfl) gDR kDR bDR .nil pass0 (pa_cons (pv 0) (pa_cons (pe_op op_sub (pv 1) (pv 10)) pa_nil)))))
      (pss_cons (ps_set (i := 12) scSR.nd rfl (Or.inl rfl) (pe_lst (pa_cons (pe_tup (pa_cons (pe_tup (pa_cons pe_str (pa_cons (pv 5) (pa_cons (pv 6) pa_nil)))) (pa_cons (pe_tup (pa_cons (pv 1) (pa_cons (pe_op op_mod (pe_callTy call_int1 (by rfl) T.int (by decide +kernel) (pa_cons (pe_op op_add (pv 7) (pv 8)) pa_nil)) (pv 2)) pa_nil))) pa_nil))) (pa_cons (pe_tup (pa_cons (pe_tup (pa_cons pe_str (pa_cons (pv 5) (pa_cons (pv 6) pa_nil)))) (pa_cons (pe_tup (pa_cons (pv 1) (pa_cons (pe_op op_mod (pe_callTy call_int1 (by rfl) T.int (by decide +kernel) (pa_cons (pe_op op_mulX (pv 7) (pv 8)) pa_nil)) (pv 2)) pa_nil))) pa_nil))) pa_nil))))
      (pss_cons (ps_set (i := 12) scSR.nd rfl (Or.inl rfl) (pe_op op_cat (pv 12) (pe_lst (pa_cons (pe_tup (pa_cons (pe_tup (pa_cons pe_str (pa_cons (pv 5) pa_nil))) (pa_cons (pe_tup (pa_cons (pv 1) (pa_cons (pe_op op_mod (pe_callTy call_int1 (by rfl) T.int (by decide +kernel) (pa_cons (pe_op op_sub (pv 2) (pv 7)) pa_nil)) (pv 2)) pa_nil))) pa_nil))) (pa_cons (pe_tup (pa_cons (pe_tup (pa_cons pe_str (pa_cons (pv 5) pa_nil))) (pa_cons (pe_tup (pa_cons (pv 1) (pa_cons (pe_op op_sub (pe_op op_sub (pv 2) pe_int) (pv 7)) pa_nil))) pa_nil))) pa_nil)))))
      (pss_cons (ps_set (i := 12) scSR.nd rfl (Or.inl rfl) (pe_op op_cat (pv 12) (pe_lst (pa_cons (pe_tup (pa_cons (pe_tup (pa_cons pe_str (pa_cons (pv 5) (pa_cons (pv 6) pa_nil)))) (pa_cons (pe_tup (pa_cons pe_int (pa_cons (pe_callTy call_int1 (by rfl) T.int (by decide +kernel) (pa_cons (pe_cmpR op_eq (pv 7) (pv 8) (nomark _)) pa_nil)) pa_nil))) pa_nil))) (pa_cons (pe_tup (pa_cons (pe_tup (pa_cons pe_str (pa_cons (pv 5) (pa_cons (pv 6) pa_nil)))) (pa_cons (pe_tup (pa_cons pe_int (pa_cons (pe_callTy call_int1 (by rfl) T.int (by decide +kernel) (pa_cons (pe_cmpR op_lt (pv 7) (pv 8) (nomark _)) pa_nil)) pa_nil))) pa_nil))) pa_nil)))))
      (pss_cons (ps_set (i := 12) scSR.nd rfl (Or.inl rfl) (pe_op op_cat (pv 12) (pe_lst (pa_cons (pe_tup (pa_cons (pe_tup (pa_cons pe_str (pa_cons (pv 5) (pa_cons (pv 9) pa_nil)))) (pa_cons (pe_tup (pa_cons (pv 1) (pa_cons (pe_op op_mod (pe_callTy call_int1 (by rfl) T.int (by decide +kernel) (pa_cons (pe_op op_mulX (pv 7) (pe_op op_oneShl pe_int (pv 9))) pa_nil)) (pv 2)) pa_nil))) pa_nil))) (pa_cons (pe_tup (pa_cons (pe_tup (pa_cons pe_str (pa_cons (pv 5) (pa_cons (pv 9) pa_nil)))) (pa_cons (pe_tup (pa_cons (pv 1) (pa_cons (pe_op op_fdivW (pv 7) (pe_op op_oneShl pe_int (pv 9))) pa_nil))) pa_nil))) pa_nil)))))
      (pss_cons (ps_expr (pe_bm PySem.F.plainAttrs_list PySem.F.slot_list_append PySem.F.type_list_append mt_append (pv 12) (pa_cons (pe_tup (pa_cons (pe_tup (pa_cons pe_str (pa_cons (pv 5) (pa_cons (pv 11) (pa_cons (pv 10) pa_nil))))) (pa_cons (pe_tup (pa_cons (pe_op op_add (pe_op op_sub (pv 11) (pv 10)) pe_int) (pa_cons (pe_op op_mod (pe_callTy call_int1 (by rfl) T.int (by decide +kernel) (pa_cons (pe_op op_fdivW (pv 7) (pe_op op_oneShl pe_int (pv 10))) pa_nil)) (pe_op op_oneShl pe_int (pe_op op_add (pe_op op_sub (pv 11) (pv 10)) pe_int))) pa_nil))) pa_nil))) pa_nil)))
      (pss_cons (ps_for PassesOwn.never rfl (pi_list (pe_lst (pa_cons pe_str (pa_cons pe_str (pa_cons pe_str pa_nil))))) (pg_name (i := 13) scSR.nd rfl (Or.inl rfl))
        (pss_one (ps_expr (pe_bm PySem.F.plainAttrs_list PySem.F.slot_list_append PySem.F.type_list_append mt_append (pv 12) (pa_cons (pe_tup (pa_cons (pe_tup (pa_cons (pv 13) (pa_cons (pv 5) (pa_cons (pv 6) pa_nil)))) (pa_cons (pe_tup (pa_cons (pv 1) (pa_cons (pe_call GBW (hr.mono (by decide)) (by rfl) gBW kBW bBW .nil pass0 (pa_cons (pv 13) (pa_cons (pv 1) (pa_cons (pv 7) (pa_cons (pv 8) pa_nil))))) pa_nil))) pa_nil))) pa_nil)))))
      (pss_cons (ps_expr (pe_bm PySem.F.plainAttrs_list PySem.F.slot_list_append PySem.F.type_list_append mt_append (pv 12) (pa_cons (pe_tup (pa_cons (pe_tup (pa_cons pe_str (pa_cons (pe_tup (pa_cons pe_str (pa_cons (pv 5) (pa_cons (pv 6) pa_nil)))) (pa_cons (pv 5) (pa_cons (pe_tup (pa_cons pe_str (pa_cons (pv 6) pa_nil))) pa_nil))))) (pa_cons (pe_tup (pa_cons (pv 1) (pa_cons (pe_ifExp (pt_cmpR op_eq (pv 7) (pv 8) (nomark _)) (pv 7) (pe_op op_sub (pe_op op_sub (pv 2) pe_int) (pv 8))) pa_nil))) pa_nil))) pa_nil)))
      (pss_one (ps_ret (pe_cmpR (op_eqD hr.units) (pe_lc (own := [("_law_expression", 14), ("_law_due", 15)]) (g := _) rfl scSR.nd (pi_list (pv 12)) (blkOk_by (N := nSR) (sc := defScope sLSingleRight) (by decide +kernel)) (fun _ _ _ _ _ => (Us.pg_tupK (K := K) (n := 2) rfl rfl (pgs_cons (pg_name (i := 14) scSR.nd rfl (Or.inl rfl)) (pgs_cons (pg_name (i := 15) scSR.nd rfl (Or.inl rfl)) pgs_nil)))) (fun _ _ _ _ _ => pts_one (pt_cmpR (r := L2.rNeD K) (by exact op_neD hr.units) (pe_call GWO (hr.mono (by decide)) (by rfl) gWO kWO bWO .nil pass0 (pa_cons (pv 14) (pa_cons (pv 3) pa_nil))) (pv 15) (nomark _))) (fun _ _ _ _ _ => pe_int)) (pe_lst pa_nil) (nomark _)))))))))))))))))), ?_⟩
    refine ⟨_, rfl, (by decide : 7 ≤ sizeLine), fun L nL => ⟨p, c, L, m, _, rfl, hP.same (same_new nL), by omega, (hP.free nL).1, SqL.of upd_same, (by show 0 < 7; decide), (by show 7 ≤ 1000; decide), fun v i H1 hv P1 B1 => ?_⟩⟩
    obtain ⟨W, rfl, W1, W64⟩ := seven_of hv
    have pw := pow_cast W
    have pp := Nat.two_pow_pos W
    refine ⟨_, rfl, W, rfl, rfl, by omega, fun nd nN => ⟨len2, fun z nz => ?_⟩⟩
    have sN := same_new (u := .dK []) nN
    have sz := same_new (u := .tup [.int (2 ^ W), .ref nd]) nz
    have hN := sz _ _ (upd_same (H := H1) (a := nd) (o := .dK []))
    obtain ⟨Np, Nc⟩ := P1.free nN
    have P2 := P1.same (sN.trans sz)
    refine ⟨z, _, rfl, SqT.of upd_same, rfl, _, _, rfl, _, _, rfl, rfl, ?_⟩
    generalize upd (upd H1 nd _) z _ = H2 at hN P2 ⊢
    clear sN sz nN nz hv B1
    refine ⟨len2, fun L2 nL2 => ⟨L2, rfl, ⟨_, SqL.of upd_same⟩, for_list (K := K) (a := L2) (xs := [.str "a", .str "b"])
      (fun i σ H' => ∃ (x4 : Option V) (kvs : List (Key × V)), σ = [some (.ref p), some (.int (W : Nat)), some (.int (2 ^ W)), some (.ref nd), x4, none, none, none, none, none, none, none, none, none, none, none] ∧ PenC H' p c (m + 1 + 2 * i) ∧ H' L2 = some (.lst [.str "a", .str "b"]) ∧ H' nd = some (.dK kvs) ∧ (i = 0 → kvs = []) ∧ (i = 1 → ∃ ta va, kvs = [(.inr "a", .ref ta)] ∧ SqT K H' ta [.int (W : Nat), .int (va : Nat)] ∧ va < 2 ^ W) ∧ (i = 2 → ∃ ta va tb vb, kvs = [(.inr "a", .ref ta), (.inr "b", .ref tb)] ∧ SqT K H' ta [.int (W : Nat), .int (va : Nat)] ∧ va < 2 ^ W ∧ SqT K H' tb [.int (W : Nat), .int (vb : Nat)] ∧ vb < 2 ^ W))
      ⟨none, [], rfl, (P2.same (same_new nL2)).more (by omega), upd_same, same_new nL2 _ _ hN, (fun _ => rfl), (fun h => by cases h), (fun h => by cases h)⟩ (fun i σ H' _ ⟨_, _, _, _, h, _⟩ => SqL.of h) ?_ ?_⟩⟩
    · rintro i y σ H3 hy ⟨x4, kvs, rfl, P3, hL3, hN3, c0, c1, c2⟩
      have i2 : i < 2 := (List.getElem?_eq_some_iff.mp hy).1
      have LN : L2 ≠ nd := fun e => by rw [e, hN] at nL2; cases nL2
      have Lp := (P2.free nL2).1
      refine ⟨_, rfl, _, rfl, _, _, rfl, rfl, ⟨by decide, by decide, by decide⟩, p, c, _, _, rfl, P3, by omega, by decide, by decide, fun r H4 r0 r1 P4 B4 => ⟨_, _, rfl, rfl, ⟨by decide, by decide, by decide⟩, _, _, rfl, rfl, .inr ⟨by decide, by decide⟩, ?_⟩⟩
      refine ⟨_, rfl, _, _, rfl, rfl, ⟨by decide, by decide, by decide⟩, p, c, _, _, rfl, P4, by omega, by decide, by decide, fun r2 H5 r20 r21 P5 B5 => ⟨_, _, rfl, rfl, .inl ⟨_, rfl, _, rfl, _, _, rfl, rfl, Int.pow_pos (by decide), len2, fun t nt => ?_⟩⟩⟩
      have z0 := Int.emod_nonneg (r * 10 ^ (11 : Int).toNat + r2) (show (2 : Int) ^ W ≠ 0 by rw [← pw]; omega)
      have z1 := Int.emod_lt_of_pos (r * 10 ^ (11 : Int).toNat + r2) (show (0 : Int) < 2 ^ W by rw [← pw]; omega)
      have st := same_new (u := .tup [.int (W : Nat), .int ((r * 10 ^ (11 : Int).toNat + r2) % 2 ^ W)]) nt
      have ht := upd_same (H := H5) (a := t) (o := .tup [.int (W : Nat), .int ((r * 10 ^ (11 : Int).toNat + r2) % 2 ^ W)])
      have hN5 := st _ _ (B5 _ _ (B4 _ _ hN3 Np) Np)
      have hL5 := st _ _ (B5 _ _ (B4 _ _ hL3 Lp) Lp)
      have P6 := P5.same st
      have f36 := ((Firm.pen B4 P3).trans (Firm.pen B5 P4)).trans (Firm.of st)
      generalize upd H5 t _ = H6 at st ht hN5 hL5 P6 f36 ⊢
      generalize (r * 10 ^ (11 : Int).toNat + r2) % 2 ^ W = zz at z0 z1 ht
      obtain ⟨v, rfl⟩ := Int.eq_ofNat_of_zero_le z0
      have vb : v < 2 ^ W := by rw [← pw] at z1; exact Int.ofNat_lt.mp z1
      have ci : (i = 0 ∧ y = .str "a") ∨ (i = 1 ∧ y = .str "b") := by
        have c4 : i = 0 ∨ i = 1 := by omega
        rcases c4 with rfl | rfl
        · exact .inl ⟨rfl, (Option.some.inj hy).symm⟩
        · exact .inr ⟨rfl, (Option.some.inj hy).symm⟩
      rcases ci with ⟨rfl, rfl⟩ | ⟨rfl, rfl⟩
      · obtain rfl := c0 rfl
        refine ⟨_, rfl, _, rfl, nd, _, rfl, DPut.k (k := .inr "a") hN5 (by decide), _, _, rfl, (P6.upd Np Nc).more (by omega), by rw [upd_ne LN]; exact hL5, upd_same, (fun h => by cases h), (fun _ => ⟨t, v, rfl, SqT.of ((Firm.upd hN5 rfl) _ _ ht rfl), vb⟩), (fun h => by cases h)⟩
      · obtain ⟨ta, va, rfl, hta, hva⟩ := c1 rfl
        have fu := Firm.upd (o := .dK (putK [(.inr "a", .ref ta)] (.inr "b" : Key) (.ref t))) hN5 rfl
        refine ⟨_, rfl, _, rfl, nd, _, rfl, DPut.k (k := .inr "b") hN5 (by show 1 < sizeLine; decide), _, _, rfl, (P6.upd Np Nc).more (by omega), by rw [upd_ne LN]; exact hL5, upd_same, (fun h => by cases h), (fun h => by cases h), (fun _ => ⟨ta, va, t, v, rfl, firm_seq (f36.trans fu) hta, hva, SqT.of (fu _ _ ht rfl), vb⟩)⟩
    · rintro σ H3 ⟨x4, kvs, rfl, P3, _, hN3, _, _, c2⟩
      obtain ⟨ta, va, tb, vb, rfl, hta, hva, htb, hvb⟩ := c2 rfl
      clear c2 hN P2
      have P3 : PenC H3 p c (m + 5) := P3
      have dgb : DGet H3 nd (.str "b") (some (.ref tb)) := DGet.k (k := .inr "b") hN3
      have dga : DGet H3 nd (.str "a") (some (.ref ta)) := DGet.k (k := .inr "a") hN3
      refine ⟨_, rfl, _, rfl, nd, _, rfl, dgb, _, rfl, nd, _, rfl, dga, _, rfl, _, rfl, _, _, rfl, rfl, len2, fun t1 n1 => ⟨_, rfl, len2, fun t2 n2 => ⟨len4, fun L3 nL3 => ?_⟩⟩⟩
      have s1 := same_new (u := .tup [.int (W : Nat), .int (2 ^ W - 1)]) n1
      have h1 := upd_same (H := H3) (a := t1) (o := .tup [.int (W : Nat), .int (2 ^ W - 1)])
      have s2 := same_new (u := .tup [.int (W : Nat), .int 0]) n2
      have h2 := upd_same (H := upd H3 t1 (.tup [.int (W : Nat), .int (2 ^ W - 1)])) (a := t2) (o := .tup [.int (W : Nat), .int 0])
      have sL := same_new (u := .lst [.ref tb, .ref ta, .ref t1, .ref t2]) nL3
      have hL := upd_same (H := upd (upd H3 t1 (.tup [.int (W : Nat), .int (2 ^ W - 1)])) t2 (.tup [.int (W : Nat), .int 0])) (a := L3) (o := .lst [.ref tb, .ref ta, .ref t1, .ref t2])
      have P3' := ((P3.same s1).same s2).free nL3
      have s123 := s1.trans (s2.trans sL)
      have h1 := sL _ _ (s2 _ _ h1)
      have h2 := sL _ _ h2
      have P4 := P3.same s123
      have hN4 := s123 _ _ hN3
      generalize upd (upd (upd H3 t1 _) t2 _) L3 _ = H4 at hL s123 h1 h2 P4 hN4 ⊢
      refine ⟨p, c, L3, _, _, rfl, P4, by omega, P3'.1, SqL.of hL, (by show 0 < 4; decide), (by show 4 ≤ 1000; decide), fun v j H5 hv P5 B5 => ?_⟩
      have f45 := Firm.pen B5 P4
      have f35 := (Firm.of s123).trans f45
      obtain ⟨tc, vc, rfl, htc, hvc⟩ : ∃ (tc : Addr) (vc : Nat), v = .ref tc ∧ SqT K H5 tc [.int (W : Nat), .int (vc : Nat)] ∧ vc < 2 ^ W := by
        match j, hv with
        | 0, hv => exact ⟨tb, vb, (Option.some.inj hv).symm, firm_seq f35 htb, hvb⟩
        | 1, hv => exact ⟨ta, va, (Option.some.inj hv).symm, firm_seq f35 hta, hva⟩
        | 2, hv =>
          refine ⟨t1, 2 ^ W - 1, (Option.some.inj hv).symm, ?_, by omega⟩
          have := SqT.of (K := K) (f45 _ _ h1 rfl)
          rw [show (2 : Int) ^ W - 1 = ((2 ^ W - 1 : Nat) : Int) by omega] at this
          exact this
        | 3, hv => exact ⟨t2, 0, (Option.some.inj hv).symm, SqT.of (f45 _ _ h2 rfl), pp⟩
      have hN5 := B5 _ _ hN4 Np
      have hta5 := firm_seq f35 hta
      have fu := Firm.upd (o := .dK (putK [(.inr "a", .ref ta), (.inr "b", .ref tb)] (.inr "b" : Key) (.ref tc))) hN5 rfl
      refine ⟨_, rfl, nd, _, rfl, DPut.k (k := .inr "b") hN5 (by show 2 < sizeLine; decide), ?_⟩
      have P6 : PenC (upd H5 nd (.dK (putK [(.inr "a", .ref ta), (.inr "b", .ref tb)] (.inr "b" : Key) (.ref tc)))) p c (m + 6) := P5.upd Np Nc
      have hN6 : upd H5 nd (.dK (putK [(.inr "a", .ref ta), (.inr "b", .ref tb)] (.inr "b" : Key) (.ref tc))) nd = some (.dK [(.inr "a", .ref ta), (.inr "b", .ref tc)]) := upd_same
      have hta6 := firm_seq fu hta5
      have htc6 := firm_seq fu htc
      generalize upd H5 nd _ = H6 at P6 hN6 hta6 htc6 ⊢
      clear fu hta5 hN5 htc f35 f45 P5 B5 P4 hN4 h1 h2 hL s123 P3' s1 s2 sL hta htb dga dgb hN3 P3
      refine ⟨len2, fun ua na => ⟨len2, fun ub nb => ?_⟩⟩
      have s1 := same_new (u := .tup [.str "name", .str "a"]) na
      have h1 := upd_same (H := H6) (a := ua) (o := .tup [.str "name", .str "a"])
      have s2 := same_new (u := .tup [.str "name", .str "b"]) nb
      have h2 := upd_same (H := upd H6 ua (.tup [.str "name", .str "a"])) (a := ub) (o := .tup [.str "name", .str "b"])
      have s12 := s1.trans s2
      have h1 := s2 _ _ h1
      have hN7 := s12 _ _ hN6
      have hta7 := seqT_same s12 hta6
      have htc7 := seqT_same s12 htc6
      have P7 := P6.same s12
      generalize upd (upd H6 ua _) ub _ = H7 at h1 h2 hN7 hta7 htc7 P7 ⊢
      refine ⟨_, rfl, nd, _, rfl, DGet.k (k := .inr "a") hN7, ta, _, 1, _, rfl, rfl, hta7, at_of (j := 1) rfl rfl, _, rfl, nd, _, rfl, DGet.k (k := .inr "b") hN7, tc, _, 1, _, rfl, rfl, htc7, at_of (j := 1) rfl rfl, len4, fun z nz => ?_⟩
      have sz := same_new (u := .tup [.ref ua, .ref ub, .int (va : Nat), .int (vc : Nat)]) nz
      refine ⟨z, _, rfl, SqT.of upd_same, rfl, _, _, rfl, _, _, rfl, _, _, rfl, _, _, rfl, rfl, ?_⟩
      have P8 := P7.same sz
      have hN8 := sz _ _ hN7
      have hta8 := seqT_same sz hta7
      have htc8 := seqT_same sz htc7
      have ha8 := sz _ _ h1
      have hb8 := sz _ _ h2
      generalize upd H7 z _ = H8 at P8 hN8 hta8 htc8 ha8 hb8 ⊢
      clear sz hN7 hta7 htc7 h1 h2 P7 s12 hta6 htc6 hN6 P6 s1 s2 nz na nb hv nL3
      refine ⟨fun σ H' => ∃ (x4 : Option V) (k low : Nat), σ = [some (.ref p), some (.int (W : Nat)), some (.int (2 ^ W)), some (.ref nd), x4, some (.ref ua), some (.ref ub), some (.int (va : Nat)), some (.int (vc : Nat)), some (.int (k : Nat)), some (.int (low : Nat)), none, none, none, none, none] ∧ k ≤ W ∧ low < W ∧ PenC H' p c (m + 8) ∧ H' nd = some (.dK [(.inr "a", .ref ta), (.inr "b", .ref tc)]) ∧ SqT K H' ta [.int (W : Nat), .int (va : Nat)] ∧ SqT K H' tc [.int (W : Nat), .int (vc : Nat)] ∧ H' ua = some (.tup [.str "name", .str "a"]) ∧ H' ub = some (.tup [.str "name", .str "b"]), ?_, ?_⟩
      · refine ⟨_, rfl, _, rfl, _, _, rfl, rfl, p, c, _, _, rfl, P8, by omega, by omega, by omega, fun r H9 r0 r1 P9 B9 => ⟨_, rfl, _, rfl, p, c, _, _, rfl, P9, by omega, by omega, by omega, fun r2 Ha r20 r21 Pa Ba => ⟨_, _, rfl, ?_⟩⟩⟩
        obtain ⟨k, rfl⟩ := Int.eq_ofNat_of_zero_le r0
        obtain ⟨low, rfl⟩ := Int.eq_ofNat_of_zero_le r20
        have f := (Firm.pen B9 P8).trans (Firm.pen Ba P9)
        exact ⟨_, k, low, rfl, by omega, by omega, Pa, Ba _ _ (B9 _ _ hN8 Np) Np, firm_seq f hta8, firm_seq f htc8, f _ _ ha8 rfl, f _ _ hb8 rfl⟩
      clear hN8 hta8 htc8 ha8 hb8 P8
      rintro σ H8 ⟨x4, k, low, rfl, hk, hlow, P8, hN8, hta8, htc8, ha8, hb8⟩
      refine ⟨_, rfl, _, rfl, _, rfl, _, rfl, _, _, rfl, rfl, p, c, _, _, rfl, P8, by omega, by omega, by omega, fun r H9 r0 r1 P9 B9 => ⟨_, _, rfl, rfl, ?_⟩⟩
      obtain ⟨d, rfl⟩ := Int.eq_ofNat_of_zero_le r0
      have ehi : V.int ((low : Int) + (d : Int)) = V.int ((low + d : Nat) : Int) := congrArg V.int (by omega)
      have hhi : low + d < W := by omega
      have f89 := Firm.pen B9 P8
      have hN9 := B9 _ _ hN8 Np
      have hta9 := firm_seq f89 hta8
      have htc9 := firm_seq f89 htc8
      have ha9 := f89 _ _ ha8 rfl
      have hb9 := f89 _ _ hb8 rfl
      clear hN8 hta8 htc8 ha8 hb8 P8 f89 B9
      have good : Good (G2 W) (U2 va vc) := good2 hva hvc
      have pwP : (0 : Int) < 2 ^ W := by rw [← pw]; omega
      dsimp only [gName, tSeq, tAsg, tLst, tCons]
      refine row_of (e := .op (.bin "plus") [eA, eB]) (a := (W : Nat)) (b := ((va : Int) + (vc : Int)) % 2 ^ W) (K := K) (Γ := G2 W) (U := U2 va vc) ?w1 ?z1 ?he1 ?ha1 ?hb1 ?hw1 ?hv1 fun Hr1 t1 s1 r1 => ?q1
      case hw1 => exact fun H' Q' h => ⟨_, rfl, h⟩
      case hv1 => exact fun H' Q' h => ⟨_, rfl, _, rfl, _, _, rfl, rfl, .inl ⟨_, rfl, _, rfl, _, _, rfl, rfl, pwP, h⟩⟩
      case he1 => exact he_bin rfl rfl ha9 hb9
      case w1 => exact (wt_bin (by omega) (by decide))
      case z1 => exact z_bin
      case ha1 => rw [den_bin]; rfl
      case hb1 => rw [den_bin]; show (((va + vc) % 2 ^ W : Nat) : Int) = ((va : Int) + (vc : Int)) % 2 ^ W; rw [castM, Int.natCast_add]
      refine row_of (e := .op (.bin "times") [eA, eB]) (a := (W : Nat)) (b := ((va : Int) * (vc : Int)) % 2 ^ W) (K := K) (Γ := G2 W) (U := U2 va vc) ?w2 ?z2 ?he2 ?ha2 ?hb2 ?hw2 ?hv2 fun Hr2 t2 s2 r2 => ?q2
      case hw2 => exact fun H' Q' h => ⟨_, rfl, h⟩
      case hv2 => exact fun H' Q' h => ⟨_, rfl, _, rfl, _, _, rfl, rfl, mul64 W64 hva hvc, .inl ⟨_, rfl, _, rfl, _, _, rfl, rfl, pwP, h⟩⟩
      case he2 => exact he_bin rfl rfl (s1 _ _ ha9) (s1 _ _ hb9)
      case w2 => exact (wt_bin (by omega) (by decide))
      case z2 => exact z_bin
      case ha2 => rw [den_bin]; rfl
      case hb2 => rw [den_bin]; show ((va * vc % 2 ^ W : Nat) : Int) = ((va : Int) * (vc : Int)) % 2 ^ W; rw [castM, Int.natCast_mul]
      refine ⟨len2, fun L nL => ?_⟩
      have sL := same_new (u := .lst [.ref t1, .ref t2]) nL
      have ss := s1.trans (s2.trans sL)
      have hN9 := ss _ _ hN9
      have hta9 := seqT_same ss hta9
      have htc9 := seqT_same ss htc9
      have ha9 := ss _ _ ha9
      have hb9 := ss _ _ hb9
      have P9 := P9.same ss
      have hR := upd_same (H := Hr2) (a := L) (o := .lst [.ref t1, .ref t2])
      have aR : All2 (RowE K (upd Hr2 L (.lst [.ref t1, .ref t2])) (G2 W) (U2 va vc)) [.ref t1, .ref t2] [_, _] := .cons ((r1.firm (Firm.of s2)).firm (Firm.of sL)) (.cons (r2.firm (Firm.of sL)) .nil)
      generalize upd Hr2 L _ = Hx at hR aR hN9 hta9 htc9 ha9 hb9 P9 ⊢
      clear ss sL nL r1 r2 s1 s2
      obtain ⟨vs0, evs0⟩ : ∃ vs0 : List V, vs0 = [.ref t1, .ref t2] := ⟨_, rfl⟩
      rw [← evs0] at aR hR
      refine ⟨_, rfl, ?_⟩
      dsimp only [gName, tSeq, tAsg, tLst, tCons]
      refine row_of (e := .op (.un "minus") [eA]) (a := (W : Nat)) (b := (2 ^ W - (va : Int)) % 2 ^ W) (K := K) (Γ := G2 W) (U := U2 va vc) ?w3 ?z3 ?he3 ?ha3 ?hb3 ?hw3 ?hv3 fun Hr1 t1 s1 r1 => ?q3
      case hw3 => exact fun H' Q' h => ⟨_, rfl, h⟩
      case hv3 => exact fun H' Q' h => ⟨_, rfl, _, rfl, _, _, rfl, rfl, .inl ⟨_, rfl, _, rfl, _, _, rfl, rfl, pwP, h⟩⟩
      case he3 => exact he_un rfl ha9
      case w3 => exact ⟨W, .un _ eA W (by decide) (by omega) (wA (by omega))⟩
      case z3 => exact z_one
      case ha3 => rw [den_un]; rfl
      case hb3 => rw [den_un]; show (((2 ^ W - va) % 2 ^ W : Nat) : Int) = (2 ^ W - (va : Int)) % 2 ^ W; rw [castM, Int.ofNat_sub (by omega), pw]
      refine row_of (e := .op (.un "not") [eA]) (a := (W : Nat)) (b := 2 ^ W - 1 - (va : Int)) (K := K) (Γ := G2 W) (U := U2 va vc) ?w4 ?z4 ?he4 ?ha4 ?hb4 ?hw4 ?hv4 fun Hr2 t2 s2 r2 => ?q4
      case hw4 => exact fun H' Q' h => ⟨_, rfl, h⟩
      case hv4 => exact fun H' Q' h => ⟨_, rfl, _, _, rfl, rfl, _, rfl, _, _, rfl, rfl, h⟩
      case he4 => exact he_un rfl (s1 _ _ ha9)
      case w4 => exact ⟨W, .un _ eA W (by decide) (by omega) (wA (by omega))⟩
      case z4 => exact z_one
      case ha4 => rw [den_un]; rfl
      case hb4 => rw [den_un]; show ((2 ^ W - 1 - va : Nat) : Int) = 2 ^ W - 1 - (va : Int); omega
      refine ⟨len2, fun L nL => ?_⟩
      have sL := same_new (u := .lst [.ref t1, .ref t2]) nL
      have hL2 := upd_same (H := Hr2) (a := L) (o := .lst [.ref t1, .ref t2])
      have s12 := s1.trans s2
      have hR := sL _ _ (s12 _ _ hR)
      refine ⟨_, _, _, _, rfl, rfl, hR, hL2, (by have := aR.len; rw [this]; show 2 + 2 ≤ sizeLine; decide), fun L3 nL3 => ?_⟩
      have s3 := same_new (u := .lst (vs0 ++ [.ref t1, .ref t2])) nL3
      have Lpc := ((P9.same s12).same sL).free nL3
      have ss := s12.trans (sL.trans s3)
      have hN9 := ss _ _ hN9
      have hta9 := seqT_same ss hta9
      have htc9 := seqT_same ss htc9
      have ha9 := ss _ _ ha9
      have hb9 := ss _ _ hb9
      have P9 := P9.same ss
      have aR := (aR.imp fun v e h => h.firm (Firm.of ss)).append (.cons (((r1.firm (Firm.of s2)).firm (Firm.of sL)).firm (Firm.of s3)) (.cons ((r2.firm (Firm.of sL)).firm (Firm.of s3)) .nil))
      have hR := upd_same (H := upd Hr2 L (.lst [.ref t1, .ref t2])) (a := L3) (o := .lst (vs0 ++ [.ref t1, .ref t2]))
      generalize upd (upd Hr2 L _) L3 _ = Hx at hR aR hN9 hta9 htc9 ha9 hb9 P9 ⊢
      obtain ⟨vs1, evs⟩ : ∃ vs1, vs1 = vs0 ++ [.ref t1, .ref t2] := ⟨_, rfl⟩
      rw [← evs] at aR hR
      clear ss s12 s3 sL nL nL3 r1 r2 s1 s2 hL2
      refine ⟨_, rfl, ?_⟩
      dsimp only [gName, tSeq, tAsg, tLst, tCons]
      refine row_of (e := .op (.bin "equal") [eA, eB]) (a := 1) (b := if decide (V.int (va : Int) = V.int (vc : Int)) = true then 1 else 0) (K := K) (Γ := G2 W) (U := U2 va vc) ?w5 ?z5 ?he5 ?ha5 ?hb5 ?hw5 ?hv5 fun Hr1 t1 s1 r1 => ?q5
      case hw5 => exact fun H' Q' h => h
      case hv5 => exact fun H' Q' h => ⟨_, rfl, _, rfl, rfl, .inr ⟨_, rfl, h⟩⟩
      case he5 => exact he_bin rfl rfl ha9 hb9
      case w5 => exact (wt_cmp (by omega) (by decide))
      case z5 => exact z_bin
      case ha5 => rw [den_bin]; rfl
      case hb5 => rw [den_bin]; show (((if va = vc then 1 else 0 : Nat)) : Int) = if decide (V.int (va : Int) = V.int (vc : Int)) = true then 1 else 0; exact eq_due
      refine row_of (e := .op (.bin "below") [eA, eB]) (a := 1) (b := if decide ((va : Int) < (vc : Int)) = true then 1 else 0) (K := K) (Γ := G2 W) (U := U2 va vc) ?w6 ?z6 ?he6 ?ha6 ?hb6 ?hw6 ?hv6 fun Hr2 t2 s2 r2 => ?q6
      case hw6 => exact fun H' Q' h => h
      case hv6 => exact fun H' Q' h => ⟨_, rfl, _, rfl, _, _, rfl, rfl, .inr ⟨_, rfl, h⟩⟩
      case he6 => exact he_bin rfl rfl (s1 _ _ ha9) (s1 _ _ hb9)
      case w6 => exact (wt_cmp (by omega) (by decide))
      case z6 => exact z_bin
      case ha6 => rw [den_bin]; rfl
      case hb6 => rw [den_bin]; show (((if va < vc then 1 else 0 : Nat)) : Int) = if decide ((va : Int) < (vc : Int)) = true then 1 else 0; exact lt_due
      refine ⟨len2, fun L nL => ?_⟩
      have sL := same_new (u := .lst [.ref t1, .ref t2]) nL
      have hL2 := upd_same (H := Hr2) (a := L) (o := .lst [.ref t1, .ref t2])
      have s12 := s1.trans s2
      have hR := sL _ _ (s12 _ _ hR)
      refine ⟨_, _, _, _, rfl, rfl, hR, hL2, (by have := aR.len; rw [this]; show 4 + 2 ≤ sizeLine; decide), fun L3 nL3 => ?_⟩
      have s3 := same_new (u := .lst (vs1 ++ [.ref t1, .ref t2])) nL3
      have Lpc := ((P9.same s12).same sL).free nL3
      have ss := s12.trans (sL.trans s3)
      have hN9 := ss _ _ hN9
      have hta9 := seqT_same ss hta9
      have htc9 := seqT_same ss htc9
      have ha9 := ss _ _ ha9
      have hb9 := ss _ _ hb9
      have P9 := P9.same ss
      have aR := (aR.imp fun v e h => h.firm (Firm.of ss)).append (.cons (((r1.firm (Firm.of s2)).firm (Firm.of sL)).firm (Firm.of s3)) (.cons ((r2.firm (Firm.of sL)).firm (Firm.of s3)) .nil))
      have hR := upd_same (H := upd Hr2 L (.lst [.ref t1, .ref t2])) (a := L3) (o := .lst (vs1 ++ [.ref t1, .ref t2]))
      generalize upd (upd Hr2 L _) L3 _ = Hx at hR aR hN9 hta9 htc9 ha9 hb9 P9 ⊢
      obtain ⟨vs2, evs⟩ : ∃ vs2, vs2 = vs1 ++ [.ref t1, .ref t2] := ⟨_, rfl⟩
      rw [← evs] at aR hR
      clear ss s12 s3 sL nL nL3 r1 r2 s1 s2 hL2
      refine ⟨_, rfl, ?_⟩
      dsimp only [gName, tSeq, tAsg, tLst, tCons]
      refine row_of (e := .op (.sh "left" (k : Nat)) [eA]) (a := (W : Nat)) (b := ((va : Int) * 2 ^ k) % 2 ^ W) (K := K) (Γ := G2 W) (U := U2 va vc) ?w7 ?z7 ?he7 ?ha7 ?hb7 ?hw7 ?hv7 fun Hr1 t1 s1 r1 => ?q7
      case hw7 => exact fun H' Q' h => ⟨_, rfl, h⟩
      case hv7 => exact fun H' Q' h => ⟨_, rfl, _, rfl, k, rfl, rfl, by omega, _, _, rfl, rfl, mulP W64 hva (by omega), .inl ⟨_, rfl, _, rfl, _, _, rfl, rfl, pwP, h⟩⟩
      case he7 => exact he_sh rfl rfl ha9
      case w7 => exact ⟨W, .sh _ k eA W (by decide) (by omega) (by omega) (wA (by omega))⟩
      case z7 => exact z_one
      case ha7 => rw [den_sh]; rfl
      case hb7 => rw [den_sh]; show ((va * 2 ^ k % 2 ^ W : Nat) : Int) = ((va : Int) * 2 ^ k) % 2 ^ W; rw [castM, Int.natCast_mul, pow_cast]
      refine row_of (e := .op (.sh "right" (k : Nat)) [eA]) (a := (W : Nat)) (b := (va : Int) / 2 ^ k) (K := K) (Γ := G2 W) (U := U2 va vc) ?w8 ?z8 ?he8 ?ha8 ?hb8 ?hw8 ?hv8 fun Hr2 t2 s2 r2 => ?q8
      case hw8 => exact fun H' Q' h => ⟨_, rfl, h⟩
      case hv8 => exact fun H' Q' h => ⟨_, rfl, _, rfl, k, rfl, rfl, by omega, _, _, rfl, rfl, div_ok k (by omega), h⟩
      case he8 => exact he_sh rfl rfl (s1 _ _ ha9)
      case w8 => exact ⟨W, .sh _ k eA W (by decide) (by omega) (by omega) (wA (by omega))⟩
      case z8 => exact z_one
      case ha8 => rw [den_sh]; rfl
      case hb8 => rw [den_sh]; show ((va / 2 ^ k : Nat) : Int) = (va : Int) / 2 ^ k; rw [Int.natCast_ediv, pow_cast]
      refine ⟨len2, fun L nL => ?_⟩
      have sL := same_new (u := .lst [.ref t1, .ref t2]) nL
      have hL2 := upd_same (H := Hr2) (a := L) (o := .lst [.ref t1, .ref t2])
      have s12 := s1.trans s2
      have hR := sL _ _ (s12 _ _ hR)
      refine ⟨_, _, _, _, rfl, rfl, hR, hL2, (by have := aR.len; rw [this]; show 6 + 2 ≤ sizeLine; decide), fun L3 nL3 => ?_⟩
      have s3 := same_new (u := .lst (vs2 ++ [.ref t1, .ref t2])) nL3
      have Lpc := ((P9.same s12).same sL).free nL3
      have ss := s12.trans (sL.trans s3)
      have hN9 := ss _ _ hN9
      have hta9 := seqT_same ss hta9
      have htc9 := seqT_same ss htc9
      have ha9 := ss _ _ ha9
      have hb9 := ss _ _ hb9
      have P9 := P9.same ss
      have aR := (aR.imp fun v e h => h.firm (Firm.of ss)).append (.cons (((r1.firm (Firm.of s2)).firm (Firm.of sL)).firm (Firm.of s3)) (.cons ((r2.firm (Firm.of sL)).firm (Firm.of s3)) .nil))
      have hR := upd_same (H := upd Hr2 L (.lst [.ref t1, .ref t2])) (a := L3) (o := .lst (vs2 ++ [.ref t1, .ref t2]))
      generalize upd (upd Hr2 L _) L3 _ = Hx at hR aR hN9 hta9 htc9 ha9 hb9 P9 ⊢
      obtain ⟨vs3, evs⟩ : ∃ vs3, vs3 = vs2 ++ [.ref t1, .ref t2] := ⟨_, rfl⟩
      rw [← evs] at aR hR
      clear ss s12 s3 sL nL nL3 r1 r2 s1 s2 hL2
      refine ⟨_, rfl, .inl ⟨rfl, _, SqL.of hR⟩, ?_⟩
      dsimp only [tCons]
      refine row_of (e := .op (.slc ((low + d : Nat) : Int) (low : Nat)) [eA]) (a := (low : Int) + (d : Int) - (low : Int) + 1) (b := ((va : Int) / 2 ^ low) % 2 ^ (d + 1)) (K := K) (Γ := G2 W) (U := U2 va vc) ?w9 ?z9 ?he9 ?ha9 ?hb9 ?hw9 ?hv9 fun Hr1 t1 s1 r1 => ?q9
      case hw9 => exact fun H' Q' h => ⟨_, rfl, _, rfl, _, _, rfl, rfl, _, _, rfl, rfl, h⟩
      case hv9 => exact fun H' Q' h => ⟨_, rfl, _, rfl, low, rfl, rfl, by omega, _, _, rfl, rfl, div_ok low (by omega), .inl ⟨_, rfl, _, rfl, _, rfl, _, _, rfl, rfl, _, _, rfl, rfl, d + 1, rfl, congrArg V.int (by omega), by omega, _, _, rfl, rfl, Int.pow_pos (by decide), h⟩⟩
      case he9 => exact fun Q1 q1 => ⟨_, rfl, _, rfl, _, rfl, len4, fun t nt => q1 _ _ (same_new nt) (at_slc upd_same (atL (same_new nt _ _ ha9)) (by omega))⟩
      case w9 => exact ⟨_, .slc (low + d) low eA W (by omega) (by omega) (by omega) (wA (by omega))⟩
      case z9 => exact z_one
      case ha9 => rw [den_slc, Int.natCast_add]; omega
      case hb9 => rw [den_slc]; show ((va / 2 ^ low % 2 ^ (d + 1) : Nat) : Int) = _; rw [castM, Int.natCast_ediv, pow_cast]
      have sR1 := s1 _ _ hR
      have l8 := aR.len
      refine ⟨L3, _, _, rfl, rfl, sR1, (by rw [l8]; show 8 < sizeLine; decide), ?_⟩
      have fu := Firm.upd (o := .lst (vs3 ++ [.ref t1])) sR1 rfl
      have ff := (Firm.of s1).trans fu
      have LN : nd ≠ L3 := ne_of hN9 hR (by intro z; cases z)
      have hN9 : upd Hr1 L3 (.lst (vs3 ++ [.ref t1])) nd = some (.dK [(.inr "a", .ref ta), (.inr "b", .ref tc)]) := (upd_ne LN).trans (s1 _ _ hN9)
      have hta9 := firm_seq ff hta9
      have htc9 := firm_seq ff htc9
      have ha9 := ff _ _ ha9 rfl
      have hb9 := ff _ _ hb9 rfl
      have P9 := (P9.same s1).upd (o := .lst (vs3 ++ [.ref t1])) Lpc.1 Lpc.2
      have aR := (aR.imp fun v e h => h.firm ff).append (.cons (r1.firm fu) .nil)
      have hR := upd_same (H := Hr1) (a := L3) (o := .lst (vs3 ++ [.ref t1]))
      obtain ⟨vs4, evs⟩ : ∃ vs4, vs4 = vs3 ++ [.ref t1] := ⟨_, rfl⟩
      generalize upd Hr1 L3 _ = Hx at hR aR hN9 hta9 htc9 ha9 hb9 P9 ⊢
      rw [← evs] at aR hR
      clear ff fu s1 r1 sR1
      refine ⟨len3, fun L4 nL4 => ?_⟩
      have s4 := same_new (u := .lst [.str "and", .str "or", .str "xor"]) nL4
      have L43 : L4 ≠ L3 := fun e => by rw [e, hR] at nL4; cases nL4
      refine ⟨L4, rfl, ⟨_, SqL.of upd_same⟩, for_list (K := K) (a := L4) (xs := [.str "and", .str "or", .str "xor"])
        (fun i σ H' => ∃ (x13 : Option V) (vs : List V) (es : List Ex), σ = [some (.ref p), some (.int (W : Nat)), some (.int (2 ^ W)), some (.ref nd), x4, some (.ref ua), some (.ref ub), some (.int (va : Nat)), some (.int (vc : Nat)), some (.int (k : Nat)), some (.int (low : Nat)), some (.int ((low : Int) + (d : Int))), some (.ref L3), x13, none, none] ∧ H' L4 = some (.lst [.str "and", .str "or", .str "xor"]) ∧ PenC H' p c (m + 8 + 1) ∧ H' L3 = some (.lst vs) ∧ All2 (RowE K H' (G2 W) (U2 va vc)) vs es ∧ vs.length = 9 + i ∧ H' nd = some (.dK [(.inr "a", .ref ta), (.inr "b", .ref tc)]) ∧ SqT K H' ta [.int (W : Nat), .int (va : Nat)] ∧ SqT K H' tc [.int (W : Nat), .int (vc : Nat)] ∧ H' ua = some (.tup [.str "name", .str "a"]) ∧ H' ub = some (.tup [.str "name", .str "b"]))
        ⟨none, vs4, _, rfl, upd_same, P9.same s4, s4 _ _ hR, aR.imp (fun v e h => h.firm (Firm.of s4)), by rw [aR.len]; rfl, s4 _ _ hN9, seqT_same s4 hta9, seqT_same s4 htc9, s4 _ _ ha9, s4 _ _ hb9⟩ (fun i σ H' _ ⟨_, _, _, _, h, _⟩ => SqL.of h) ?_ ?_⟩
      · clear hR aR hN9 hta9 htc9 ha9 hb9 P9 s4 nL4
        rintro i y σ Hy hy ⟨x13, vs, es, rfl, hL4, P9, hR, aR, vl, hN9, hta9, htc9, ha9, hb9⟩
        have i3 : i < 3 := (List.getElem?_eq_some_iff.mp hy).1
        obtain ⟨kd, rfl, okd⟩ : ∃ kd : Str, y = .str kd ∧ (kd = "and" ∨ kd = "or" ∨ kd = "xor") := by
          match i, hy with
          | 0, hy => exact ⟨"and", (Option.some.inj hy).symm, .inl rfl⟩
          | 1, hy => exact ⟨"or", (Option.some.inj hy).symm, .inr (.inl rfl)⟩
          | 2, hy => exact ⟨"xor", (Option.some.inj hy).symm, .inr (.inr rfl)⟩
        have okd5 : kd = "and" ∨ kd = "or" ∨ kd = "xor" ∨ kd = "plus" ∨ kd = "times" := by rcases okd with h | h | h <;> simp [h]
        refine ⟨_, rfl, .inl ⟨rfl, _, SqL.of hR⟩, ?_⟩
        dsimp only [tCons]
        refine row_of (e := .op (.bin kd) [eA, eB]) (a := (W : Nat)) (b := ((bwM kd va vc : Nat) : Int)) (K := K) (Γ := G2 W) (U := U2 va vc) ?w10 ?z10 ?he10 ?ha10 ?hb10 ?hw10 ?hv10 fun Hr1 t1 s1 r1 => ?q10
        case hw10 => exact fun H' Q' h => ⟨_, rfl, h⟩
        case hv10 => exact fun H' Q' h => ⟨_, rfl, _, rfl, _, rfl, _, rfl, kd, W, va, vc, rfl, by omega, hva, hvc, h⟩
        case he10 => exact he_binV rfl rfl rfl ha9 hb9
        case w10 => exact (wt_bin (by omega) okd5)
        case z10 => exact z_bin
        case ha10 => rw [den_bin]; rcases okd with rfl | rfl | rfl <;> rfl
        case hb10 => rw [den_bin]; rcases okd with rfl | rfl | rfl <;> rfl
        have sR1 := s1 _ _ hR
        have fu := Firm.upd (o := .lst (vs ++ [.ref t1])) sR1 rfl
        have ff := (Firm.of s1).trans fu
        have LN : nd ≠ L3 := ne_of hN9 hR (by intro z; cases z)
        refine ⟨L3, _, _, rfl, rfl, sR1, Nat.lt_of_lt_of_le (by omega : vs.length < 20) (by decide), some (.str kd), vs ++ [.ref t1], _, rfl, by rw [upd_ne L43]; exact s1 _ _ hL4, (P9.same s1).upd Lpc.1 Lpc.2, upd_same, (aR.imp fun v e h => h.firm ff).append (.cons (r1.firm fu) .nil), by rw [List.length_append, vl]; rfl, (upd_ne LN).trans (s1 _ _ hN9), firm_seq ff hta9, firm_seq ff htc9, ff _ _ ha9 rfl, ff _ _ hb9 rfl⟩
      · clear hR aR hN9 hta9 htc9 ha9 hb9 P9 s4 nL4
        rintro σ Hy ⟨x13, vs, es, rfl, hL4, P9, hR, aR, vl, hN9, hta9, htc9, ha9, hb9⟩
        have vl : vs.length = 12 := vl
        refine ⟨_, rfl, .inl ⟨rfl, _, SqL.of hR⟩, ?_⟩
        dsimp only [tCons]
        refine row_of (e := .op .ite [.op (.bin "equal") [eA, eB], eA, .op (.un "not") [eB]]) (a := (W : Nat)) (b := if va = vc then (va : Int) else 2 ^ W - 1 - (vc : Int)) (K := K) (Γ := G2 W) (U := U2 va vc) ?w11 ?z11 ?he11 ?ha11 ?hb11 ?hw11 ?hv11 fun Hr1 t1 s1 r1 => ?q11
        case hw11 => exact fun H' Q' h => ⟨_, rfl, h⟩
        case hv11 => exact fun H' Q' h => ite_hv rfl rfl rfl h
        case he11 => exact he_ite rfl rfl ha9 hb9
        case w11 => exact ⟨W, .ite _ _ _ W (by omega) (.cmp "equal" eA eB W (by decide) (by omega) (wA (by omega)) (wB (by omega))) (wA (by omega)) (.un "not" eB W (by decide) (by omega) (wB (by omega)))⟩
        case z11 => exact (by rw [exZ_op, exZs_cons, exZs_cons, exZs_cons, exZs_nil, exZ_op, exZs_cons, exZs_cons, exZs_nil, exZ_op, exZs_cons, exZs_nil, exZ_lf, exZ_lf]; decide)
        case ha11 => rw [den_ite]; split <;> rfl
        case hb11 => rw [den_ite]; exact if_due hvc
        have sR1 := s1 _ _ hR
        have fu := Firm.upd (o := .lst (vs ++ [.ref t1])) sR1 rfl
        have ff := (Firm.of s1).trans fu
        have LN : nd ≠ L3 := ne_of hN9 hR (by intro z; cases z)
        refine ⟨L3, _, _, rfl, rfl, sR1, Nat.lt_of_lt_of_le (by omega : vs.length < 20) (by decide), ?_⟩
        have hN9 : upd Hr1 L3 (.lst (vs ++ [.ref t1])) nd = some (.dK [(.inr "a", .ref ta), (.inr "b", .ref tc)]) := (upd_ne LN).trans (s1 _ _ hN9)
        have hta9 := firm_seq ff hta9
        have htc9 := firm_seq ff htc9
        have P9 := (P9.same s1).upd (o := .lst (vs ++ [.ref t1])) Lpc.1 Lpc.2
        have aR := (aR.imp fun v e h => h.firm ff).append (.cons (r1.firm fu) .nil)
        have hR := upd_same (H := Hr1) (a := L3) (o := .lst (vs ++ [.ref t1]))
        generalize upd Hr1 L3 _ = Hz at hR aR hN9 hta9 htc9 P9 ⊢
        clear ff fu s1 r1 sR1 ha9 hb9 hL4
        refine ⟨_, rfl, L3, rfl, ⟨_, SqL.of hR⟩, fun D nD => ?_⟩
        refine lc_list (K := K) (a := L3) (xs := vs ++ [.ref t1]) (fun i H' => Same Hz H' ∧ H' D = some (.lst [])) ⟨same_new nD, upd_same⟩ (fun i H' _ ⟨s, _⟩ => SqL.of (s _ _ hR)) ?_ ?_
        · rintro i y H1 hy ⟨s1, hD⟩
          obtain ⟨e, he, rw1⟩ := aR.get hy
          obtain ⟨t, ev, dv, rfl, ht, hev, hdv⟩ := rw1.at_
          obtain ⟨we, wte⟩ := rw1.wt
          refine ⟨t, _, rfl, seqT_same s1 ht, rfl, _, _, rfl, _, _, rfl, rfl, rfl, _, rfl, _, rfl, G2 W, U2 va vc, nd, _, ev, e, we, rfl, hev.firm (Firm.of s1), wte, good, Nat.le_trans rw1.z (by decide), s1 _ _ hN9, nm_at2 (s1 _ _ hN9) (seqT_same s1 hta9) (seqT_same s1 htc9), fun H2 r s2 hr => ?_⟩
          have s12 := s1.trans s2
          refine ⟨_, rfl, _, _, pt_dp hr, pt_dp (hdv.firm (Firm.of s12)), sh_p _, sh_p _, _, rfl, ?_⟩
          rw [SeqAt.eqv_refl (pD _) (SeqAt.canLay_of_shaped (sh_p _))]
          exact goF rfl ⟨s12, s2 _ _ hD⟩
        · rintro H1 ⟨s1, hD⟩
          refine ⟨len0, fun e0 n0 => ?_⟩
          have s2 := same_new (u := .lst []) n0
          refine ⟨_, _, .lst (SqL.of (s2 _ _ hD)) .nil, .lst (SqL.of upd_same) .nil, by decide +kernel, by decide +kernel, ?_⟩
          exact q _ _ (P9.same (s1.trans s2))
end
end Sr
namespace Lw5
open PySem PySem.Spec PyProof.Rows L2 Gd Pen Dat Ki Fi Ep Eq Er Es Ev Ew Eu Kn Sr
open Mx (MGet)
/-! ## k05: the law -/
structure Tx (mg : Str → Option Value) : Prop where
  range : mg "range" = none
  tuple : mg "tuple" = none
  isinstance : mg "isinstance" = none
  int : mg "int" = none
  bool : mg "bool" = none
def spIW : Sp := fun vs H Q _ => ∃ i : Int, vs = [.int i] ∧ Q (.bl true) H
def spLaw (K : PySem.W.Frag) : Sp := fun vs H Q _ => ∃ (a : Addr) (ns : List Int), vs = [.ref a] ∧ SqL K H a (ns.map V.int) ∧ ns.length ≤ 63 ∧ ∀ H', Q (.bl true) H'
section
variable {P : Program} {w : World} {K : PySem.W.Frag} {mg : Str → Option Value} {base : Heap} {f : Addr} {fd : FuncData}
abbrev nIW : List Str := ["_law_thing"]
theorem scIW : FnScope nIW ["_law_thing"] (defScope sWhole) := ⟨rfl, rfl, rfl, by decide +kernel, rfl, by decide +kernel, by decide +kernel⟩
theorem ok_iw (F : FnP K "_law_is_whole" sWhole f fd) (T : Tx mg) : FnOk P w K mg base CX0 1 f fd ["_law_thing"] spIW := by
  refine F.ok scIW (fun vs H Q E h => ?_) (fun cdv A outer s H vs Q E hr h => ?_)
  · obtain ⟨i, rfl, _⟩ := h
    rfl
  · obtain ⟨i, rfl, q⟩ := h
    refine ⟨_, PSs.nox (pss_one (ps_ret (pe_and (pe_callB call_isi (by rfl) T.isinstance (by decide +kernel) (pa_cons (pv 0) (pa_cons (pe_bltn (v := .ty "int") (by rfl) T.int (by decide +kernel) rfl) pa_nil))) (pe_one (pe_not (pe_callB call_isi (by rfl) T.isinstance (by decide +kernel) (pa_cons (pv 0) (pa_cons (pe_bltn (v := .ty "bool") (by rfl) T.bool (by decide +kernel) rfl) pa_nil)))))))), ?_⟩
    have hd : Dp K H (.int i) (.int i) := .int i
    refine ⟨_, rfl, _, _, _, _, _, rfl, .ty _, ty_of hd, kit_ty (a := "int") (b := "int") (r := true) (by decide +kernel), _, rfl, iteT ⟨_, rfl, _, _, _, _, _, rfl, .ty _, ty_of hd, kit_ty (a := "int") (b := "bool") (r := false) (by decide +kernel), _, rfl, q⟩⟩
def G3 : Gam where
  nm := fun n => if n = "a" then some 2 else if n = "b" then some 1 else none
  pt := fun _ _ => none
  mm := fun _ => none
theorem g3_cases {n : Str} {u : Nat} (h : G3.nm n = some u) : (n = "a" ∧ u = 2) ∨ (n = "b" ∧ u = 1) := by
  have h : (if n = "a" then some 2 else if n = "b" then some 1 else none) = some u := h
  by_cases c1 : n = "a"
  · rw [if_pos c1] at h
    exact .inl ⟨c1, (Option.some.inj h).symm⟩
  · rw [if_neg c1] at h
    by_cases c2 : n = "b"
    · rw [if_pos c2] at h
      exact .inr ⟨c2, (Option.some.inj h).symm⟩
    · rw [if_neg c2] at h
      cases h
theorem good3 : Good G3 (U2 2 1) where
  nm := fun n u h => by
    rcases g3_cases h with ⟨rfl, rfl⟩ | ⟨rfl, rfl⟩ <;> decide
  pt := fun u n w h => by cases h
  mm := fun m w b h => by cases h
theorem wt_join : Wt G3 (.op .join [eA, .lf (.num 3 5), eB]) 6 := .join _ [2, 3, 1] (.cons _ _ _ _ (.nam _ _ (by decide) rfl) (.cons _ _ _ _ (.num 3 5 (by decide) (by decide) (by decide)) (.cons _ _ _ _ (.nam _ _ (by decide) rfl) .nil))) (by decide)
theorem den_join : den G3 (U2 2 1) (.op .join [eA, .lf (.num 3 5), eB]) = ((6 : Nat), (43 : Nat)) := by
  rw [den_op, List.map_cons, List.map_cons, List.map_cons, List.map_nil, den_lf, den_lf, den_lf]
  rfl
theorem nm_at3 {H : Hp} {nd ta tb : Addr} (hn : H nd = some (.dK [(.inr "a", .ref ta), (.inr "b", .ref tb)])) (ha : SqT K H ta [.int 2, .int 2]) (hb : SqT K H tb [.int 1, .int 1]) : NmAt K (MGet P w) H nd G3 (U2 2 1) where
  nm := fun n u h => by
    rcases g3_cases h with ⟨rfl, rfl⟩ | ⟨rfl, rfl⟩
    · exact ⟨.ref ta, ⟨ta, rfl, ha⟩, fun H' s => .inl (DGet.k (k := .inr "a") (s.2 _ hn))⟩
    · exact ⟨.ref tb, ⟨tb, rfl, hb⟩, fun H' s => .inl (DGet.k (k := .inr "b") (s.2 _ hn))⟩
  pt := fun u n w h => by cases h
  mm := fun m w b h => by cases h
abbrev nLAW : List Str := ["_law_script", "_law_pen_here", "_law_lap", "_law_names", "_law_row", "_law_width", "_law_expression", "_law_told", "_law_many"]
theorem scLAW : FnScope nLAW ["_law_script"] (defScope sLaw) := ⟨rfl, rfl, rfl, by decide +kernel, rfl, by decide +kernel, by decide +kernel⟩
theorem ok_law (F : FnP K "law" sLaw f fd) (T : Tx mg)
    {fPP fDR fPI fKN fDE fWO fLW fIW fSR : Addr} {dPP dDR dPI dKN dDE dWO dLW dIW dSR : FuncData}
    (GPP : FnOk P w K mg base CX0 1 fPP dPP ["_law_script"] ((spPen K))) (gPP : mg "_law_pen" = some (.ref fPP)) (kPP : PySem.W.keepIn K (.ref fPP) = true) (bPP : Binds K dPP ["_law_script"] [])
    (GDR : FnOk P w K mg base CX0 1 fDR dDR ["_law_pen_here", "_law_many"] (spDraw)) (gDR : mg "_law_draw" = some (.ref fDR)) (kDR : PySem.W.keepIn K (.ref fDR) = true) (bDR : Binds K dDR ["_law_pen_here", "_law_many"] [])
    (GPI : FnOk P w K mg base CX0 2 fPI dPI ["_law_pen_here", "_law_some"] ((spPick K))) (gPI : mg "_law_pick" = some (.ref fPI)) (kPI : PySem.W.keepIn K (.ref fPI) = true) (bPI : Binds K dPI ["_law_pen_here", "_law_some"] [])
    (GKN : FnOk P w K mg base CX0 5 fKN dKN ["_law_pen_here"] ((spKN K (MGet P w)))) (gKN : mg "_law_known" = some (.ref fKN)) (kKN : PySem.W.keepIn K (.ref fKN) = true) (bKN : Binds K dKN ["_law_pen_here"] [])
    (GDE : FnOk P w K mg base CX0 6 fDE dDE ["_law_pen_here", "_law_width", "_law_names", "_law_deep"] ((spDE K 3))) (gDE : mg "_law_drawn_expression" = some (.ref fDE)) (kDE : PySem.W.keepIn K (.ref fDE) = true) (bDE : Binds K dDE ["_law_pen_here", "_law_width", "_law_names", "_law_deep"] [])
    (GWO : FnOk P w K mg base CX0 5 fWO dWO ["expression", "names"] ((spWO K (MGet P w)))) (gWO : mg "word_of" = some (.ref fWO)) (kWO : PySem.W.keepIn K (.ref fWO) = true) (bWO : Binds K dWO ["expression", "names"] [])
    (GLW : FnOk P w K mg base CX0 7 fLW dLW ["_law_expression", "_law_names"] ((spLW K (MGet P w) 5))) (gLW : mg "_law_word" = some (.ref fLW)) (kLW : PySem.W.keepIn K (.ref fLW) = true) (bLW : Binds K dLW ["_law_expression", "_law_names"] [])
    (GIW : FnOk P w K mg base CX0 1 fIW dIW ["_law_thing"] (spIW)) (gIW : mg "_law_is_whole" = some (.ref fIW)) (kIW : PySem.W.keepIn K (.ref fIW) = true) (bIW : Binds K dIW ["_law_thing"] [])
    (GSR : FnOk P w K mg base CX0 6 fSR dSR ["_law_pen_here"] (spSR)) (gSR : mg "_law_single_right" = some (.ref fSR)) (kSR : PySem.W.keepIn K (.ref fSR) = true) (bSR : Binds K dSR ["_law_pen_here"] [])
    : FnG P w K mg base CX0 9 f fd ["_law_script"] (spLaw K) := by
  refine FnG.mk_of F scLAW (fun vs H Q E h => ?_) (fun cdv A outer s H vs Q E hg hr h => ?_)
  · obtain ⟨a, ns, rfl, _⟩ := h
    rfl
  · obtain ⟨a, ns, rfl, hS, hl, q⟩ := h
    have hu := hu_of hr
    have h65 : (A.deeper (envOfC (Str.ofString "law") (defScope sLaw) s.heap.objs.size f cdv)).units + 65 < cLine := by
      have := hr.un
      omega
    refine ⟨_, PSs.nox (pss_cons (ps_set (i := 1) scLAW.nd rfl (Or.inl rfl) (pe_call GPP (hr.mono (by decide)) (by rfl) gPP kPP bPP .nil pass0 (pa_cons (pv 0) pa_nil)))
      (pss_cons (ps_for PassesOwn.never rfl (pi_range1 (by rfl) T.range (pa_cons pe_int pa_nil)) (pg_name (i := 2) scLAW.nd rfl (Or.inl rfl))
        (pss_cons (ps_asg (pe_call GKN (hr.mono (by decide)) (by rfl) gKN kKN bKN .nil pass0 (pa_cons (pv 1) pa_nil)) (pg_tup rfl (pgs_cons (pg_name (i := 3) scLAW.nd rfl (Or.inl rfl)) (pgs_cons (pg_name (i := 4) scLAW.nd rfl (Or.inl rfl)) pgs_nil))))
        (pss_cons (ps_set (i := 5) scLAW.nd rfl (Or.inl rfl) (pe_op op_add pe_int (pe_call GDR (hr.mono (by decide)) (by rfl) gDR kDR bDR .nil pass0 (pa_cons (pv 1) (pa_cons (pe_call GPI (hr.mono (by decide)) (by rfl) gPI kPI bPI .nil pass0 (pa_cons (pv 1) (pa_cons (pe_lst (pa_cons pe_int (pa_cons pe_int (pa_cons pe_int pa_nil)))) pa_nil))) pa_nil)))))
        (pss_cons (ps_set (i := 6) scLAW.nd rfl (Or.inl rfl) (pe_call GDE (hr.mono (by decide)) (by rfl) gDE kDE bDE .nil pass0 (pa_cons (pv 1) (pa_cons (pv 5) (pa_cons (pv 4) (pa_cons pe_int pa_nil))))))
        (pss_cons (ps_set (i := 7) scLAW.nd rfl (Or.inl rfl) (pe_call GWO (hr.mono (by decide)) (by rfl) gWO kWO bWO .nil pass0 (pa_cons (pv 6) (pa_cons (pv 3) pa_nil))))
        (pss_cons (ps_if (PW.pt (pw_or (pt_not (pt_val (pe_callB call_isi (by rfl) T.isinstance (by decide +kernel) (pa_cons (pv 7) (pa_cons (pe_bltn (v := .ty "tuple") (by rfl) T.tuple (by decide +kernel) rfl) pa_nil))))) (pw_or (pt_cmpR (op_neD hr.units) (pv 7) (pe_call GLW (hr.mono (by decide)) (by rfl) gLW kLW bLW .nil pass0 (pa_cons (pv 6) (pa_cons (pv 3) pa_nil))) (nomark _)) (pw_or1 (pt_cmpR op_ne (pe_ix (r := L2.rIxT K) (by exact ix_tup) (pv 7) pe_int (fun _ _ => rfl)) (pv 5) (nomark _))))))
          (pss_one (ps_ret pe_bl))
          pss_nil)
        (pss_one (ps_if (PW.pt (pw_or (pt_not (pt_val (pe_call GIW (hr.mono (by decide)) (by rfl) gIW kIW bIW .nil pass0 (pa_cons (pe_ix (r := L2.rIxT K) (by exact ix_tup) (pv 7) pe_int (fun _ _ => rfl)) pa_nil)))) (pw_or1 (pt_not (pt_chain op_le op_lt pe_int (pe_ix (r := L2.rIxT K) (by exact ix_tup) (pv 7) pe_int (fun _ _ => rfl)) (pe_op op_shl pe_int (pv 5)))))))
          (pss_one (ps_ret pe_bl))
          pss_nil))))))))
      (pss_cons (ps_set (i := 8) scLAW.nd rfl (Or.inl rfl) (pe_tup (pa_cons pe_str (pa_cons (pe_callTy (T := "tuple") (r := rTupOf K) (by exact call_tuple_of) (by rfl) T.tuple (by decide +kernel) (pa_cons (pe_lst (pa_cons (pe_tup (pa_cons pe_str (pa_cons pe_str pa_nil))) (pa_cons (pe_tup (pa_cons pe_str (pa_cons pe_int (pa_cons pe_int pa_nil)))) (pa_cons (pe_tup (pa_cons pe_str (pa_cons pe_str pa_nil))) pa_nil)))) pa_nil)) pa_nil))))
      (pss_cons (ps_if (pt_cmpR (op_neD hr.units) (pe_call GWO (hr.mono (by decide)) (by rfl) gWO kWO bWO .nil pass0 (pa_cons (pv 8) (pa_cons (pe_disp (pps_cons pe_str (pe_tup (pa_cons pe_int (pa_cons pe_int pa_nil))) (pps_cons pe_str (pe_tup (pa_cons pe_int (pa_cons pe_int pa_nil))) pps_nil)) (by rfl) (by rfl) (fun z => by cases z) (by decide)) pa_nil))) (pe_tup (pa_cons pe_int (pa_cons pe_int pa_nil))) (nomark _))
        (pss_one (ps_ret pe_bl))
        pss_nil)
      (pss_one (ps_ret (pe_call GSR (hr.mono (by decide)) (by rfl) gSR kSR bSR .nil pass0 (pa_cons (pv 1) pa_nil)))))))), ?_⟩
    refine ⟨_, rfl, a, ns, rfl, hS, hl, fun p c H1 np s1 P1 => ?_⟩
    refine ⟨6, rfl, by decide, by decide, for_range (lo := 0) (n := 6)
      (fun i σ H' => ∃ x2 x3 x4 x5 x6 x7 : Option V, σ = [some (.ref a), some (.ref p), x2, x3, x4, x5, x6, x7, none] ∧ PenC H' p c (1000 * i)) ⟨none, none, none, none, none, none, rfl, P1⟩ ?_ ?_⟩
    · rintro i σ H2 hi ⟨x2, x3, x4, x5, x6, x7, rfl, P2⟩
      refine ⟨_, rfl, p, c, _, rfl, P2, by omega, fun H3 t nd rw od Γ U rows es P3 B3 ht na good hn Np hrw Rp rl aN => ?_⟩
      refine ⟨t, _, rfl, ht, rfl, _, _, rfl, _, _, rfl, rfl, ?_⟩
      refine ⟨_, rfl, _, rfl, len3, fun L nL => ⟨p, c, L, _, _, rfl, P3.same (same_new nL), by omega, (P3.free nL).1, SqL.of upd_same, (by show 0 < 3; decide), (by show 3 ≤ 1000; decide), fun v j H4 hv P4 B4 => ?_⟩⟩
      obtain ⟨z, rfl, hz⟩ := three_of hv
      refine ⟨p, c, _, z, rfl, P4, by omega, by omega, by omega, fun r H5 r0 r1 P5 B5 => ⟨_, _, rfl, rfl, ?_⟩⟩
      obtain ⟨n, rfl⟩ := Int.eq_ofNat_of_zero_le r0
      have we : V.int (1 + (n : Int)) = V.int ((1 + n : Nat) : Int) := congrArg V.int (by omega)
      have sL := same_new (u := .lst [.int 1, .int 3, .int 12]) nL
      have B35 := (But.of_same (p := p) sL).trans (B4.trans B5)
      have f35 := Firm.pen B35 P3
      have e35 : Ext1 nd H3 H5 := ⟨f35, fun o e => B35 _ _ e Np⟩
      have hn5 := B35 _ _ hn Np
      refine ⟨_, rfl, _, rfl, _, rfl, Γ, 5, 2, p, c, rw, _, 1 + n, rows, es, congrArg (fun x => [V.ref p, x, V.ref rw, V.int 3]) we, P5, by show _ + 5 * 64 ≤ _; omega, Rp, B35 _ _ hrw Rp, rl, aN.imp (fun v r h => h.firm f35), by decide, by omega, by omega, fun H6 ev e P6 B6 hev wt ez eh => ?_⟩
      have e56 : Ext1 nd H5 H6 := ⟨Firm.pen B6 P5, fun o e => B6 _ _ e Np⟩
      have na6 := na.ext (e35.trans e56)
      have hn6 := B6 _ _ hn5 Np
      have ez2 : exZ e ≤ 5 * 64 := ez
      refine ⟨_, rfl, _, rfl, Γ, U, nd, od, ev, e, 1 + n, rfl, hev, wt, good, by omega, hn6, na6, fun H7 tv s7 htv => ?_⟩
      obtain ⟨d1, d2⟩ := wt_den good wt
      obtain ⟨tt, rfl, htt⟩ := htv
      have hd : Dp K H7 (.ref tt) (.tuple [.int ((den Γ U e).1 : Nat), .int ((den Γ U e).2 : Nat)]) := .tup htt (.cons (.int _) (.cons (.int _) .nil))
      refine ⟨_, rfl, _, _, _, _, _, rfl, .ty _, ty_of hd, kit_ty (a := "tuple") (b := "tuple") (r := true) (by decide +kernel), _, rfl, iteF ?_⟩
      refine ⟨_, rfl, _, rfl, _, rfl, Γ, U, nd, ev, e, 1 + n, rfl, hev.firm (Firm.of s7), wt, good, eh, na6.ext (Ext1.of s7), fun H8 r s8 hr => ?_⟩
      have htt8 := seqT_same s8 htt
      refine ⟨_, _, pt_dp ⟨tt, rfl, htt8⟩, pt_dp hr, sh_p _, sh_p _, _, rfl, ?_⟩
      rw [SeqAt.eqv_refl (pD _) (SeqAt.canLay_of_shaped (sh_p _))]
      refine goF rfl ?_
      refine ⟨_, rfl, tt, _, 0, _, rfl, rfl, htt8, at_of (j := 0) rfl rfl, _, rfl, rfl, _, rfl, ?_⟩
      have dw : V.int (((den Γ U e).1 : Nat) : Int) = V.int (1 + (n : Int)) := congrArg V.int (by rw [d1]; omega)
      refine goF (congrArg not (decide_eq_true dw)) ?_
      refine ⟨_, rfl, tt, _, 1, _, rfl, rfl, htt8, at_of (j := 1) rfl rfl, _, rfl, _, rfl, iteF ?_⟩
      have d3 : ((den Γ U e).2 : Int) < 1 * 2 ^ (1 + (n : Int)).toNat := by
        rw [show (1 + (n : Int)).toNat = 1 + n by omega, ← pow_cast, Int.one_mul]
        exact Int.ofNat_lt.mpr d2
      refine ⟨_, rfl, tt, _, 1, _, rfl, rfl, htt8, at_of (j := 1) rfl rfl, _, _, rfl, rfl, _, rfl, goT (decide_eq_true (by omega)) ?_⟩
      refine ⟨_, rfl, _, _, rfl, rfl, ⟨by omega, by omega, by decide⟩, _, _, rfl, rfl, _, rfl, goF (congrArg not (decide_eq_true d3)) ?_⟩
      exact ⟨_, _, _, _, _, _, rfl, ((P6.same s7).same s8).more (by show _ + 5 * 64 ≤ _; omega)⟩
    · rintro σ H2 ⟨x2, x3, x4, x5, x6, x7, rfl, P2⟩
      have P2 : PenC H2 p c 6000 := P2
      refine ⟨len2, fun t1 n1 => ⟨len3, fun t2 n2 => ⟨len2, fun t3 n3 => ⟨len3, fun L nL => ⟨L, _, rfl, .inl ⟨SqL.of upd_same, fun l nl => ⟨len2, fun t nt => ?_⟩⟩⟩⟩⟩⟩⟩
      have s1 := same_new (u := .tup [.str "name", .str "a"]) n1
      have h1 := upd_same (H := H2) (a := t1) (o := .tup [.str "name", .str "a"])
      have s2 := same_new (u := .tup [.str "number", .int 3, .int 5]) n2
      have h2 := upd_same (H := upd H2 t1 (.tup [.str "name", .str "a"])) (a := t2) (o := .tup [.str "number", .int 3, .int 5])
      have s3 := same_new (u := .tup [.str "name", .str "b"]) n3
      have h3 := upd_same (H := upd (upd H2 t1 (.tup [.str "name", .str "a"])) t2 (.tup [.str "number", .int 3, .int 5])) (a := t3) (o := .tup [.str "name", .str "b"])
      have sL := same_new (u := .lst [.ref t1, .ref t2, .ref t3]) nL
      have sl := same_new (u := .tup [.ref t1, .ref t2, .ref t3]) nl
      have hl := upd_same (H := upd (upd (upd (upd H2 t1 (.tup [.str "name", .str "a"])) t2 (.tup [.str "number", .int 3, .int 5])) t3 (.tup [.str "name", .str "b"])) L (.lst [.ref t1, .ref t2, .ref t3])) (a := l) (o := .tup [.ref t1, .ref t2, .ref t3])
      have st := same_new (u := .tup [.str "join", .ref l]) nt
      have ht := upd_same (H := upd (upd (upd (upd (upd H2 t1 (.tup [.str "name", .str "a"])) t2 (.tup [.str "number", .int 3, .int 5])) t3 (.tup [.str "name", .str "b"])) L (.lst [.ref t1, .ref t2, .ref t3])) l (.tup [.ref t1, .ref t2, .ref t3])) (a := t) (o := .tup [.str "join", .ref l])
      have h1 := st _ _ (sl _ _ (sL _ _ (s3 _ _ (s2 _ _ h1))))
      have h2 := st _ _ (sl _ _ (sL _ _ (s3 _ _ h2)))
      have h3 := st _ _ (sl _ _ (sL _ _ h3))
      have hl := st _ _ hl
      have P3 := (((((P2.same s1).same s2).same s3).same sL).same sl).same st
      generalize upd (upd (upd (upd (upd (upd H2 t1 _) t2 _) t3 _) L _) l _) t _ = He at ht h1 h2 h3 hl P3 ⊢
      clear s1 s2 s3 sL sl st n1 n2 n3 nL nl nt
      have xe : ExAt K He (.ref t) (.op .join [eA, .lf (.num 3 5), eB]) := by
        unfold ExAt exD exDs exDs exDs exDs
        exact .tup (SqT.of ht) (.cons (.str _) (.cons (.tup (SqT.of hl) (.cons (atL h1) (.cons (.tup (SqT.of h2) (.cons (.str _) (.cons (.int _) (.cons (.int _) .nil)))) (.cons (atL h3) .nil)))) .nil))
      refine ⟨_, rfl, fun nd nN => ⟨len2, fun ta na => ⟨len2, fun tb nb => ?_⟩⟩⟩
      have sN := same_new (u := .dK []) nN
      have hN := upd_same (H := He) (a := nd) (o := .dK [])
      obtain ⟨Np, Nc⟩ := P3.free nN
      have sa := same_new (u := .tup [.int 2, .int 2]) na
      have ha := upd_same (H := upd He nd (.dK [])) (a := ta) (o := .tup [.int 2, .int 2])
      have sb := same_new (u := .tup [.int 1, .int 1]) nb
      have hb := upd_same (H := upd (upd He nd (.dK [])) ta (.tup [.int 2, .int 2])) (a := tb) (o := .tup [.int 1, .int 1])
      have hN := sb _ _ (sa _ _ hN)
      have ha := sb _ _ ha
      have s5 := sN.trans (sa.trans sb)
      have xe := xe.firm (Firm.of s5)
      have P4 := P3.same s5
      generalize upd (upd (upd He nd _) ta _) tb _ = Hf at hN ha hb xe P4 ⊢
      clear sN sa sb s5 ht h1 h2 h3 hl P3 nN na nb
      have fu := Firm.upd (o := .dK (mergeK [] [(.inr "a", .ref ta), (.inr "b", .ref tb)])) hN rfl
      refine ⟨hN, [(.inr "a", .ref ta), (.inr "b", .ref tb)], rfl, (by show 2 ≤ 15; decide), ?_⟩
      have hN2 : upd Hf nd (.dK (mergeK [] [(.inr "a", .ref ta), (.inr "b", .ref tb)])) nd = some (.dK [(.inr "a", .ref ta), (.inr "b", .ref tb)]) := upd_same
      have ha2 := fu _ _ ha rfl
      have hb2 := fu _ _ hb rfl
      have xe := xe.firm fu
      have P5 : PenC (upd Hf nd (.dK (mergeK [] [(.inr "a", .ref ta), (.inr "b", .ref tb)]))) p c 6000 := P4.upd Np Nc
      generalize upd Hf nd _ = Hg at hN2 ha2 hb2 xe P5 ⊢
      refine ⟨G3, U2 2 1, nd, _, _, _, 6, rfl, xe, wt_join, good3, (by rw [exZ_op, exZs_cons, exZs_cons, exZs_cons, exZs_nil, exZ_lf, exZ_lf, exZ_lf]; decide), hN2, nm_at3 hN2 (SqT.of ha2) (SqT.of hb2), fun Hh r sh hr => ⟨len2, fun tz nz => ?_⟩⟩
      have sz := same_new (u := .tup [.int 6, .int 43]) nz
      rw [den_join] at hr
      refine ⟨_, _, pt_dp (hr.firm (Firm.of sz)), pt_dp (p := ((6 : Nat), (43 : Nat))) ⟨tz, rfl, SqT.of upd_same⟩, sh_p _, sh_p _, _, rfl, ?_⟩
      rw [SeqAt.eqv_refl (pD _) (SeqAt.canLay_of_shaped (sh_p _))]
      refine goF rfl ?_
      exact ⟨_, rfl, p, c, 6000, rfl, (P5.same sh).same sz, by decide, fun H' m' P' => q H'⟩
end
end Lw5
namespace E05
open PySem PySem.Spec PyProof.Rows L2 Pen Dat Ki Fi Ep Es Gd Lw5 He
def ds_parts_of : DefD := ⟨("parts_of", none), "parts_of", "parts_of", defArgs sPartsOf, defBody sPartsOf, defScope sPartsOf, [], []⟩
def ds_from_within : DefD := ⟨("from_within", none), "from_within", "from_within", defArgs sFromWithin, defBody sFromWithin, defScope sFromWithin, [], []⟩
def ds_folded : DefD := ⟨("folded", none), "folded", "folded", defArgs sFolded, defBody sFolded, defScope sFolded, [], []⟩
def ds_within : DefD := ⟨("within", none), "within", "within", defArgs sWithin, defBody sWithin, defScope sWithin, [], []⟩
def ds_not_word : DefD := ⟨("not_word", none), "not_word", "not_word", defArgs sNotWord, defBody sNotWord, defScope sNotWord, [], []⟩
def ds_minus_word : DefD := ⟨("minus_word", none), "minus_word", "minus_word", defArgs sMinusWord, defBody sMinusWord, defScope sMinusWord, [], []⟩
def ds_and_word : DefD := ⟨("and_word", none), "and_word", "and_word", defArgs sAndWord, defBody sAndWord, defScope sAndWord, [], []⟩
def ds_or_word : DefD := ⟨("or_word", none), "or_word", "or_word", defArgs sOrWord, defBody sOrWord, defScope sOrWord, [], []⟩
def ds_xor_word : DefD := ⟨("xor_word", none), "xor_word", "xor_word", defArgs sXorWord, defBody sXorWord, defScope sXorWord, [], []⟩
def ds_plus_word : DefD := ⟨("plus_word", none), "plus_word", "plus_word", defArgs sPlusWord, defBody sPlusWord, defScope sPlusWord, [], []⟩
def ds_times_word : DefD := ⟨("times_word", none), "times_word", "times_word", defArgs sTimesWord, defBody sTimesWord, defScope sTimesWord, [], []⟩
def ds_equal_word : DefD := ⟨("equal_word", none), "equal_word", "equal_word", defArgs sEqualWord, defBody sEqualWord, defScope sEqualWord, [], []⟩
def ds_below_word : DefD := ⟨("below_word", none), "below_word", "below_word", defArgs sBelowWord, defBody sBelowWord, defScope sBelowWord, [], []⟩
def ds_if_word : DefD := ⟨("if_word", none), "if_word", "if_word", defArgs sIfWord, defBody sIfWord, defScope sIfWord, [], []⟩
def ds_left_word : DefD := ⟨("left_word", none), "left_word", "left_word", defArgs sLeftWord, defBody sLeftWord, defScope sLeftWord, [], []⟩
def ds_right_word : DefD := ⟨("right_word", none), "right_word", "right_word", defArgs sRightWord, defBody sRightWord, defScope sRightWord, [], []⟩
def ds_slice_word : DefD := ⟨("slice_word", none), "slice_word", "slice_word", defArgs sSliceWord, defBody sSliceWord, defScope sSliceWord, [], []⟩
def ds_join_word : DefD := ⟨("join_word", none), "join_word", "join_word", defArgs sJoinWord, defBody sJoinWord, defScope sJoinWord, [], []⟩
def ds_part_word : DefD := ⟨("part_word", none), "part_word", "part_word", defArgs sPartWord, defBody sPartWord, defScope sPartWord, [], []⟩
def ds_word_of : DefD := ⟨("word_of", none), "word_of", "word_of", defArgs sWordOf, defBody sWordOf, defScope sWordOf, [], []⟩
def ds__law_pen : DefD := ⟨("_law_pen", none), "_law_pen", "_law_pen", defArgs sPen, defBody sPen, defScope sPen, [], []⟩
def ds__law_draw : DefD := ⟨("_law_draw", none), "_law_draw", "_law_draw", defArgs sDraw, defBody sDraw, defScope sDraw, [], []⟩
def ds__law_pick : DefD := ⟨("_law_pick", none), "_law_pick", "_law_pick", defArgs sPick, defBody sPick, defScope sPick, [], []⟩
def ds__law_is_whole : DefD := ⟨("_law_is_whole", none), "_law_is_whole", "_law_is_whole", defArgs sWhole, defBody sWhole, defScope sWhole, [], []⟩
def ds__law_word : DefD := ⟨("_law_word", none), "_law_word", "_law_word", defArgs sLWord, defBody sLWord, defScope sLWord, [], []⟩
def ds__law_bitwise : DefD := ⟨("_law_bitwise", none), "_law_bitwise", "_law_bitwise", defArgs sLBitwise, defBody sLBitwise, defScope sLBitwise, [], []⟩
def ds__law_drawn_expression : DefD := ⟨("_law_drawn_expression", none), "_law_drawn_expression", "_law_drawn_expression", defArgs sLDrawnExpression, defBody sLDrawnExpression, defScope sLDrawnExpression, [], []⟩
def ds__law_known : DefD := ⟨("_law_known", none), "_law_known", "_law_known", defArgs sLKnown, defBody sLKnown, defScope sLKnown, [], []⟩
def ds__law_single_right : DefD := ⟨("_law_single_right", none), "_law_single_right", "_law_single_right", defArgs sLSingleRight, defBody sLSingleRight, defScope sLSingleRight, [], []⟩
def ds_law : DefD := ⟨("law", none), "law", "law", defArgs sLaw, defBody sLaw, defScope sLaw, [], []⟩
def fn : List DefD := [ds_parts_of, ds_from_within, ds_folded, ds_within, ds_not_word, ds_minus_word, ds_and_word, ds_or_word, ds_xor_word, ds_plus_word, ds_times_word, ds_equal_word, ds_below_word, ds_if_word, ds_left_word, ds_right_word, ds_slice_word, ds_join_word, ds_part_word, ds_word_of, ds__law_pen, ds__law_draw, ds__law_pick, ds__law_is_whole, ds__law_word, ds__law_bitwise, ds__law_drawn_expression, ds__law_known, ds__law_single_right, ds_law]
def fa : List Fa := [.glo "parts_of", .glo "from_within", .glo "folded", .glo "within", .glo "not_word", .glo "minus_word", .glo "and_word", .glo "or_word", .glo "xor_word", .glo "plus_word", .glo "times_word", .glo "equal_word", .glo "below_word", .glo "if_word", .glo "left_word", .glo "right_word", .glo "slice_word", .glo "join_word", .glo "part_word", .glo "word_of", .glo "_law_pen", .glo "_law_draw", .glo "_law_pick", .glo "_law_is_whole", .glo "_law_word", .glo "_law_bitwise", .glo "_law_drawn_expression", .glo "_law_known", .glo "_law_single_right", .glo "law", .free "range", .free "tuple", .free "list", .free "int", .free "len", .free "isinstance", .free "bool", .free "max", .glo "LEAVES", .glo "ONE_PART", .glo "INNER_WORDS"]
def tabV : List (Str × Dv) := [("not", .glo "not_word"), ("minus", .glo "minus_word"), ("and", .glo "and_word"), ("or", .glo "or_word"), ("xor", .glo "xor_word"), ("plus", .glo "plus_word"), ("times", .glo "times_word"), ("equal", .glo "equal_word"), ("below", .glo "below_word"), ("if", .glo "if_word"), ("left", .glo "left_word"), ("right", .glo "right_word"), ("slice", .glo "slice_word"), ("join", .glo "join_word")]
def ts : List Tab := [(fun K => ga K "INNER_WORDS", ["not", "minus", "and", "or", "xor", "plus", "times", "equal", "below", "if", "left", "right", "slice", "join"])]
def exB (K : PySem.W.Frag) : Bool := (decide (tupB K "LEAVES" [.str "number", .str "name", .str "port"] = true) && (decide (tupB K "ONE_PART" [.str "not", .str "minus", .str "left", .str "right", .str "slice"] = true) && (decide (valsB K (ga K "INNER_WORDS") tabV = true) && true)))
abbrev R : PySem.W.OpenRow := PySem.W.OpenLaw.row PySem.Challenge.rw_everycycle_k05_whole_words_of_expression
abbrev hk : PySem.W.Hook := hookX 6 fa fn ts [] exB
def ob (s : PySem.W.SharedT) : AlX := obsX 6 fa fn ts [] exB (HandSHeadRun.getT s)
theorem ob_eq (s : PySem.W.SharedT) : ob s = hk.obs s.abs := obsX_eq (HandSHeadRun.getT_eq s)
theorem run (w : World) : HandSHeadRun.RunEq R (PySem.W.view R.prog [36]) hk ob 4000 [("LEAVES" : PySem.Str), ("ONE_PART" : PySem.Str), ("parts_of" : PySem.Str), ("from_within" : PySem.Str), ("folded" : PySem.Str), ("within" : PySem.Str), ("not_word" : PySem.Str), ("minus_word" : PySem.Str), ("and_word" : PySem.Str), ("or_word" : PySem.Str), ("xor_word" : PySem.Str), ("plus_word" : PySem.Str), ("times_word" : PySem.Str), ("equal_word" : PySem.Str), ("below_word" : PySem.Str), ("if_word" : PySem.Str), ("left_word" : PySem.Str), ("right_word" : PySem.Str), ("slice_word" : PySem.Str), ("join_word" : PySem.Str), ("INNER_WORDS" : PySem.Str), ("part_word" : PySem.Str), ("word_of" : PySem.Str), ("_law_pen" : PySem.Str), ("_law_draw" : PySem.Str), ("_law_pick" : PySem.Str), ("_law_is_whole" : PySem.Str), ("_law_word" : PySem.Str), ("_law_bitwise" : PySem.Str), ("_law_drawn_expression" : PySem.Str), ("_law_known" : PySem.Str), ("_law_single_right" : PySem.Str)] w := by
  revert w
  refine PySem.W.byRow2 "special-get-raises" (fun w => ?_) fun w => ?_
  · intro os
    kernel_rfl
  · intro os
    kernel_rfl
theorem and2 {a b : Bool} (h : (a && b) = true) : a = true ∧ b = true := Bool.and_eq_true_iff.mp h
theorem facts {P : Program} {w : World} {K : PySem.W.Frag} {h : Heap} {mg : Str → Option Value} {f : Addr} (X : K.In h) (G : h.Ns mainGlobals mg) (hfa : mg ("law" : Str) = some (.ref f)) (c : SaysX fa fn ts [] exB w h K) :
    ∃ fd : FuncData, (∀ (s : Shared) (v : Value), BindsTo s fd ⟨[v], []⟩ [("_law_script", v)]) ∧ ∀ base : Heap, K.In base → base.Ns mainGlobals mg → FnG P w K mg base CX0 9 f fd ["_law_script"] (Lw5.spLaw K) := by
  have cd := c.t.d
  obtain ⟨fd0, F0⟩ := cd.def_ 0 (d := ds_parts_of) rfl
  obtain ⟨fd1, F1⟩ := cd.def_ 1 (d := ds_from_within) rfl
  obtain ⟨fd2, F2⟩ := cd.def_ 2 (d := ds_folded) rfl
  obtain ⟨fd3, F3⟩ := cd.def_ 3 (d := ds_within) rfl
  obtain ⟨fd4, F4⟩ := cd.def_ 4 (d := ds_not_word) rfl
  obtain ⟨fd5, F5⟩ := cd.def_ 5 (d := ds_minus_word) rfl
  obtain ⟨fd6, F6⟩ := cd.def_ 6 (d := ds_and_word) rfl
  obtain ⟨fd7, F7⟩ := cd.def_ 7 (d := ds_or_word) rfl
  obtain ⟨fd8, F8⟩ := cd.def_ 8 (d := ds_xor_word) rfl
  obtain ⟨fd9, F9⟩ := cd.def_ 9 (d := ds_plus_word) rfl
  obtain ⟨fd10, F10⟩ := cd.def_ 10 (d := ds_times_word) rfl
  obtain ⟨fd11, F11⟩ := cd.def_ 11 (d := ds_equal_word) rfl
  obtain ⟨fd12, F12⟩ := cd.def_ 12 (d := ds_below_word) rfl
  obtain ⟨fd13, F13⟩ := cd.def_ 13 (d := ds_if_word) rfl
  obtain ⟨fd14, F14⟩ := cd.def_ 14 (d := ds_left_word) rfl
  obtain ⟨fd15, F15⟩ := cd.def_ 15 (d := ds_right_word) rfl
  obtain ⟨fd16, F16⟩ := cd.def_ 16 (d := ds_slice_word) rfl
  obtain ⟨fd17, F17⟩ := cd.def_ 17 (d := ds_join_word) rfl
  obtain ⟨fd18, F18⟩ := cd.def_ 18 (d := ds_part_word) rfl
  obtain ⟨fd19, F19⟩ := cd.def_ 19 (d := ds_word_of) rfl
  obtain ⟨fd20, F20⟩ := cd.def_ 20 (d := ds__law_pen) rfl
  obtain ⟨fd21, F21⟩ := cd.def_ 21 (d := ds__law_draw) rfl
  obtain ⟨fd22, F22⟩ := cd.def_ 22 (d := ds__law_pick) rfl
  obtain ⟨fd23, F23⟩ := cd.def_ 23 (d := ds__law_is_whole) rfl
  obtain ⟨fd24, F24⟩ := cd.def_ 24 (d := ds__law_word) rfl
  obtain ⟨fd25, F25⟩ := cd.def_ 25 (d := ds__law_bitwise) rfl
  obtain ⟨fd26, F26⟩ := cd.def_ 26 (d := ds__law_drawn_expression) rfl
  obtain ⟨fd27, F27⟩ := cd.def_ 27 (d := ds__law_known) rfl
  obtain ⟨fd28, F28⟩ := cd.def_ 28 (d := ds__law_single_right) rfl
  obtain ⟨fd29, F29⟩ := cd.def_ 29 (d := ds_law) rfl
  have glo : ∀ i x, fa[i]? = some (Fa.glo x) → mg x = some (.ref (ga K x)) := fun i x e => glo_ok X G (cd.fact i e)
  have fre : ∀ i x, fa[i]? = some (Fa.free x) → mg x = none := fun i x e => free_ok X G (cd.fact i e)
  have e := hfa.symm.trans (glo 29 "law" rfl)
  cases e
  have b0 : Binds K fd0 ["expression"] [] := F0.bindsN fun _ _ _ _ _ _ us hl => match us, hl with | [_], _ => rfl
  have b1 : Binds K fd1 ["expression"] [] := F1.bindsN fun _ _ _ _ _ _ us hl => match us, hl with | [_], _ => rfl
  have b2 : Binds K fd2 ["expression", "action", "known"] [] := F2.bindsN fun _ _ _ _ _ _ us hl => match us, hl with | [_, _, _], _ => rfl
  have b3 : Binds K fd3 ["width", "number"] [] := F3.bindsN fun _ _ _ _ _ _ us hl => match us, hl with | [_, _], _ => rfl
  have b4 : Binds K fd4 ["part", "words"] [] := F4.bindsN fun _ _ _ _ _ _ us hl => match us, hl with | [_, _], _ => rfl
  have b5 : Binds K fd5 ["part", "words"] [] := F5.bindsN fun _ _ _ _ _ _ us hl => match us, hl with | [_, _], _ => rfl
  have b6 : Binds K fd6 ["part", "words"] [] := F6.bindsN fun _ _ _ _ _ _ us hl => match us, hl with | [_, _], _ => rfl
  have b7 : Binds K fd7 ["part", "words"] [] := F7.bindsN fun _ _ _ _ _ _ us hl => match us, hl with | [_, _], _ => rfl
  have b8 : Binds K fd8 ["part", "words"] [] := F8.bindsN fun _ _ _ _ _ _ us hl => match us, hl with | [_, _], _ => rfl
  have b9 : Binds K fd9 ["part", "words"] [] := F9.bindsN fun _ _ _ _ _ _ us hl => match us, hl with | [_, _], _ => rfl
  have b10 : Binds K fd10 ["part", "words"] [] := F10.bindsN fun _ _ _ _ _ _ us hl => match us, hl with | [_, _], _ => rfl
  have b11 : Binds K fd11 ["part", "words"] [] := F11.bindsN fun _ _ _ _ _ _ us hl => match us, hl with | [_, _], _ => rfl
  have b12 : Binds K fd12 ["part", "words"] [] := F12.bindsN fun _ _ _ _ _ _ us hl => match us, hl with | [_, _], _ => rfl
  have b13 : Binds K fd13 ["part", "words"] [] := F13.bindsN fun _ _ _ _ _ _ us hl => match us, hl with | [_, _], _ => rfl
  have b14 : Binds K fd14 ["part", "words"] [] := F14.bindsN fun _ _ _ _ _ _ us hl => match us, hl with | [_, _], _ => rfl
  have b15 : Binds K fd15 ["part", "words"] [] := F15.bindsN fun _ _ _ _ _ _ us hl => match us, hl with | [_, _], _ => rfl
  have b16 : Binds K fd16 ["part", "words"] [] := F16.bindsN fun _ _ _ _ _ _ us hl => match us, hl with | [_, _], _ => rfl
  have b17 : Binds K fd17 ["part", "words"] [] := F17.bindsN fun _ _ _ _ _ _ us hl => match us, hl with | [_, _], _ => rfl
  have b18 : Binds K fd18 ["names", "part", "words"] [] := F18.bindsN fun _ _ _ _ _ _ us hl => match us, hl with | [_, _, _], _ => rfl
  have b19 : Binds K fd19 ["expression", "names"] [] := F19.bindsN fun _ _ _ _ _ _ us hl => match us, hl with | [_, _], _ => rfl
  have b20 : Binds K fd20 ["_law_script"] [] := F20.bindsN fun _ _ _ _ _ _ us hl => match us, hl with | [_], _ => rfl
  have b21 : Binds K fd21 ["_law_pen_here", "_law_many"] [] := F21.bindsN fun _ _ _ _ _ _ us hl => match us, hl with | [_, _], _ => rfl
  have b22 : Binds K fd22 ["_law_pen_here", "_law_some"] [] := F22.bindsN fun _ _ _ _ _ _ us hl => match us, hl with | [_, _], _ => rfl
  have b23 : Binds K fd23 ["_law_thing"] [] := F23.bindsN fun _ _ _ _ _ _ us hl => match us, hl with | [_], _ => rfl
  have b24 : Binds K fd24 ["_law_expression", "_law_names"] [] := F24.bindsN fun _ _ _ _ _ _ us hl => match us, hl with | [_, _], _ => rfl
  have b25 : Binds K fd25 ["_law_kind", "_law_width", "_law_one", "_law_two"] [] := F25.bindsN fun _ _ _ _ _ _ us hl => match us, hl with | [_, _, _, _], _ => rfl
  have b26 : Binds K fd26 ["_law_pen_here", "_law_width", "_law_names", "_law_deep"] [] := F26.bindsN fun _ _ _ _ _ _ us hl => match us, hl with | [_, _, _, _], _ => rfl
  have b27 : Binds K fd27 ["_law_pen_here"] [] := F27.bindsN fun _ _ _ _ _ _ us hl => match us, hl with | [_], _ => rfl
  have b28 : Binds K fd28 ["_law_pen_here"] [] := F28.bindsN fun _ _ _ _ _ _ us hl => match us, hl with | [_], _ => rfl
  have b := FunD.bindsA (ps := ["_law_script"]) F29 fun _ _ _ _ _ _ us hl => match us, hl with | [_], _ => rfl
  have g0 := glo 0 "parts_of" rfl
  have g1 := glo 1 "from_within" rfl
  have g2 := glo 2 "folded" rfl
  have g3 := glo 3 "within" rfl
  have g4 := glo 4 "not_word" rfl
  have g5 := glo 5 "minus_word" rfl
  have g6 := glo 6 "and_word" rfl
  have g7 := glo 7 "or_word" rfl
  have g8 := glo 8 "xor_word" rfl
  have g9 := glo 9 "plus_word" rfl
  have g10 := glo 10 "times_word" rfl
  have g11 := glo 11 "equal_word" rfl
  have g12 := glo 12 "below_word" rfl
  have g13 := glo 13 "if_word" rfl
  have g14 := glo 14 "left_word" rfl
  have g15 := glo 15 "right_word" rfl
  have g16 := glo 16 "slice_word" rfl
  have g17 := glo 17 "join_word" rfl
  have g18 := glo 18 "part_word" rfl
  have g19 := glo 19 "word_of" rfl
  have g20 := glo 20 "_law_pen" rfl
  have g21 := glo 21 "_law_draw" rfl
  have g22 := glo 22 "_law_pick" rfl
  have g23 := glo 23 "_law_is_whole" rfl
  have g24 := glo 24 "_law_word" rfl
  have g25 := glo 25 "_law_bitwise" rfl
  have g26 := glo 26 "_law_drawn_expression" rfl
  have g27 := glo 27 "_law_known" rfl
  have g28 := glo 28 "_law_single_right" rfl
  have g29 := glo 29 "law" rfl
  have z_range := fre 30 "range" rfl
  have z_tuple := fre 31 "tuple" rfl
  have z_list := fre 32 "list" rfl
  have z_int := fre 33 "int" rfl
  have z_len := fre 34 "len" rfl
  have z_isinstance := fre 35 "isinstance" rfl
  have z_bool := fre 36 "bool" rfl
  have z_max := fre 37 "max" rfl
  have r0 := c.more
  obtain ⟨q0, r1⟩ := and2 r0
  have w1 := of_decide_eq_true q0
  obtain ⟨q1, r2⟩ := and2 r1
  have w2 := of_decide_eq_true q1
  obtain ⟨q2, r3⟩ := and2 r2
  have w3 := of_decide_eq_true q2
  have pt : Pen.Txt mg := ⟨z_len, z_int, z_list⟩
  have gLE := glo_ok X G (cd.fact 38 rfl)
  have gON := glo_ok X G (cd.fact 39 rfl)
  have gIN := glo_ok X G (cd.fact 40 rfl)
  have TE : Eq.Tx K mg (ga K "LEAVES") (ga K "ONE_PART") := ⟨gLE, gON, fun H => tupB_ok w1 H, fun H => tupB_ok w2 H, z_len⟩
  have TL : Lw5.Tx mg := ⟨z_range, z_tuple, z_isinstance, z_int, z_bool⟩
  obtain ⟨es, nn, D⟩ := c.t.tab 0
  refine ⟨fd29, fun s v => b s [v] rfl, fun base _ _ => ?_⟩
  have G0 : FnOk P w K mg base CX0 _ _ _ _ _ := Eq.ok_parts F0 TE
  have G1 : FnOk P w K mg base CX0 _ _ _ _ _ := Eq.ok_within F1 TE G0 g0 F0.kp b0
  have G3 : FnOk P w K mg base CX0 _ _ _ _ _ := Et.ok_WI F3
  have G4 : FnOk P w K mg base CX0 _ _ _ _ _ := Et.ok_not F4
  have G5 : FnOk P w K mg base CX0 _ _ _ _ _ := Et.ok_minus F5 G3 g3 F3.kp b3
  have G6 : FnOk P w K mg base CX0 _ _ _ _ _ := Et.ok_and F6
  have G7 : FnOk P w K mg base CX0 _ _ _ _ _ := Et.ok_or F7
  have G8 : FnOk P w K mg base CX0 _ _ _ _ _ := Et.ok_xor F8
  have G9 : FnOk P w K mg base CX0 _ _ _ _ _ := Et.ok_plus F9 G3 g3 F3.kp b3
  have G10 : FnOk P w K mg base CX0 _ _ _ _ _ := Et.ok_times F10 G3 g3 F3.kp b3
  have G11 : FnOk P w K mg base CX0 _ _ _ _ _ := Et.ok_equal F11
  have G12 : FnOk P w K mg base CX0 _ _ _ _ _ := Et.ok_below F12
  have G13 : FnOk P w K mg base CX0 _ _ _ _ _ := Et.ok_if F13
  have G14 : FnOk P w K mg base CX0 _ _ _ _ _ := Et.ok_left F14 G3 g3 F3.kp b3
  have G15 : FnOk P w K mg base CX0 _ _ _ _ _ := Et.ok_right F15
  have G16 : FnOk P w K mg base CX0 _ _ _ _ _ := Et.ok_slice F16 G3 g3 F3.kp b3
  have G17 : FnOk P w K mg base CX0 _ _ _ _ _ := Et.ok_join F17
  have tab : ∀ k, Eu.isOp k → ∃ fk, PySem.W.nsIn K (ga K "INNER_WORDS") k = some (some (.ref fk)) ∧ Held P w K mg base 2 fk (spAct K k) := by
    intro k hk
    have rel : ∀ (kk x : Str), (kk, Dv.glo x) ∈ tabV → PySem.W.nsIn K (ga K "INNER_WORDS") kk = some (some (.ref (ga K x))) := fun kk x m => by
      obtain ⟨u, h1, h2⟩ := valsB_ok w3 m
      rw [h1, show u = Value.ref (ga K x) from h2]
    rcases hk with rfl | rfl | rfl | rfl | rfl | rfl | rfl | rfl | rfl | rfl | rfl | rfl | rfl | rfl
    · exact ⟨_, rel "not" "not_word" (List.mem_of_getElem? (i := 0) rfl), ⟨_, _, G4, F4.kp, b4⟩⟩
    · exact ⟨_, rel "minus" "minus_word" (List.mem_of_getElem? (i := 1) rfl), ⟨_, _, G5, F5.kp, b5⟩⟩
    · exact ⟨_, rel "and" "and_word" (List.mem_of_getElem? (i := 2) rfl), ⟨_, _, G6, F6.kp, b6⟩⟩
    · exact ⟨_, rel "or" "or_word" (List.mem_of_getElem? (i := 3) rfl), ⟨_, _, G7, F7.kp, b7⟩⟩
    · exact ⟨_, rel "xor" "xor_word" (List.mem_of_getElem? (i := 4) rfl), ⟨_, _, G8, F8.kp, b8⟩⟩
    · exact ⟨_, rel "plus" "plus_word" (List.mem_of_getElem? (i := 5) rfl), ⟨_, _, G9, F9.kp, b9⟩⟩
    · exact ⟨_, rel "times" "times_word" (List.mem_of_getElem? (i := 6) rfl), ⟨_, _, G10, F10.kp, b10⟩⟩
    · exact ⟨_, rel "equal" "equal_word" (List.mem_of_getElem? (i := 7) rfl), ⟨_, _, G11, F11.kp, b11⟩⟩
    · exact ⟨_, rel "below" "below_word" (List.mem_of_getElem? (i := 8) rfl), ⟨_, _, G12, F12.kp, b12⟩⟩
    · exact ⟨_, rel "if" "if_word" (List.mem_of_getElem? (i := 9) rfl), ⟨_, _, G13, F13.kp, b13⟩⟩
    · exact ⟨_, rel "left" "left_word" (List.mem_of_getElem? (i := 10) rfl), ⟨_, _, G14, F14.kp, b14⟩⟩
    · exact ⟨_, rel "right" "right_word" (List.mem_of_getElem? (i := 11) rfl), ⟨_, _, G15, F15.kp, b15⟩⟩
    · exact ⟨_, rel "slice" "slice_word" (List.mem_of_getElem? (i := 12) rfl), ⟨_, _, G16, F16.kp, b16⟩⟩
    · exact ⟨_, rel "join" "join_word" (List.mem_of_getElem? (i := 13) rfl), ⟨_, _, G17, F17.kp, b17⟩⟩
  have G18 : FnOk P w K mg base CX0 _ _ _ _ _ := Eu.ok_part F18 D gIN tab
  have GF : FnOk P w K mg base CX0 4 _ _ _ _ := Er.ok_folded F2 TE G18 F18.kp b18 (Nat.le_refl 3) (by decide) G1 g1 F1.kp b1 G0 g0 F0.kp b0
  have G19 : FnOk P w K mg base CX0 _ _ _ _ _ := Eu.ok_wo F19 g18 GF g2 F2.kp b2
  have G20 : FnOk P w K mg base CX0 _ _ _ _ _ := ok_pen F20 pt
  have G21 : FnOk P w K mg base CX0 _ _ _ _ _ := ok_draw F21 pt
  have G22 : FnOk P w K mg base CX0 _ _ _ _ _ := ok_pick F22 pt F21 g21
  have G23 : FnOk P w K mg base CX0 _ _ _ _ _ := Lw5.ok_iw F23 TL
  have G25 : FnOk P w K mg base CX0 _ _ _ _ _ := Ew.ok_bw F25 ⟨z_range, z_int, z_max⟩
  have GD := Ev.ok_de F26 G21 g21 F21.kp b21 G22 g22 F22.kp b22 g26 F26.kp b26
  have G24 : FnOk P w K mg base CX0 _ _ _ _ _ := Ew.ok_lw F24 ⟨z_range, z_int, z_max⟩ G25 g25 F25.kp b25 g24 F24.kp b24 5
  have G27 : FnOk P w K mg base CX0 _ _ _ _ _ := Kn.ok_kn F27 ⟨z_range, z_tuple, z_isinstance⟩ G21 g21 F21.kp b21 G22 g22 F22.kp b22 (GD 1) g26 F26.kp b26
  have G28 : FnOk P w K mg base CX0 _ _ _ _ _ := Sr.ok_sr F28 ⟨z_int⟩ G21 g21 F21.kp b21 G22 g22 F22.kp b22 G25 g25 F25.kp b25 G19 g19 F19.kp b19
  exact Lw5.ok_law F29 TL G20 g20 F20.kp b20 G21 g21 F21.kp b21 G22 g22 F22.kp b22 G27 g27 F27.kp b27 (GD 3) g26 F26.kp b26 G19 g19 F19.kp b19 G24 g24 F24.kp b24 G23 g23 F23.kp b23 G28 g28 F28.kp b28
end E05
open PySem PySem.W PySem.Calls PyProof.Rows
theorem PySem.Challenge.cw_everycycle_k05_whole_words_of_expression_holds : PySem.Challenge.rw_everycycle_k05_whole_words_of_expression.Holds := by
  w_on; o_law
  refine HandSHeadRun.head_any (r := OpenLaw.row PySem.Challenge.rw_everycycle_k05_whole_words_of_expression) (q := view (OpenLaw.row PySem.Challenge.rw_everycycle_k05_whole_words_of_expression).prog [36]) (H := E05.hk) (ob := E05.ob) (M := 4000) (loose := [("LEAVES" : PySem.Str), ("ONE_PART" : PySem.Str), ("parts_of" : PySem.Str), ("from_within" : PySem.Str), ("folded" : PySem.Str), ("within" : PySem.Str), ("not_word" : PySem.Str), ("minus_word" : PySem.Str), ("and_word" : PySem.Str), ("or_word" : PySem.Str), ("xor_word" : PySem.Str), ("plus_word" : PySem.Str), ("times_word" : PySem.Str), ("equal_word" : PySem.Str), ("below_word" : PySem.Str), ("if_word" : PySem.Str), ("left_word" : PySem.Str), ("right_word" : PySem.Str), ("slice_word" : PySem.Str), ("join_word" : PySem.Str), ("INNER_WORDS" : PySem.Str), ("part_word" : PySem.Str), ("word_of" : PySem.Str), ("_law_pen" : PySem.Str), ("_law_draw" : PySem.Str), ("_law_pick" : PySem.Str), ("_law_is_whole" : PySem.Str), ("_law_word" : PySem.Str), ("_law_bitwise" : PySem.Str), ("_law_drawn_expression" : PySem.Str), ("_law_known" : PySem.Str), ("_law_single_right" : PySem.Str)]) (d := HandSHeadRun.topDef (OpenLaw.row PySem.Challenge.rw_everycycle_k05_whole_words_of_expression).prog 36) (kwd := []) E05.ob_eq
    (by kernel_rfl) (fun s => by kernel_rfl) E05.run (by kernel_rfl) (by kernel_rfl) (by kernel_rfl) (by rfl) (by first | assumption | decide +kernel) (by decide +kernel) ⟨rfl, rfl, rfl, rfl, rfl, by decide +kernel⟩ ?hw ?hc
  case hw => w_witness2
  case hc =>
    refine Gd.walk_go (l := PySem.Challenge.rw_everycycle_k05_whole_words_of_expression) (n := 63) (k := 9) (x := "_law_script") (CX := L2.CX0) rfl (by decide) (by kernel_rfl) ⟨rfl, by decide, by decide⟩ ?F (fun _ _ _ _ z => z)
    intro w mg fa h Y G hmg0
    obtain ⟨K, KX, c⟩ := Y
    have hmg : mg ("law" : PySem.Str) = some (.ref fa) := by
      have e : (HandSHeadRun.topDef (OpenLaw.row PySem.Challenge.rw_everycycle_k05_whole_words_of_expression).prog 36).name = ("law" : PySem.Str) := by kernel_rfl
      rw [← e]
      exact hmg0
    obtain ⟨fd, hb, hF⟩ := E05.facts (P := (PySem.Challenge.rw_everycycle_k05_whole_words_of_expression).prog) (w := w) KX G hmg c
    exact ⟨K, fd, Lw5.spLaw K, KX, hb, fun H a ns hl _ hS => ⟨a, ns, rfl, hS, hl, fun _ => rfl⟩, hF⟩
