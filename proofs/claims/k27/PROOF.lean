import PyProof.Rows.All
import Wide.All
import OpenK.AllK
import Wide.FinOn
import Lean
import HandS.ForMost
import HandS.Codes
import HandS.Defaults
import HandS.Wide
import HandS.DeepEq
import HandS.Exc
import HandS.ExcInit
import HandS.ExcValue
import HandS.IsInst
import HandS.TupAny
import HandS.OwnEq
import HandS.Star
import HandS.SortInts
import HandS.Conv
import HandS.Style
import HandS.Head0
import HandS.Head1
import HandS.Head2
import HandS.HeadEnd
import HandS.HeadHook1
import HandS.HeadHook2
import HandS.HeadHook3
import HandS.HeadHook4
import HandS.ExcIs
import HandS.ExcField
import KE.KExcIs
import KE.GoesEnum
import HandS.NoneIn
import PySem.Challenge.RW_everycycle_k27_whole_trails_and_acts
import HandS.SortKw
import HandS.Set
import HandS.SetFor
import HandS.Strs
import KE.SortKeyHeap
import HandS.DictComp
import HandS.Small
import HandS.Walk
import HandS.TupAny
import HandS.Style
import HandS.Deep
import HandS.Conv
import HandS.Star
import HandS.More
import HandS.EndTab
set_option Elab.async false
set_option linter.all false
set_option maxRecDepth 100000
set_option maxHeartbeats 4000000
set_option pp.maxSteps 800
namespace Dat
open PySem PySem.Spec PyProof.Rows L2
/-! ## Data of any depth: its kind, and that it stays -/
def isIntD : PyData → Bool
  | .int _ => true
  | .bool _ => true
  | _ => false
def isBoolD : PyData → Bool
  | .bool _ => true
  | _ => false
def isRowD : PyData → Bool
  | .list _ => true
  | .tuple _ => true
  | _ => false
def clsD : PyData → String
  | .none => "NoneType"
  | .bool _ => "bool"
  | .int _ => "int"
  | .str _ => "str"
  | .list _ => "list"
  | .tuple _ => "tuple"
  | .dict _ => "dict"
section
variable {K : PySem.W.Frag} {H H' : Hp} {v : V} {d : PyData}
theorem ty_list {a : Addr} {xs : List V} (h : SqL K H a xs) : TyX K H (.ref a) (.type "list") := by
  rcases h with (h | ⟨o, h⟩) | ⟨o, its, n, h1, h2, _⟩
  · exact .base (.lst h)
  · exact .base (.frz h)
  · exact .kList h1 h2
theorem ty_tup {a : Addr} {xs : List V} (h : SqT K H a xs) : TyX K H (.ref a) (.type "tuple") := by
  rcases h with (h | ⟨o, h⟩) | ⟨o, its, n, h1, h2, _⟩
  · exact .base (.tup h)
  · exact .fTuple h
  · exact .kTuple h1 h2
theorem ty_of (h : Dp K H v d) : TyX K H v (.type (clsD d)) := by
  cases h with
  | non => exact .base .non
  | bl b => exact .base (.bl b)
  | int i => exact .base (.int i)
  | str x => exact .base (.str x)
  | lst hs _ => exact ty_list hs
  | tup hs _ => exact ty_tup hs
theorem kit_int (h : Dp K H v d) : PySem.W.kitOne K (.type (clsD d)) (.type "int") = some (isIntD d) := by
  cases h with
  | non => exact kit_ty (a := "NoneType") (b := "int") (r := false) (by decide +kernel)
  | bl _ => exact kit_ty (a := "bool") (b := "int") (r := true) (by decide +kernel)
  | int _ => exact kit_ty (a := "int") (b := "int") (r := true) (by decide +kernel)
  | str _ => exact kit_ty (a := "str") (b := "int") (r := false) (by decide +kernel)
  | lst _ _ => exact kit_ty (a := "list") (b := "int") (r := false) (by decide +kernel)
  | tup _ _ => exact kit_ty (a := "tuple") (b := "int") (r := false) (by decide +kernel)
theorem kit_bool (h : Dp K H v d) : PySem.W.kitOne K (.type (clsD d)) (.type "bool") = some (isBoolD d) := by
  cases h with
  | non => exact kit_ty (a := "NoneType") (b := "bool") (r := false) (by decide +kernel)
  | bl _ => exact kit_ty (a := "bool") (b := "bool") (r := true) (by decide +kernel)
  | int _ => exact kit_ty (a := "int") (b := "bool") (r := false) (by decide +kernel)
  | str _ => exact kit_ty (a := "str") (b := "bool") (r := false) (by decide +kernel)
  | lst _ _ => exact kit_ty (a := "list") (b := "bool") (r := false) (by decide +kernel)
  | tup _ _ => exact kit_ty (a := "tuple") (b := "bool") (r := false) (by decide +kernel)
theorem kit_row (h : Dp K H v d) : PySem.W.kitAny K (.type (clsD d)) [.type "tuple", .type "list"] = some (isRowD d) := by
  cases h with
  | non => exact kitAny_cons (b := false) (kit_ty (a := "NoneType") (b := "tuple") (r := false) (by decide +kernel)) (fun _ => kitAny_cons (b := false) (kit_ty (a := "NoneType") (b := "list") (r := false) (by decide +kernel)) (fun _ => rfl) (fun z => by cases z)) (fun z => by cases z)
  | bl _ => exact kitAny_cons (b := false) (kit_ty (a := "bool") (b := "tuple") (r := false) (by decide +kernel)) (fun _ => kitAny_cons (b := false) (kit_ty (a := "bool") (b := "list") (r := false) (by decide +kernel)) (fun _ => rfl) (fun z => by cases z)) (fun z => by cases z)
  | int _ => exact kitAny_cons (b := false) (kit_ty (a := "int") (b := "tuple") (r := false) (by decide +kernel)) (fun _ => kitAny_cons (b := false) (kit_ty (a := "int") (b := "list") (r := false) (by decide +kernel)) (fun _ => rfl) (fun z => by cases z)) (fun z => by cases z)
  | str _ => exact kitAny_cons (b := false) (kit_ty (a := "str") (b := "tuple") (r := false) (by decide +kernel)) (fun _ => kitAny_cons (b := false) (kit_ty (a := "str") (b := "list") (r := false) (by decide +kernel)) (fun _ => rfl) (fun z => by cases z)) (fun z => by cases z)
  | lst _ _ => exact kitAny_cons (b := false) (kit_ty (a := "list") (b := "tuple") (r := false) (by decide +kernel)) (fun _ => kitAny_cons (b := true) (kit_ty (a := "list") (b := "list") (r := true) (by decide +kernel)) (fun z => by cases z) (fun _ => rfl)) (fun z => by cases z)
  | tup _ _ => exact kitAny_cons (b := true) (kit_ty (a := "tuple") (b := "tuple") (r := true) (by decide +kernel)) (fun z => by cases z) (fun _ => rfl)
theorem seqT_same {a : Addr} {xs : List V} (s : Same H H') (h : SqT K H a xs) : SqT K H' a xs :=
  h.elim (fun h => .inl (h.elim (fun h => .inl (s _ _ h)) fun ⟨o, h⟩ => .inr ⟨o, s _ _ h⟩)) .inr
mutual
theorem dp_same (s : Same H H') : ∀ {d : PyData} {v : V}, Dp K H v d → Dp K H' v d
  | .none, _, h => by
    cases h
    exact .non
  | .bool b, _, h => by
    cases h
    exact .bl b
  | .int i, _, h => by
    cases h
    exact .int i
  | .str x, _, h => by
    cases h
    exact .str x
  | .list ds, _, h => by
    cases h with
    | lst hs ha => exact .lst (s.seq hs) (dps_same s ha)
  | .tuple ds, _, h => by
    cases h with
    | tup hs ha => exact .tup (seqT_same s hs) (dps_same s ha)
  | .dict _, _, h => by cases h
theorem dps_same (s : Same H H') : ∀ {ds : List PyData} {vs : List V}, DpAll K H vs ds → DpAll K H' vs ds
  | [], _, h => by
    cases h
    exact .nil
  | d :: ds, _, h => by
    cases h with
    | cons h1 h2 => exact .cons (dp_same s h1) (dps_same s h2)
end
theorem dps_len : ∀ {vs : List V} {ds : List PyData}, DpAll K H vs ds → vs.length = ds.length
  | _, [], h => by
    cases h
    rfl
  | _, _ :: _, h => by
    cases h with
    | cons _ h2 => exact congrArg Nat.succ (dps_len h2)
theorem dps_get : ∀ {vs : List V} {ds : List PyData}, DpAll K H vs ds → ∀ {i : Nat} {v : V}, vs[i]? = some v → ∃ d, ds[i]? = some d ∧ Dp K H v d
  | _, [], h, i, v, e => by
    cases h
    simp at e
  | _, d :: ds, h, i, v, e => by
    cases h with
    | cons h1 h2 =>
      cases i with
      | zero =>
        simp at e
        subst e
        exact ⟨d, rfl, h1⟩
      | succ i =>
        simp at e
        obtain ⟨d', q1, q2⟩ := dps_get h2 e
        exact ⟨d', by simpa using q1, q2⟩
end
end Dat
namespace Gd
open PySem PySem.Spec PyProof.Rows L2
/-! ## What a def does where no repr is under way: the promise of FnOk, for such callers alone -/
structure FnG (P : Program) (w : World) (K : PySem.W.Frag) (mg : Str → Option Value) (base : Heap) (CX : CXT) (k : Nat) (f : Addr) (fd : FuncData) (ps : List Str) (sp : Sp) : Prop where
  many : ∀ vs H Q E, sp vs H Q E → vs.length = ps.length
  go : ∀ (A : Around) (fs : List Env) (s : Shared) (H : Hp) (ag : Args) (us : List Value) (vs : List V) (Q : VK) (E : XK), A.guards = some [] → Room k A → Env0 P w K mg base A fs s H →
    BindsTo s fd ag (ps.zip us) → Vals vs us → sp vs H Q E → codeAny (model P w) A (.call (.ref f) ag) (CR CX fs P w H s Q E) s
section
variable {P : Program} {w : World} {K : PySem.W.Frag} {mg : Str → Option Value} {base : Heap} {CX : CXT} {k : Nat} {f : Addr} {fd : FuncData} {ps : List Str} {sp : Sp}
theorem FnG.of (F : FnOk P w K mg base CX k f fd ps sp) : FnG P w K mg base CX k f fd ps sp := ⟨F.len, fun A fs s H ag us vs Q E _ => F.run A fs s H ag us vs Q E⟩
/-- from the def's body -/
theorem FnG.mk_of {x qual : Str} {params : Arguments} {body : List Stmt} {scope : Scope} {dvs : List V} {kws : List (Str × V)} {N : List Str}
    (F : FunD K x qual params body scope dvs kws f fd) (S : FnScope N ps scope) (many : ∀ vs H Q E, sp vs H Q E → vs.length = ps.length)
    (walk : ∀ (cv : Value) (A : Around) (fs : List Env) (s : Shared) (H : Hp) (vs : List V) (Q : VK) (E : XK), A.guards = some [] → Room k (A.deeper (envOfC qual scope s.heap.objs.size f cv)) → sp vs H Q E →
      ∃ t, PSs (cxOf CX P w K mg base N qual scope f cv A fs s H E) body t ∧ t { nx := fun _ H' => Q .non H', rt := Q } (start N vs) H) :
    FnG P w K mg base CX (k + 1) f fd ps sp := by
  obtain ⟨_, _, _, _, _, _, _, cv, _, _, rfl, look, code, _, _⟩ := F.ex
  refine ⟨many, fun A fs s H ag us vs Q E hg room e bind rel prom => ?_⟩
  have kin : K.In s.heap := e.mod.kin.keeps fun b u z => (e.bs b u z).1
  have kinds : ∀ y ∈ ps.zip us, scope.names.lookup y.1 = some .local ∨ (scope.names.lookup y.1 = some .cell ∧ ((cellsFrom (s.heap.objs.size + 1) scope.names []).lookup y.1).isSome = true) := by
    rintro ⟨y, u⟩ hy
    rcases S.par y (List.of_mem_zip hy).1 with q | q
    · exact Or.inl q
    · exact Or.inr ⟨q, PySem.W.cellsFrom_some _ _ _ (Or.inl q)⟩
  refine codeAny_call_function room.depth (kin _ _ look) rfl S.co S.gen rfl (PySem.W.codeRec_of kin code) (bind _ _ _ _ ?_)
  refine wpAny_newFunctionEnv_cells S.kind kinds ?_
  rintro env rfl s1 hs1
  refine ⟨(e.mod.nolimit.keeps fun b u z => (e.bs b u z).1).keeps hs1.toInCall.keep, codeAny_func ?_⟩
  obtain ⟨t, ht, q⟩ := walk cv A fs s H vs Q E hg (room.deeper _) prom
  have I := inv_start (CX := CX) (E := E) S room.hd e (many _ _ _ _ prom) rel hs1
  refine wpAny_mono (ht.run [] s1 (start N vs) H _ I q) (fun fl s2 z => ?_) (fun _ _ z => z)
  match fl, z with
  | .ret u, ⟨v, σ', H', J, rv, q⟩ => exact ⟨v, H', J.os, J.bare, J.base, J.hok, rv, q⟩
  | .next, ⟨σ', H', J, q⟩ => exact ⟨V.non, H', J.os, J.bare, J.base, J.hok, rfl, q⟩
  | .brk, ⟨_, _, _, q⟩ => exact q.elim
  | .cont, ⟨_, _, _, q⟩ => exact q.elim
end
/-- the script's object -/
abbrev scr (vs : List Value) : Obj := { cls := .type "list", data := .seq vs.toArray }
/-- the heap in which the script alone is tracked, if the top did not write it -/
def onlyScr (K : PySem.W.Frag) (a : Addr) (vs : List Value) (ns : List Int) : Hp := fun b => if b = a ∧ (K.lookup a).isNone = true then some (.frz (scr vs) (.lst (ns.map V.int))) else none
theorem onlyScr_get {K : PySem.W.Frag} {a b : Addr} {vs : List Value} {ns : List Int} {o : HO} (h : onlyScr K a vs ns b = some o) : b = a ∧ K.lookup a = none ∧ o = .frz (scr vs) (.lst (ns.map V.int)) := by
  unfold onlyScr at h
  split at h
  · rename_i c
    exact ⟨c.1, Option.isNone_iff_eq_none.mp c.2, (Option.some.inj h).symm⟩
  · cases h
/-- the law is called with its script -/
theorem law_go {P : Program} {w : World} {K : PySem.W.Frag} {mg mb : Str → Option Value} {CX : CXT} {k : Nat} {f a : Addr} {fd : FuncData} {x : Str} {sp : Sp} {s : Shared} {vs : List Value} {ns : List Int}
    (kin : K.In s.heap) (hm : s.heap.Ns mainGlobals mg) (hb : s.heap.Ns builtinsNs mb) (hbb : ∀ y : Str, y ≠ "__name__" → mb y = bootBuiltins y) (lim : s.heap.NoLimit) (hgen : s.gens = #[])
    (ha : s.heap.get? a = some (scr vs)) (hi : IntsAre vs ns) (hl : ns.length ≤ sizeLine) (hr : Room k callerA)
    (F : ∀ base : Heap, K.In base → base.Ns mainGlobals mg → FnG P w K mg base CX k f fd [x] sp) (bind : ∀ (s : Shared) (u : Value), BindsTo s fd ⟨[u], []⟩ [(x, u)])
    (prom : ∀ H : Hp, Only H → SqL K H a (ns.map V.int) → sp [.ref a] H (fun v _ => v = .bl true) fun _ _ _ => False)
    (none_out : ∀ H e s', CX [] H s (fun _ _ _ => False) e s' → False) :
    codeAny (model P w) callerA (.call (.ref f) ⟨[.ref a], []⟩) (fun r s' => r = .ok (.ret (.bool true)) ∧ OldK s.heap s'.heap ∧ s'.os = s.os ∧ AllBare s'.gens) s := by
  have hv := vals_ints hi
  have hlen := hi.length
  let H := onlyScr K a vs ns
  have gone : ∀ {b : Addr} {o : Obj}, K.lookup b = some o → H b = none := fun {b o} q => by
    cases e : H b with
    | none => rfl
    | some u =>
      obtain ⟨rfl, n, _⟩ := onlyScr_get e
      rw [n] at q
      cases q
  have ns_free : ∀ {b : Addr} {o : Obj} {es : Array DictEntry} {ep : Nat}, s.heap.get? b = some o → o.data = .dict es ep → H b = none := fun {b o es ep} q d => by
    cases e : H b with
    | none => rfl
    | some u =>
      obtain ⟨rfl, _, _⟩ := onlyScr_get e
      rw [ha] at q
      cases q
      cases d
  have stays : ∀ {b : Addr} {m : Str → Option Value}, s.heap.Ns b m → (hidT s.heap H).Ns b m := fun ⟨o, es, ep, q, d, r⟩ => ⟨o, es, ep, hidT_get q (ns_free q d), d, r⟩
  have kinT : K.In (hidT s.heap H) := fun b o q => hidT_get (kin b o q) (gone q)
  have hok : HOk P w H s.heap := fun b u q => by
    obtain ⟨rfl, _, rfl⟩ := onlyScr_get q
    exact ⟨ha, by rw [List.length_map]; exact hl, vs, _, hv, ha⟩
  have hO : Only H := fun b => by
    cases e : H b with
    | none => exact Or.inl rfl
    | some u =>
      obtain ⟨_, _, rfl⟩ := onlyScr_get e
      exact Or.inr ⟨_, _, rfl⟩
  have hS : SqL K H a (ns.map V.int) := by
    cases e : K.lookup a with
    | none => exact .inl (.inr ⟨scr vs, if_pos ⟨rfl, by rw [e]; rfl⟩⟩)
    | some o =>
      have q := kin a o e
      rw [ha] at q
      cases q
      exact .inr ⟨_, vs.toArray, _, e, rfl, rfl, rfl, by rw [List.size_toArray, hlen]; exact hl, by simpa using hv⟩
  obtain ⟨mc, l1, l2⟩ := lim
  have e0 : Env0 P w K mg (hidT s.heap H) callerA [] s H := by
    refine ⟨rfl, ⟨kinT, stays hm, ⟨mb, stays hb, hbb⟩, ⟨mc, stays l1, l2⟩⟩, fun b o q => of_hidT q, Nat.le_of_eq (hidT_size _ _), trivial, fun b q => ?_, hok, .of_eq hgen⟩
    cases q
  refine codeAny_mono ((F _ kinT (stays hm)).go callerA [] s H ⟨[.ref a], []⟩ [.ref a] [.ref a] _ _ rfl hr e0 (bind s (.ref a)) (.cons rfl .nil) (prom H hO hS)) fun r s' h => ?_
  match r, h with
  | .error e, h => exact (none_out H e s' h).elim
  | .ok .next, h => exact h.elim
  | .ok .brk, h => exact h.elim
  | .ok .cont, h => exact h.elim
  | .ok (.ret u), ⟨v, H', os, bare, un, hok', rv, q⟩ =>
    have q' : v = .bl true := q
    subst q'
    have hu : u = Value.bool true := rv
    subst hu
    refine ⟨rfl, OldK.of_keep fun b o z => ?_, os, bare⟩
    cases e : H b with
    | none => exact un.keep b o z e (by intro y; cases y) (by simp)
    | some t =>
      obtain ⟨rfl, _, rfl⟩ := onlyScr_get e
      rw [ha] at z
      cases z
      exact (hok' b _ (un.frzs b _ _ e)).1
/-- the end of a law -/
theorem walk_go {l : PySem.W.OpenLaw} {n k : Nat} {q : Program} {loose : List Str} {XP : (Str → Option Value) → Heap → Prop} {YP : World → Heap → Prop} {d : DefRec} {CX : CXT} {x : Str}
    (hn : l.most = some n) (hn2 : n ≤ sizeLine) (hdf : d.params.defaults = []) (hr : Room k callerA)
    (F : ∀ (w : World) (mg : Str → Option Value) (f : Addr) (h : Heap), YP w h → h.Ns mainGlobals mg → mg d.name = some (.ref f) → ∃ (K : PySem.W.Frag) (fd : FuncData) (sp : Sp), K.In h ∧ (∀ (s : Shared) (u : Value), BindsTo s fd ⟨[u], []⟩ [(x, u)]) ∧
      (∀ (H : Hp) (a : Addr) (ns : List Int), ns.length ≤ n → Only H → SqL K H a (ns.map V.int) → sp [.ref a] H (fun v _ => v = .bl true) fun _ _ _ => False) ∧ ∀ base : Heap, K.In base → base.Ns mainGlobals mg → FnG l.prog w K mg base CX k f fd [x] sp)
    (none_out : ∀ (H : Hp) (s : Shared) (e : Value) (s' : Shared), CX [] H s (fun _ _ _ => False) e s' → False) : PySem.W.WalkO q loose XP YP l.row.toRowW d [] (fun f vs => PySem.call f vs) :=
  Att.attach_call hn hdf fun w _ s _ _ f _ _ _ _ a _ ns G Y _ _ _ hmg hobj hints hlen hgen =>
    let ⟨_, _, _, kin, bind, prom, ok⟩ := F w _ f _ Y G.T.g hmg
    law_go kin G.T.g G.T.b G.T.builtins G.T.nolimit hgen hobj hints (Nat.le_trans hlen hn2) hr ok bind (fun H hO hS => prom H a ns hlen hO hS) fun H e s' => none_out H s e s'
/-! ## repr of data -/
section
variable {X : Cx}
/-- repr(x), x data of any depth but dicts -/
def rRepr (K : PySem.W.Frag) : List V → Hp → VK → Prop := fun xs H Q => ∃ (a : Addr) (d : PyData), xs = [.ref a] ∧ Dp K H (.ref a) d ∧ d.showable = true ∧ d.hasDict = false ∧ d.depth ≤ 60 ∧ d.shown.length ≤ sizeLine ∧ Q (.str d.shown) H
theorem call_repr {k : Nat} (hg : X.A.guards = some []) (hr : Room k X.A) : CallR X (.builtin "repr") (rRepr X.K) := by
  intro pins s σ H xs us Q I r h
  obtain ⟨a, d, rfl, hd, h1, h2, h3, h4, q⟩ := h
  obtain ⟨u, rfl, ru⟩ := vals1 r
  obtain ⟨as, rd⟩ := Dp.reads I d _ u hd ru
  have hu : u = Value.ref a := ru
  subst hu
  have room := hr.un
  refine repr_of_reads' rd h1 (fun z => by rw [h2] at z; cases z) hg (by omega) (fun _ _ e => e) (fun h' t tk hk => ?_) h4
  exact ⟨.str d.shown, H, I.kept hk, ⟨t, rfl⟩, q⟩
end
end Gd
namespace Gv
open PySem PySem.Spec PyProof.Rows L2
/-- repr(x), x any data but dicts -/
def rReprV (K : PySem.W.Frag) : List V → Hp → VK → Prop := fun xs H Q => ∃ (v : V) (d : PyData), xs = [v] ∧ Dp K H v d ∧ d.showable = true ∧ d.hasDict = false ∧ d.depth ≤ 60 ∧ d.shown.length ≤ sizeLine ∧ Q (.str d.shown) H
theorem call_reprV {X : Cx} {k : Nat} (hg : X.A.guards = some []) (hr : Room k X.A) : CallR X (.builtin "repr") (rReprV X.K) := by
  intro pins s σ H xs us Q I r h
  obtain ⟨v, d, rfl, hd, h1, h2, h3, h4, q⟩ := h
  cases hd with
  | lst a b => exact Gd.call_repr hg hr pins s σ H _ us Q I r ⟨_, _, rfl, .lst a b, h1, h2, h3, h4, q⟩
  | tup a b => exact Gd.call_repr hg hr pins s σ H _ us Q I r ⟨_, _, rfl, .tup a b, h1, h2, h3, h4, q⟩
  | non =>
    obtain ⟨u, rfl, ru⟩ := vals1 r
    have hu : u = Value.none := ru
    subst hu
    exact PySem.P.repr_of_none ⟨.str "None", H, I.tok _, ⟨_, rfl⟩, q⟩
  | bl b =>
    obtain ⟨u, rfl, ru⟩ := vals1 r
    have hu : u = Value.bool b := ru
    subst hu
    exact PySem.P.repr_of_bool ⟨.str _, H, I.tok _, ⟨_, rfl⟩, q⟩
  | int i =>
    obtain ⟨u, rfl, t, rfl⟩ := vals1 r
    exact PySem.P.repr_of_int (of_decide_eq_true h1) ⟨.str _, H, I.tok _, ⟨_, rfl⟩, q⟩
  | str x =>
    obtain ⟨u, rfl, t, rfl⟩ := vals1 r
    exact PySem.P.repr_of_str ⟨.str _, H, I.tok _, ⟨_, rfl⟩, q⟩ h4
end Gv
namespace Us
open PySem PySem.Spec PyProof.Rows L2
def rListOf (K : PySem.W.Frag) : List V → Hp → VK → Prop := fun xs H Q => ∃ p ys, xs = [V.ref p] ∧ (SqL K H p ys ∨ SqT K H p ys) ∧ ∀ l, H l = none → Q (.ref l) (upd H l (.lst ys))
/-- the block of a comprehension within a comprehension -/
theorem blkOk_in {N : List Str} {sc scopeO scope2 : Scope} {own : List (Str × Nat)} {cl : List (Str × Addr)} {C : Addr} {env : Env} (h : blkC N (relS scopeO sc) scope2 own = true) (e : env.scope = sc) : BlkOk N (compEnvC scopeO cl C env).scope scope2 own := by
  subst e
  exact blkOk_by h
section
variable {X : Cx} {K : PySem.W.Frag} {pos : Pos}
theorem pi_listK {tg l : Expr} {tl : TE} (hK : X.K = K) (hl : PE X l tl) : PI X tg l (iList K tl) := hK ▸ pi_list hl
theorem pi_tupK {tg l : Expr} {tl : TE} (hK : X.K = K) (hl : PE X l tl) : PI X tg l (iTup K tl) := hK ▸ pi_tup hl
theorem pg_tupK {es : List Expr} {k : Nat} {t : TGs} {n : Nat} (hK : X.K = K) (hc : X.calm = true) (h : PGs X es t)
    (hn : (assignEach es X.env).length = n := by rfl) (hst : (assignEach es X.env).findIdx? (·.1) = none := by rfl) : PG X (.Tuple es k pos) (gTup K n t) := hK ▸ pg_tup hc h hn hst
theorem pg_unlK {es : List Expr} {k : Nat} {t : TGs} {n : Nat} (hK : X.K = K) (hc : X.calm = true) (h : PGs X es t)
    (hn : (assignEach es X.env).length = n := by rfl) (hst : (assignEach es X.env).findIdx? (·.1) = none := by rfl) : PG X (.Tuple es k pos) (gUnl K n t) := hK ▸ pg_unl hc h hn hst
theorem pe_fldK {e : Expr} {f : Str} {ta : TE} (hK : X.K = K) (he : PE X e ta) (hb : attributeBase e f X.env (eval e X.env) = eval e X.env) : PE X (.Attribute e f pos) (tFld K ta f) := hK ▸ pe_fld he hb
end
end Us
namespace Pen
open PySem
def top (i : Nat) : Stmt := PySem.Challenge.pw_everycycle_k27_whole_trails_and_acts.main.body.getD i (.Pass ⟨0, 0, 0, 0⟩)
abbrev sBetween : Stmt := top 1
abbrev sClauseWith : Stmt := top 3
abbrev sResolveIn : Stmt := top 4
abbrev sIsLiteral : Stmt := top 6
abbrev sIsTrail : Stmt := top 7
abbrev sIsEntry : Stmt := top 8
abbrev sIsReason : Stmt := top 9
abbrev sTrueLiterals : Stmt := top 10
abbrev sUnits : Stmt := top 11
abbrev sWhatIsAsked : Stmt := top 12
abbrev sLearnt : Stmt := top 13
abbrev sHeldIn : Stmt := top 14
abbrev sGoneBack : Stmt := top 15
abbrev sPen : Stmt := top 17
abbrev sDraw : Stmt := top 18
abbrev sPick : Stmt := top 19
abbrev sWhole : Stmt := top 20
abbrev sLDrawnClause : Stmt := top 21
abbrev sLDrawnRow : Stmt := top 22
abbrev sLSorted : Stmt := top 23
abbrev sLResolved : Stmt := top 24
abbrev sLLineOf : Stmt := top 25
abbrev sLIsIndex : Stmt := top 26
abbrev sLits : Stmt := top 27
abbrev sLIsTrail : Stmt := top 28
abbrev sLIsUnit : Stmt := top 29
abbrev sLAllFalse : Stmt := top 30
abbrev sLUnitsRight : Stmt := top 31
abbrev sLLearntRight : Stmt := top 32
abbrev sLBentTrail : Stmt := top 33
abbrev sLaw : Stmt := top 34
end Pen
namespace Pen
open PySem PySem.Spec PyProof.Rows L2
/-! ## The pen: the source of all draws. Its three defs, once for each law -/
abbrev FnP (K : PySem.W.Frag) (x : Str) (st : Stmt) (f : Addr) (fd : FuncData) : Prop := FunD K x x (defArgs st) (defBody st) (defScope st) [] [] f fd
/-- the pen's pairs: cells, at, digits, count, fold -/
def cols (c : Addr) (a d n f : Int) : List (Key × V) := [(.inr "cells", .ref c), (.inr "at", .int a), (.inr "digits", .int d), (.inr "count", .int n), (.inr "fold", .int f)]
section
variable {c : Addr} {a d n f z : Int}
theorem get_cells : valV (cols c a d n f) (.inr "cells" : Key) = some (.ref c) := by rfl
theorem get_at : valV (cols c a d n f) (.inr "at" : Key) = some (.int a) := by rfl
theorem get_digits : valV (cols c a d n f) (.inr "digits" : Key) = some (.int d) := by rfl
theorem get_count : valV (cols c a d n f) (.inr "count" : Key) = some (.int n) := by rfl
theorem get_fold : valV (cols c a d n f) (.inr "fold" : Key) = some (.int f) := by rfl
theorem put_at : putK (cols c a d n f) (.inr "at" : Key) (.int z) = cols c z d n f := by rfl
theorem put_digits : putK (cols c a d n f) (.inr "digits" : Key) (.int z) = cols c a z n f := by rfl
theorem put_count : putK (cols c a d n f) (.inr "count" : Key) (.int z) = cols c a d z f := by rfl
theorem put_fold : putK (cols c a d n f) (.inr "fold" : Key) (.int z) = cols c a d n z := by rfl
variable {H : Hp} {p : Addr}
theorem dg_cells (h : H p = some (.dK (cols c a d n f))) : DGet H p (.str "cells") (some (.ref c)) := DGet.k (k := .inr "cells") h
theorem dg_at (h : H p = some (.dK (cols c a d n f))) : DGet H p (.str "at") (some (.int a)) := DGet.k (k := .inr "at") h
theorem dg_digits (h : H p = some (.dK (cols c a d n f))) : DGet H p (.str "digits") (some (.int d)) := DGet.k (k := .inr "digits") h
theorem dg_count (h : H p = some (.dK (cols c a d n f))) : DGet H p (.str "count") (some (.int n)) := DGet.k (k := .inr "count") h
theorem dg_fold (h : H p = some (.dK (cols c a d n f))) : DGet H p (.str "fold") (some (.int f)) := DGet.k (k := .inr "fold") h
theorem five : 5 < sizeLine := by decide
theorem dp_at (h : H p = some (.dK (cols c a d n f))) : DPut H p (.str "at") (.int z) (upd H p (.dK (cols c z d n f))) := DPut.k (k := .inr "at") h five
theorem dp_digits (h : H p = some (.dK (cols c a d n f))) : DPut H p (.str "digits") (.int z) (upd H p (.dK (cols c a z n f))) := DPut.k (k := .inr "digits") h five
theorem dp_count (h : H p = some (.dK (cols c a d n f))) : DPut H p (.str "count") (.int z) (upd H p (.dK (cols c a d z f))) := DPut.k (k := .inr "count") h five
theorem dp_fold (h : H p = some (.dK (cols c a d n f))) : DPut H p (.str "fold") (.int z) (upd H p (.dK (cols c a d n z))) := DPut.k (k := .inr "fold") h five
end
/-- a pen stands at p, its cells at c; so many draws were made at most -/
def PenC (H : Hp) (p c : Addr) (m : Nat) : Prop :=
  ∃ (ns : List Int) (a d n f : Int), H p = some (.dK (cols c a d n f)) ∧ H c = some (.lst (ns.map V.int)) ∧ ns.length ≤ 1000 ∧ 0 ≤ a ∧ 0 ≤ n ∧ n ≤ m ∧ 0 ≤ f ∧ f < 2147483648
/-- all but the object at p stands as it stood -/
def But (p : Addr) (H H' : Hp) : Prop := ∀ b o, H b = some o → b ≠ p → H' b = some o
theorem But.upd {p : Addr} {H : Hp} {o : HO} : But p H (upd H p o) := fun b o e h => by
  rw [upd_ne h]
  exact e
theorem But.trans {p : Addr} {H H1 H2 : Hp} (a : But p H H1) (b : But p H1 H2) : But p H H2 := fun c o e h => b c o (a c o e h) h
theorem But.refl {p : Addr} {H : Hp} : But p H H := fun _ _ e _ => e
theorem But.of_same {p : Addr} {H H' : Hp} (s : Same H H') : But p H H' := fun c o e _ => s c o e
theorem PenC.same {H H' : Hp} {p c : Addr} {m : Nat} (h : PenC H p c m) (s : Same H H') : PenC H' p c m := by
  obtain ⟨ns, a, d, n, f, h1, h2, r⟩ := h
  exact ⟨ns, a, d, n, f, s _ _ h1, s _ _ h2, r⟩
theorem PenC.more {H : Hp} {p c : Addr} {m m' : Nat} (h : PenC H p c m) (s : m ≤ m') : PenC H p c m' := by
  obtain ⟨ns, a, d, n, f, h1, h2, h3, ha, h4, h5, r⟩ := h
  exact ⟨ns, a, d, n, f, h1, h2, h3, ha, h4, by omega, r⟩
theorem PenC.upd {H : Hp} {p c q : Addr} {m : Nat} {o : HO} (h : PenC H p c m) (n1 : q ≠ p) (n2 : q ≠ c) : PenC (upd H q o) p c m := by
  obtain ⟨ns, a, d, n, f, h1, h2, r⟩ := h
  exact ⟨ns, a, d, n, f, by rw [upd_ne n1.symm]; exact h1, by rw [upd_ne n2.symm]; exact h2, r⟩
theorem PenC.free {H : Hp} {p c q : Addr} {m : Nat} (h : PenC H p c m) (e : H q = none) : q ≠ p ∧ q ≠ c := by
  obtain ⟨ns, a, d, n, f, h1, h2, r⟩ := h
  refine ⟨fun z => ?_, fun z => ?_⟩
  · rw [z, h1] at e
    cases e
  · rw [z, h2] at e
    cases e
/-- the script, as each def is handed it -/
def spPen (K : PySem.W.Frag) : Sp := fun vs H Q _ => ∃ (a : Addr) (ns : List Int), vs = [.ref a] ∧ SqL K H a (ns.map V.int) ∧ ns.length ≤ 63 ∧
  ∀ (p c : Addr) (H' : Hp), H p = none → Same H H' → PenC H' p c 0 → Q (.ref p) H'
def spDraw : Sp := fun vs H Q _ => ∃ (p c : Addr) (m : Nat) (many : Int), vs = [.ref p, .int many] ∧ PenC H p c m ∧ m ≤ 1000000000000 ∧ 0 < many ∧ many < 1073741824 ∧
  ∀ (r : Int) (H' : Hp), 0 ≤ r → r < many → PenC H' p c (m + 1) → But p H H' → Q (.int r) H'
def spPick (K : PySem.W.Frag) : Sp := fun vs H Q _ => ∃ (p c l : Addr) (m : Nat) (xs : List V), vs = [.ref p, .ref l] ∧ PenC H p c m ∧ m ≤ 1000000000000 ∧ l ≠ p ∧ SqL K H l xs ∧ 0 < xs.length ∧ xs.length ≤ 1000 ∧
  ∀ (v : V) (i : Nat) (H' : Hp), xs[i]? = some v → PenC H' p c (m + 1) → But p H H' → Q v H'
abbrev pN : List Str := ["_law_script", "_law_fold", "_law_cell"]
abbrev dN : List Str := ["_law_pen_here", "_law_many", "_law_cell", "_law_digit", "_law_blend"]
abbrev kN : List Str := ["_law_pen_here", "_law_some"]
theorem int_item {ns : List Int} {i : Nat} {y : V} (h : (ns.map V.int)[i]? = some y) : ∃ z, y = V.int z := by
  rw [List.getElem?_map] at h
  cases e : ns[i]? with
  | none =>
    rw [e] at h
    cases h
  | some u =>
    rw [e] at h
    exact ⟨u, (Option.some.inj h).symm⟩
structure Txt (mg : Str → Option Value) : Prop where
  len : mg "len" = none
  int : mg "int" = none
  list : mg "list" = none
section
variable {P : Program} {w : World} {K : PySem.W.Frag} {mg : Str → Option Value} {base : Heap} {f : Addr} {fd : FuncData}
theorem scPen : FnScope pN ["_law_script"] (defScope sPen) := ⟨rfl, rfl, rfl, by decide +kernel, rfl, by decide +kernel, by decide +kernel⟩
theorem scDraw : FnScope dN ["_law_pen_here", "_law_many"] (defScope sDraw) := ⟨rfl, rfl, rfl, by decide +kernel, rfl, by decide +kernel, by decide +kernel⟩
theorem scPick : FnScope kN ["_law_pen_here", "_law_some"] (defScope sPick) := ⟨rfl, rfl, rfl, by decide +kernel, rfl, by decide +kernel, by decide +kernel⟩
theorem ok_pen {CX : CXT} (F : FnP K "_law_pen" sPen f fd) (T : Txt mg) : FnOk P w K mg base CX 1 f fd ["_law_script"] (spPen K) := by
  refine F.ok scPen (fun vs H Q E h => ?_) (fun cdv A outer s H vs Q E hr h => ?_)
  · obtain ⟨a, ns, rfl, _⟩ := h
    rfl
  · obtain ⟨a, ns, rfl, hS, hl, k⟩ := h
    refine ⟨_, PSs.nox (pss_cons (ps_set (i := 1) scPen.nd rfl (Or.inl rfl) pe_int)
      (pss_cons (ps_for PassesOwn.never rfl (pi_list (pv 0)) (pg_name (i := 2) scPen.nd rfl (Or.inl rfl))
        (pss_one (ps_set (i := 1) scPen.nd rfl (Or.inl rfl) (pe_op op_mod (pe_callTy call_int1 (by rfl) T.int (by decide +kernel) (pa_cons (pe_op op_add (pe_op op_mul (pv 1) pe_int) (pv 2)) pa_nil)) pe_int))))
      (pss_one (ps_ret (pe_disp (pps_cons pe_str (pe_callTy call_list_of (by rfl) T.list (by decide +kernel) (pa_cons (pv 0) pa_nil)) (pps_cons pe_str pe_int (pps_cons pe_str pe_int (pps_cons pe_str pe_int (pps_cons pe_str (pv 1) pps_nil))))) (by rfl) (by rfl) (fun z => by cases z) (by decide)))))), ?_⟩
    refine ⟨_, rfl, a, rfl, ⟨_, hS⟩, for_list (K := K) (a := a) (xs := ns.map V.int) (fun i σ H2 => ∃ (z : Int) (v : Option V), σ = [some (.ref a), some (.int z), v] ∧ H2 = H ∧ 0 ≤ z ∧ z < 1000000007)
      ⟨0, none, rfl, rfl, by decide, by decide⟩ (fun i σ H2 _ ⟨_, _, _, e, _⟩ => by rw [e]; exact hS) ?_ ?_⟩
    · rintro i y σ H2 hi ⟨z, v, rfl, rfl, h0, h1⟩
      obtain ⟨u, rfl⟩ := int_item hi
      refine ⟨_, rfl, _, _, rfl, rfl, .inr ⟨by decide, by decide⟩, _, rfl, _, _, rfl, rfl, .inl ⟨_, rfl, _, _, rfl, rfl, (by show (0 : Int) < 1000000007; decide), ?_⟩⟩
      exact ⟨_, _, rfl, rfl, Int.emod_nonneg _ (by decide), Int.emod_lt_of_pos _ (by decide)⟩
    · rintro σ H2 ⟨z, v, rfl, rfl, h0, h1⟩
      intro p hp
      have sp : Same H2 (upd H2 p (.dK [])) := fun b o e => by
        rw [upd_ne (ne_of_none e hp)]
        exact e
      refine ⟨_, rfl, a, _, rfl, .inl (sp.seq hS), fun l hl0 => ?_⟩
      have npl : p ≠ l := fun q => by
        rw [← q, upd_same] at hl0
        cases hl0
      have hl1 : H2 l = none := by
        rw [upd_ne npl.symm] at hl0
        exact hl0
      refine ⟨_, rfl, by rw [upd_ne npl, upd_same], cols l 0 0 0 z, rfl, (by show 5 ≤ 15; decide), ?_⟩
      refine k p l _ hp (fun b o e => ?_) ⟨ns, 0, 0, 0, z, upd_same, ?_, by omega, by decide, by decide, by decide, h0, by omega⟩
      · rw [upd_ne (ne_of_none e hp), upd_ne (ne_of_none e hl1), upd_ne (ne_of_none e hp)]
        exact e
      · rw [upd_ne npl.symm, upd_same]
theorem ok_draw {CX : CXT} (F : FnP K "_law_draw" sDraw f fd) (T : Txt mg) : FnOk P w K mg base CX 1 f fd ["_law_pen_here", "_law_many"] spDraw := by
  refine F.ok scDraw (fun vs H Q E h => ?_) (fun cdv A outer s H vs Q E hr h => ?_)
  · obtain ⟨p, c, m, many, rfl, _⟩ := h
    rfl
  · obtain ⟨p, c, m, many, rfl, ⟨ns, a, d, n, fo, hp, hc, hz, a0, n0, nm, f0, f1⟩, hm, m0, m1, k⟩ := h
    have hu := hu_of hr
    have ncp : c ≠ p := ne_of hc hp (by intro z; cases z)
    refine ⟨_, PSs.nox (pss_cons (ps_dput hu (pv 0) pe_str (pe_op op_add (pe_dget hu (pv 0) pe_str (fun _ _ => rfl)) pe_int) rfl)
      (C8.pss_cut (ps_if (PW.pt (pw_and (pt_cmpR op_eq (pe_dget hu (pv 0) pe_str (fun _ _ => rfl)) pe_int (nomark _))
          (pw_and1 (pt_cmpR op_lt (pe_dget hu (pv 0) pe_str (fun _ _ => rfl)) (pe_callB call_len_seq (by rfl) T.len PySem.boot_len (pa_cons (pe_dget hu (pv 0) pe_str (fun _ _ => rfl)) pa_nil)) (nomark _)))))
        (pss_cons (ps_set (i := 2) scDraw.nd rfl (Or.inl rfl) (pe_ix ix_list (pe_dget hu (pv 0) pe_str (fun _ _ => rfl)) (pe_dget hu (pv 0) pe_str (fun _ _ => rfl)) (fun _ _ => rfl)))
        (pss_cons (ps_dput hu (pv 0) pe_str (pe_op op_add (pe_dget hu (pv 0) pe_str (fun _ _ => rfl)) pe_int) rfl)
        (pss_one (ps_if (pt_cmpR op_ge (pv 2) (pe_op op_pow pe_int pe_int) (nomark _))
          (pss_one (ps_dput hu (pv 0) pe_str (pe_op op_sub (pv 2) (pe_op op_pow pe_int pe_int)) rfl))
          (pss_one (ps_dput hu (pv 0) pe_str (pe_op op_mod (pe_callTy call_int1 (by rfl) T.int (by decide +kernel) (pa_cons (pe_op op_add (pe_op op_mul (pe_dget hu (pv 0) pe_str (fun _ _ => rfl)) pe_int) (pv 2)) pa_nil)) pe_int) rfl))))))
        pss_nil)
      (pss_cons (ps_if (pt_cmpR op_gt (pe_dget hu (pv 0) pe_str (fun _ _ => rfl)) pe_int (nomark _))
        (pss_cons (ps_set (i := 3) scDraw.nd rfl (Or.inl rfl) (pe_op op_mod (pe_callTy call_int1 (by rfl) T.int (by decide +kernel) (pa_cons (pe_dget hu (pv 0) pe_str (fun _ _ => rfl)) pa_nil)) (pv 1)))
        (pss_cons (ps_dput hu (pv 0) pe_str (pe_op op_fdiv (pe_dget hu (pv 0) pe_str (fun _ _ => rfl)) (pv 1)) rfl)
        (pss_one (ps_ret (pv 3)))))
        pss_nil)
      (pss_cons (ps_set (i := 4) scDraw.nd rfl (Or.inl rfl) (pe_op op_add (pe_op op_add (pe_dget hu (pv 0) pe_str (fun _ _ => rfl)) (pe_op op_mul (pe_dget hu (pv 0) pe_str (fun _ _ => rfl)) pe_int)) pe_int))
      (pss_one (ps_ret (pe_op op_mod (pe_op op_fdiv (pe_callTy call_int1 (by rfl) T.int (by decide +kernel) (pa_cons (pe_op op_mod (pe_op op_pow (pv 4) pe_int) pe_int) pa_nil)) pe_int) (pv 1)))))))), ?_⟩
    -- count
    refine ⟨_, rfl, _, _, rfl, dg_count hp, _, _, rfl, rfl, _, rfl, p, _, rfl, dp_count hp, ?_⟩
    have hp1 : ∀ {o : HO}, upd H p o p = some o := upd_same
    have hc1 : ∀ {o : HO}, upd H p o c = some (.lst (ns.map V.int)) := by
      intro o
      rw [upd_ne ncp]
      exact hc
    refine ⟨fun σ H2 => ∃ (a' d' fo' : Int) (cell : Option V), σ = [some (.ref p), some (.int many), cell, none, none] ∧ H2 = upd H p (.dK (cols c a' d' (n + 1) fo')) ∧ 0 ≤ a' ∧ 0 ≤ fo' ∧ fo' < 2147483648, ?_, ?_⟩
    · refine ⟨_, rfl, _, _, rfl, dg_digits hp1, rfl, _, rfl, ?_⟩
      refine ite2 (fun _ => ?_) (fun _ => ?_)
      · refine ⟨_, rfl, _, _, rfl, dg_at hp1, _, rfl, _, _, rfl, dg_cells hp1, _, _, rfl, .inl (SqL.of hc1), _, _, rfl, rfl, _, rfl, ?_⟩
        refine ite2 (fun hlt => ?_) (fun _ => ?_)
        · have hlt := of_decide_eq_true hlt
          have hj : a.toNat < (ns.map V.int).length := by omega
          obtain ⟨u, hu2⟩ := int_item (List.getElem?_eq_getElem hj)
          have hit : (ns.map V.int)[a.toNat]? = some (V.int u) := by
            rw [List.getElem?_eq_getElem hj, hu2]
          refine ⟨_, rfl, _, _, rfl, dg_cells hp1, _, rfl, _, _, rfl, dg_at hp1, _, _, _, _, rfl, rfl, SqL.of hc1, at_of (j := a.toNat) (by omega) hit, ?_⟩
          refine ⟨_, rfl, _, _, rfl, dg_at hp1, _, _, rfl, rfl, _, rfl, p, _, rfl, dp_at hp1, ?_⟩
          rw [upd_upd]
          refine ⟨_, rfl, _, _, rfl, rfl, ⟨by decide, by decide, by decide⟩, _, _, rfl, rfl, _, rfl, ?_⟩
          refine ite2 (fun _ => ?_) (fun _ => ?_)
          · refine ⟨_, rfl, _, _, rfl, rfl, ⟨by decide, by decide, by decide⟩, _, _, rfl, rfl, _, rfl, p, _, rfl, dp_digits hp1, ?_⟩
            rw [upd_upd]
            exact ⟨_, _, _, _, rfl, rfl, by omega, f0, f1⟩
          · refine ⟨_, rfl, _, _, rfl, dg_fold hp1, _, _, rfl, rfl, .inr ⟨by decide, by decide⟩, _, rfl, _, _, rfl, rfl, .inl ⟨_, rfl, _, _, rfl, rfl, (by show (0 : Int) < 2147483587; decide), ?_⟩⟩
            refine ⟨_, rfl, p, _, rfl, dp_fold hp1, ?_⟩
            rw [upd_upd]
            exact ⟨_, _, _, _, rfl, rfl, by omega, Int.emod_nonneg _ (by decide), Int.lt_trans (Int.emod_lt_of_pos _ (by decide)) (by decide)⟩
        · exact ⟨_, _, _, _, rfl, rfl, a0, f0, f1⟩
      · exact ⟨_, _, _, _, rfl, rfl, a0, f0, f1⟩
    · rintro σ H2 ⟨a', d', fo', cell, rfl, rfl, h0, g0, g1⟩
      refine ⟨_, rfl, _, _, rfl, dg_digits hp1, _, _, rfl, rfl, _, rfl, ?_⟩
      refine ite2 (fun _ => ?_) (fun _ => ?_)
      · refine ⟨_, rfl, _, _, rfl, dg_digits hp1, .inl ⟨_, rfl, _, rfl, _, _, rfl, rfl, m0, ?_⟩⟩
        refine ⟨_, rfl, _, _, rfl, dg_digits hp1, _, rfl, _, _, rfl, rfl, ⟨m0, m1⟩, _, rfl, p, _, rfl, dp_digits hp1, ?_⟩
        rw [upd_upd]
        refine ⟨_, rfl, k _ _ (Int.emod_nonneg _ (by omega)) (Int.emod_lt_of_pos _ m0) ⟨ns, _, _, _, _, hp1, hc1, hz, h0, by omega, by omega, g0, g1⟩ But.upd⟩
      · refine ⟨_, rfl, _, _, rfl, dg_fold hp1, _, rfl, _, _, rfl, dg_count hp1, _, _, rfl, rfl, .inr ⟨by decide, by decide⟩, _, _, rfl, rfl, _, _, rfl, rfl, ?_⟩
        refine ⟨_, rfl, _, _, rfl, rfl, ⟨by decide, by decide, ?_⟩, _, _, rfl, rfl, (by show (0 : Int) < 2305843009213693951; decide), .inl ⟨_, rfl, _, _, rfl, rfl, ⟨by decide, by decide⟩, _, rfl, _, _, rfl, rfl, m0, ?_⟩⟩
        · omega
        · exact k _ _ (Int.emod_nonneg _ (by omega)) (Int.emod_lt_of_pos _ m0) ⟨ns, _, _, _, _, hp1, hc1, hz, h0, by omega, by omega, g0, g1⟩ But.upd
theorem ok_pick {CX : CXT} {fD : Addr} {fdD : FuncData} (F : FnP K "_law_pick" sPick f fd) (T : Txt mg) (FD : FnP K "_law_draw" sDraw fD fdD) (gD : mg "_law_draw" = some (.ref fD)) (hCX : ∀ X, Passes CX X E0 := by exact fun X => pass0) : FnOk P w K mg base CX 2 f fd ["_law_pen_here", "_law_some"] (spPick K) := by
  have GD : FnOk P w K mg base CX0 1 fD fdD ["_law_pen_here", "_law_many"] spDraw := ok_draw FD T
  have bD : Binds K fdD ["_law_pen_here", "_law_many"] [] := FD.bindsN fun _ _ _ _ _ _ us hl => match us, hl with | [_, _], _ => rfl
  refine F.ok scPick (fun vs H Q E h => ?_) (fun cdv A outer s H vs Q E hr h => ?_)
  · obtain ⟨p, c, l, m, xs, rfl, _⟩ := h
    rfl
  · obtain ⟨p, c, l, m, xs, rfl, hP, hm, hlp, hS, h0, h1, k⟩ := h
    refine ⟨_, PSs.nox (pss_one (ps_ret (pe_ix ix_list (pv 1) (pe_call GD hr rfl gD FD.kp bD .nil pass0 (pa_cons (pv 0) (pa_cons (pe_callB call_len_seq (by rfl) T.len PySem.boot_len (pa_cons (pv 1) pa_nil)) pa_nil))) (fun _ _ => rfl)))), ?_⟩
    refine ⟨_, rfl, _, rfl, _, rfl, _, _, rfl, .inl hS, p, c, m, _, rfl, hP, hm, by omega, by omega, fun r H' r0 r1 hP' hB => ?_⟩
    have hj : r.toNat < xs.length := by omega
    have hS' : SqL K H' l xs := by
      rcases hS with (h | ⟨o, h⟩) | h
      · exact .inl (.inl (hB _ _ h hlp))
      · exact .inl (.inr ⟨o, hB _ _ h hlp⟩)
      · exact .inr h
    exact ⟨_, _, _, _, rfl, rfl, hS', at_of (j := r.toNat) (by omega) (List.getElem?_eq_getElem hj), k _ _ _ (List.getElem?_eq_getElem hj) hP' hB⟩
end
end Pen
namespace Ki
open PySem PySem.Spec PyProof.Rows L2 Pen Dat
/-! ## Of which kind a value is -/
structure Tx (mg : Str → Option Value) : Prop where
  isi : mg "isinstance" = none
  int : mg "int" = none
  bool : mg "bool" = none
  tuple : mg "tuple" = none
  list : mg "list" = none
  len : mg "len" = none
  all : mg "all" = none
def betD (d : PyData) (lo hi : Int) : Bool :=
  match d with
  | .int i => decide (lo ≤ i) && decide (i ≤ hi)
  | _ => false
def fromD (d : PyData) (lo : Int) : Bool :=
  match d with
  | .int i => decide (i ≥ lo)
  | _ => false
def rowsD (d : PyData) : List PyData :=
  match d with
  | .list ds => ds
  | .tuple ds => ds
  | _ => []
def rowB (d : PyData) (many lo hi : Int) : Bool := isRowD d && (decide (((rowsD d).length : Int) = many) && (rowsD d).all fun e => betD e lo hi)
def spBetween (K : PySem.W.Frag) : Sp := fun vs H Q _ => ∃ (v : V) (lo hi : Int) (d : PyData), vs = [v, .int lo, .int hi] ∧ Dp K H v d ∧ Q (.bl (betD d lo hi)) H
def spFrom (K : PySem.W.Frag) : Sp := fun vs H Q _ => ∃ (v : V) (lo : Int) (d : PyData), vs = [v, .int lo] ∧ Dp K H v d ∧ Q (.bl (fromD d lo)) H
def spRow (K : PySem.W.Frag) : Sp := fun vs H Q _ => ∃ (v : V) (d : PyData), vs = [v] ∧ Dp K H v d ∧ ∀ H', Same H H' → Q (.bl (isRowD d)) H'
def spRowB (K : PySem.W.Frag) : Sp := fun vs H Q _ => ∃ (v : V) (many lo hi : Int) (d : PyData), vs = [v, .int many, .int lo, .int hi] ∧ Dp K H v d ∧ (rowsD d).length ≤ 1000 ∧ ∀ H', Same H H' → Q (.bl (rowB d many lo hi)) H'
section
variable {P : Program} {w : World} {K : PySem.W.Frag} {mg : Str → Option Value} {base : Heap} {f : Addr} {fd : FuncData}
theorem same_new {H : Hp} {p : Addr} {u : HO} (np : H p = none) : Same H (upd H p u) := fun b o e => by
  rw [upd_ne (ne_of_none e np)]
  exact e
theorem scBetween : FnScope ["value", "least", "most"] ["value", "least", "most"] (defScope sBetween) := ⟨rfl, rfl, rfl, by decide +kernel, rfl, by decide +kernel, by decide +kernel⟩
abbrev rbN : List Str := ["value", "many", "least", "most", "part"]
theorem ok_between (F : FnP K "is_between" sBetween f fd) (T : Tx mg) : FnOk P w K mg base CX0 1 f fd ["value", "least", "most"] (spBetween K) := by
  refine F.ok scBetween (fun vs H Q E h => ?_) (fun cdv A outer s H vs Q E hr h => ?_)
  · obtain ⟨v, lo, hi, d, rfl, _⟩ := h
    rfl
  · obtain ⟨v, lo, hi, d, rfl, hd, q⟩ := h
    refine ⟨_, PSs.nox (pss_one (ps_ret (pe_and (pe_callB call_isi (by rfl) T.isi (by decide +kernel) (pa_cons (pv 0) (pa_cons (pe_bltn (v := .ty "int") (by rfl) T.int (by decide +kernel) rfl) pa_nil)))
      (pe_and (pe_not (pe_callB call_isi (by rfl) T.isi (by decide +kernel) (pa_cons (pv 0) (pa_cons (pe_bltn (v := .ty "bool") (by rfl) T.bool (by decide +kernel) rfl) pa_nil))))
      (pe_one (pe_chain op_le op_le (pv 1) (pv 0) (pv 2))))))), ?_⟩
    refine ⟨_, rfl, _, _, _, _, _, rfl, .ty _, ty_of hd, kit_int hd, _, rfl, ?_⟩
    have kb := kit_bool hd
    have tb := ty_of hd
    cases hd with
    | non => exact iteF q
    | str x => exact iteF q
    | lst _ _ => exact iteF q
    | tup _ _ => exact iteF q
    | bl b => exact iteT ⟨_, rfl, _, _, _, _, _, rfl, .ty _, tb, kb, _, rfl, _, rfl, iteF q⟩
    | int i =>
      refine iteT ⟨_, rfl, _, _, _, _, _, rfl, .ty _, tb, kb, _, rfl, _, rfl, iteT ?_⟩
      refine ⟨_, rfl, _, rfl, _, _, rfl, rfl, _, rfl, ite2 (fun h1 => ?_) (fun h1 => ?_)⟩
      · refine ⟨_, rfl, _, _, rfl, rfl, ?_⟩
        have e : (decide (lo ≤ i) && decide (i ≤ hi)) = decide (i ≤ hi) := by
          rw [h1]
          rfl
        show Q (V.bl (decide (i ≤ hi))) H
        rw [← e]
        exact q
      · have e : (decide (lo ≤ i) && decide (i ≤ hi)) = false := by
          rw [Bool.eq_false_iff.mpr h1]
          rfl
        show Q (V.bl false) H
        rw [← e]
        exact q
theorem take_more {α : Type} {xs : List α} {i : Nat} {x : α} (h : xs[i]? = some x) : xs.take (i + 1) = xs.take i ++ [x] := by
  rw [List.take_succ, h]
  rfl
theorem yes_of {σ : L2.St} {H : Hp} {A B : Hp → Prop} (h : A H) : tYes σ H fun b H3 => if b = true then A H3 else B H3 := by
  show if true = true then A H else B H
  exact iteT h
end
end Ki
namespace Fi
open PySem PySem.Spec PyProof.Rows L2 Pen Dat
/-! ## What never changes: tuples, locked things, instances -/
def firm : HO → Bool
  | .tup _ => true
  | .frz _ _ => true
  | .ins _ _ _ => true
  | _ => false
def Firm (H H' : Hp) : Prop := ∀ b o, H b = some o → firm o = true → H' b = some o
theorem Firm.refl (H : Hp) : Firm H H := fun _ _ e _ => e
theorem Firm.trans {H H1 H2 : Hp} (a : Firm H H1) (b : Firm H1 H2) : Firm H H2 := fun c o e h => b c o (a c o e h) h
theorem Firm.of {H H' : Hp} (s : Same H H') : Firm H H' := fun b o e _ => s b o e
theorem Firm.upd {H : Hp} {a : Addr} {u o : HO} (h : H a = some u) (hu : firm u = false) : Firm H (upd H a o) := fun b z e hz => by
  rw [upd_ne (fun q => by rw [q, h] at e; cases e; rw [hu] at hz; cases hz)]
  exact e
theorem Firm.but {H H' : Hp} {p : Addr} {u : HO} (c : But p H H') (h : H p = some u) (hu : firm u = false) : Firm H H' := fun b z e hz =>
  c b z e fun q => by
    rw [q, h] at e
    cases e
    rw [hu] at hz
    cases hz
theorem Firm.pen {H H' : Hp} {p c : Addr} {m : Nat} (b : But p H H') (h : PenC H p c m) : Firm H H' := by
  obtain ⟨_, _, _, _, _, h1, _⟩ := h
  exact Firm.but b h1 rfl
/-! ### two lists, item by item -/
inductive All2 {α : Type} (R : V → α → Prop) : List V → List α → Prop
  | nil : All2 R [] []
  | cons {v : V} {x : α} {vs : List V} {xs : List α} : R v x → All2 R vs xs → All2 R (v :: vs) (x :: xs)
section
variable {α : Type} {R R' : V → α → Prop}
theorem All2.len : ∀ {vs : List V} {xs : List α}, All2 R vs xs → vs.length = xs.length
  | _, _, .nil => rfl
  | _, _, .cons _ h => congrArg Nat.succ h.len
theorem All2.imp (f : ∀ v x, R v x → R' v x) : ∀ {vs : List V} {xs : List α}, All2 R vs xs → All2 R' vs xs
  | _, _, .nil => .nil
  | _, _, .cons h t => .cons (f _ _ h) (t.imp f)
theorem All2.get : ∀ {vs : List V} {xs : List α}, All2 R vs xs → ∀ {i : Nat} {v : V}, vs[i]? = some v → ∃ x, xs[i]? = some x ∧ R v x
  | _, _, .nil, i, v, e => by simp at e
  | _, _, .cons (v := v0) (x := x0) h t, 0, v, e => by
    simp at e
    subst e
    exact ⟨x0, rfl, h⟩
  | _, _, .cons h t, i + 1, v, e => by
    simp at e
    obtain ⟨x, q1, q2⟩ := t.get e
    exact ⟨x, by simpa using q1, q2⟩
theorem All2.get' : ∀ {vs : List V} {xs : List α}, All2 R vs xs → ∀ {i : Nat} {x : α}, xs[i]? = some x → ∃ v, vs[i]? = some v ∧ R v x
  | _, _, .nil, i, v, e => by simp at e
  | _, _, .cons (v := v0) (x := x0) h t, 0, v, e => by
    simp at e
    subst e
    exact ⟨v0, rfl, h⟩
  | _, _, .cons h t, i + 1, v, e => by
    simp at e
    obtain ⟨x, q1, q2⟩ := t.get' e
    exact ⟨x, by simpa using q1, q2⟩
theorem All2.snoc {v : V} {x : α} (h : R v x) : ∀ {vs : List V} {xs : List α}, All2 R vs xs → All2 R (vs ++ [v]) (xs ++ [x])
  | _, _, .nil => .cons h .nil
  | _, _, .cons h1 t => .cons h1 (t.snoc h)
theorem All2.append : ∀ {vs ws : List V} {xs ys : List α}, All2 R vs xs → All2 R ws ys → All2 R (vs ++ ws) (xs ++ ys)
  | _, _, _, _, .nil, h => h
  | _, _, _, _, .cons h1 t, h => .cons h1 (t.append h)
theorem All2.take : ∀ {vs : List V} {xs : List α} (n : Nat), All2 R vs xs → All2 R (vs.take n) (xs.take n)
  | _, _, 0, _ => by
    rw [List.take_zero, List.take_zero]
    exact .nil
  | _, _, _ + 1, .nil => .nil
  | _, _, n + 1, .cons h t => .cons h (t.take n)
end
/-! ### pairs, rows of pairs, rows of ints -/
def Pt (K : PySem.W.Frag) (H : Hp) (v : V) (p : Int × Int) : Prop := ∃ q, v = .ref q ∧ SqT K H q [.int p.1, .int p.2]
def Pr (K : PySem.W.Frag) (H : Hp) (v : V) (p : Int × Int) : Prop := ∃ q, v = .ref q ∧ (SqL K H q [.int p.1, .int p.2] ∨ SqT K H q [.int p.1, .int p.2])
def Tu (K : PySem.W.Frag) (H : Hp) (v : V) (r : List Int) : Prop := ∃ q, v = .ref q ∧ H q = some (.tup (r.map V.int))
def GT (K : PySem.W.Frag) (H : Hp) (g : Addr) (gs : List (Int × Int)) : Prop := ∃ vs, SqT K H g vs ∧ All2 (Pt K H) vs gs
def RowG (K : PySem.W.Frag) (H : Hp) (v : V) (gs : List (Int × Int)) : Prop := ∃ r vs, v = .ref r ∧ (SqL K H r vs ∨ SqT K H r vs) ∧ All2 (Pr K H) vs gs
section
variable {K : PySem.W.Frag} {H H' : Hp}
theorem firm_seq {a : Addr} {xs : List V} (s : Firm H H') (h : SqT K H a xs) : SqT K H' a xs :=
  h.elim (fun h => .inl (h.elim (fun h => .inl (s _ _ h rfl)) fun ⟨o, h⟩ => .inr ⟨o, s _ _ h rfl⟩)) .inr
theorem Pt.firm {v : V} {p : Int × Int} (s : Firm H H') (h : Pt K H v p) : Pt K H' v p := by
  obtain ⟨q, e, h⟩ := h
  exact ⟨q, e, firm_seq s h⟩
theorem Tu.firm {v : V} {r : List Int} (s : Firm H H') (h : Tu K H v r) : Tu K H' v r := by
  obtain ⟨q, e, h⟩ := h
  exact ⟨q, e, s _ _ h rfl⟩
theorem GT.firm {g : Addr} {gs : List (Int × Int)} (s : Firm H H') (h : GT K H g gs) : GT K H' g gs := by
  obtain ⟨vs, h1, h2⟩ := h
  exact ⟨vs, firm_seq s h1, h2.imp fun _ _ q => q.firm s⟩
theorem Pr.same {v : V} {p : Int × Int} (s : Same H H') (h : Pr K H v p) : Pr K H' v p := by
  obtain ⟨q, e, h⟩ := h
  exact ⟨q, e, h.elim (fun h => .inl (s.seq h)) fun h => .inr (seqT_same s h)⟩
theorem RowG.same {v : V} {gs : List (Int × Int)} (s : Same H H') (h : RowG K H v gs) : RowG K H' v gs := by
  obtain ⟨r, vs, e, h1, h2⟩ := h
  exact ⟨r, vs, e, h1.elim (fun h => .inl (s.seq h)) fun h => .inr (seqT_same s h), h2.imp fun _ _ q => q.same s⟩
theorem Pt.pr {v : V} {p : Int × Int} (h : Pt K H v p) : Pr K H v p := by
  obtain ⟨q, e, h⟩ := h
  exact ⟨q, e, .inr h⟩
theorem GT.row {g : Addr} {gs : List (Int × Int)} (h : GT K H g gs) : RowG K H (.ref g) gs := by
  obtain ⟨vs, h1, h2⟩ := h
  exact ⟨g, vs, rfl, .inr h1, h2.imp fun _ _ q => q.pr⟩
/-- a row of pairs, as data -/
def pD (p : Int × Int) : PyData := .tuple [.int p.1, .int p.2]
def gD (gs : List (Int × Int)) : PyData := .tuple (gs.map pD)
theorem pt_dp {v : V} {p : Int × Int} (h : Pt K H v p) : Dp K H v (pD p) := by
  obtain ⟨q, rfl, h⟩ := h
  exact .tup h (.cons (.int _) (.cons (.int _) .nil))
theorem pts_dp : ∀ {vs : List V} {gs : List (Int × Int)}, All2 (Pt K H) vs gs → DpAll K H vs (gs.map pD)
  | _, _, .nil => .nil
  | _, _, .cons h t => .cons (pt_dp h) (pts_dp t)
theorem GT.dp {g : Addr} {gs : List (Int × Int)} (h : GT K H g gs) : Dp K H (.ref g) (gD gs) := by
  obtain ⟨vs, h1, h2⟩ := h
  exact .tup h1 (pts_dp h2)
theorem ints_dp : ∀ (r : List Int), DpAll K H (r.map V.int) (r.map PyData.int)
  | [] => .nil
  | _ :: r => .cons (.int _) (ints_dp r)
end
end Fi
namespace Gr
open PySem PySem.Spec PyProof.Rows L2 Pen Dat Ki Fi
/-! ## Graphs -/
structure Tx (K : PySem.W.Frag) (mg : Str → Option Value) (C : Addr) : Prop where
  ki : Ki.Tx mg
  cl : Cls K C
  nL : NoAttr K C "leaves"
  nG : NoAttr K C "gates"
  mgC : mg "Graph" = some (.ref C)
  cls : PySem.W.findIn K (.ref C) "__class__" = some (some (.builtin "object.__class__"))
  spc : PySem.W.specialIn K (.builtin "object.__class__") "__get__" = some (some (.builtin "getset_descriptor.__get__"))
  tak : PySem.W.takesIn K (.builtin "object.__class__") = some true
  met : ∀ {H : Hp} {a dx : Addr} {fs : List (Str × V)}, H a = some (.ins C dx fs) → TyOf K H (.ref a) (.ref C)
  own : PySem.W.kitOne K (.ref C) (.ref C) = some true
  tup : PySem.W.kitOne K (.type "tuple") (.ref C) = some false
def flds (n : Int) (g : Addr) : List (Str × V) := putF "gates" (.ref g) (putF "leaves" (.int n) [])
theorem kLG : ¬ (("leaves" : Str) = "gates") := by decide +kernel
theorem flds_eq (n : Int) (g : Addr) : flds n g = ([("leaves", V.int n), ("gates", V.ref g)] : List (Str × V)) := by
  show (if ("leaves" : Str) = "gates" then [(("leaves" : Str), V.ref g)] else (("leaves" : Str), V.int n) :: putF "gates" (V.ref g) []) = ([("leaves", V.int n), ("gates", V.ref g)] : List (Str × V))
  rw [if_neg kLG]
  all_goals rfl
theorem flds_L (n : Int) (g : Addr) : (flds n g).lookup ("leaves" : Str) = some (.int n) := by
  unfold flds
  rw [lookup_putF, if_neg kLG, lookup_putF, if_pos rfl]
theorem flds_G (n : Int) (g : Addr) : (flds n g).lookup ("gates" : Str) = some (.ref g) := by
  unfold flds
  rw [lookup_putF, if_pos rfl]
def GraphAt (K : PySem.W.Frag) (C : Addr) (H : Hp) (p : Addr) (n : Int) (gs : List (Int × Int)) : Prop := ∃ dx g, H p = some (.ins C dx (flds n g)) ∧ GT K H g gs
theorem GraphAt.firm {K : PySem.W.Frag} {C p : Addr} {H H' : Hp} {n : Int} {gs : List (Int × Int)} (s : Firm H H') (h : GraphAt K C H p n gs) : GraphAt K C H' p n gs := by
  obtain ⟨dx, g, h1, h2⟩ := h
  exact ⟨dx, g, s _ _ h1 rfl, h2.firm s⟩
def goB : Int → List PyData → Bool
  | _, [] => true
  | m, e :: r => rowB e 2 0 m && goB (m + 2) r
def gatesB (n : Int) (d : PyData) : Bool := isRowD d && goB (2 * n + 1) (rowsD d)
def within (a m : Int) : Bool := decide (0 ≤ a) && decide (a ≤ m)
def okG : Int → List (Int × Int) → Bool
  | _, [] => true
  | m, p :: r => (within p.1 m && within p.2 m) && okG (m + 2) r
theorem pr_dp {K : PySem.W.Frag} {H : Hp} {v : V} {p : Int × Int} (h : Pr K H v p) : ∃ e, Dp K H v e ∧ (rowsD e).length ≤ 1000 ∧ ∀ m, rowB e 2 0 m = (within p.1 m && within p.2 m) := by
  obtain ⟨q, rfl, h | h⟩ := h
  · exact ⟨_, .lst h (.cons (.int _) (.cons (.int _) .nil)), by show 2 ≤ 1000; decide, fun m => by show (true && (decide (((2 : Nat) : Int) = 2) && (within p.1 m && (within p.2 m && true)))) = _; rw [decide_eq_true (by rfl), Bool.and_true]; rfl⟩
  · exact ⟨_, .tup h (.cons (.int _) (.cons (.int _) .nil)), by show 2 ≤ 1000; decide, fun m => by show (true && (decide (((2 : Nat) : Int) = 2) && (within p.1 m && (within p.2 m && true)))) = _; rw [decide_eq_true (by rfl), Bool.and_true]; rfl⟩
theorem prs_dp {K : PySem.W.Frag} {H : Hp} : ∀ {vs : List V} {gs : List (Int × Int)}, All2 (Pr K H) vs gs → ∃ ds, DpAll K H vs ds ∧ ds.length = gs.length ∧ (∀ e ∈ ds, (rowsD e).length ≤ 1000) ∧ ∀ m, goB m ds = okG m gs
  | _, _, .nil => ⟨[], .nil, rfl, (fun e z => absurd z List.not_mem_nil), fun m => rfl⟩
  | _, _, .cons h t => by
    obtain ⟨e, e1, e2, e3⟩ := pr_dp h
    obtain ⟨ds, d1, d2, d3, d4⟩ := prs_dp t
    refine ⟨e :: ds, .cons e1 d1, congrArg Nat.succ d2, fun z hz => ?_, fun m => ?_⟩
    · rcases List.mem_cons.mp hz with rfl | hz
      · exact e2
      · exact d3 z hz
    · show (rowB e 2 0 m && goB (m + 2) ds) = _
      rw [e3, d4]
      rfl
theorem row_dp {K : PySem.W.Frag} {H : Hp} {v : V} {gs : List (Int × Int)} (h : RowG K H v gs) : ∃ d, Dp K H v d ∧ (rowsD d).length = gs.length ∧ (∀ e ∈ rowsD d, (rowsD e).length ≤ 1000) ∧ ∀ n, gatesB n d = okG (2 * n + 1) gs := by
  obtain ⟨r, vs, rfl, h1, h2⟩ := h
  obtain ⟨ds, d1, d2, d3, d4⟩ := prs_dp h2
  rcases h1 with h1 | h1
  · exact ⟨.list ds, .lst h1 d1, d2, d3, fun n => d4 _⟩
  · exact ⟨.tuple ds, .tup h1 d1, d2, d3, fun n => d4 _⟩
def spNeed : Sp := fun vs H Q _ => ∃ n : Int, vs = [.int n] ∧ n ≥ 0 ∧ Q .non H
def spGates (K : PySem.W.Frag) : Sp := fun vs H Q _ => ∃ (n : Int) (v : V) (d : PyData), vs = [.int n, v] ∧ Dp K H v d ∧ (rowsD d).length ≤ 1000 ∧ (∀ e ∈ rowsD d, (rowsD e).length ≤ 1000) ∧ ∀ H', Same H H' → Q (.bl (gatesB n d)) H'
def spInit (K : PySem.W.Frag) (C : Addr) : Sp := fun vs H Q _ => ∃ (p dx : Addr) (n : Int) (v : V) (gs : List (Int × Int)), vs = [.ref p, .int n, v] ∧ H p = some (.ins C dx []) ∧ n ≥ 0 ∧ RowG K H v gs ∧ gs.length ≤ 1000 ∧ okG (2 * n + 1) gs = true ∧
  ∀ H', (∀ b o, H b = some o → b ≠ p → H' b = some o) → GraphAt K C H' p n gs → Q .non H'
def spEqG (K : PySem.W.Frag) (C : Addr) : Sp := fun vs H Q _ => ∃ (p : Addr) (v : V) (n : Int) (gs : List (Int × Int)), vs = [.ref p, v] ∧ GraphAt K C H p n gs ∧
  ((∃ (q : Addr) (n' : Int) (gs' : List (Int × Int)), v = .ref q ∧ GraphAt K C H q n' gs' ∧ Q (.bl (decide (n = n') && PyData.eqv (gD gs) (gD gs'))) H) ∨ ∃ (t : Addr) (xs : List V), v = .ref t ∧ SqT K H t xs ∧ Q (.bl false) H)
theorem can_pD : ∀ gs : List (Int × Int), PyData.canLayAll0 (gs.map pD) = true
  | [] => rfl
  | _ :: r => can_pD r
theorem deep_pD : ∀ gs : List (Int × Int), PyData.depthAll (gs.map pD) ≤ 1
  | [] => Nat.zero_le _
  | p :: r => Nat.max_le.mpr ⟨Nat.le_refl _, deep_pD r⟩
theorem shaped_gD (gs : List (Int × Int)) : SeqAt.shaped (gD gs) = true := by
  have h1 := can_pD gs
  have h2 := deep_pD gs
  unfold SeqAt.shaped
  rw [Bool.and_eq_true]
  exact ⟨h1, decide_eq_true (by show PyData.depthAll (gs.map pD) + 1 ≤ 64; omega)⟩
def rTupOf (K : PySem.W.Frag) : List V → Hp → VK → Prop := fun xs H Q => ∃ p ys, xs = [V.ref p] ∧ ((SqL K H p ys ∧ ∀ l, H l = none → Q (.ref l) (upd H l (.tup ys))) ∨ (SqT K H p ys ∧ Q (.ref p) H))
section
variable {P : Program} {w : World} {K : PySem.W.Frag} {mg : Str → Option Value} {base : Heap} {f C : Addr} {fd : FuncData}
theorem start_int (n : Int) : 2 * n + 1 = 2 * n + 1 + 2 * ((0 : Nat) : Int) := by omega
theorem start_eq (n : Int) (a : Addr) : ([some (.int n), some (.ref a), some (.int (2 * n + 1)), none] : List (Option V)) = [some (.int n), some (.ref a), some (.int (2 * n + 1 + 2 * ((0 : Nat) : Int))), none] := by
  rw [← start_int]
abbrev inN : List Str := ["self", "leaves", "gates", "pair"]
end
end Gr
namespace No
open PySem PySem.Spec PyProof.Rows L2 Pen Dat Ki Fi Gr
/-! ## Values of nodes and literals -/
/-- abs, as its rule tells it -/
def ab (z : Int) : Int := if z < 0 then -z else z
def lit (f : List Int) (a : Int) : Int := ab (f.getD (a / 2).toNat 0 - a % 2)
def step (f : List Int) (p : Int × Int) : List Int := f ++ [lit f p.1 * lit f p.2]
def vals (bs : List Int) (gs : List (Int × Int)) : List Int := gs.foldl step (0 :: bs)
def B01 (f : List Int) : Prop := ∀ z ∈ f, z = 0 ∨ z = 1
theorem getD_01 {f : List Int} (h : B01 f) (j : Nat) : f.getD j 0 = 0 ∨ f.getD j 0 = 1 := by
  rw [List.getD_eq_getElem?_getD]
  cases e : f[j]? with
  | none => exact .inl rfl
  | some z => exact h z (List.mem_of_getElem? e)
theorem lit_01 {f : List Int} (h : B01 f) (a : Int) : lit f a = 0 ∨ lit f a = 1 := by
  have h1 := getD_01 h (a / 2).toNat
  have h2 : a % 2 = 0 ∨ a % 2 = 1 := by omega
  unfold lit ab
  rcases h1 with e1 | e1 <;> rcases h2 with e2 | e2 <;> rw [e1, e2] <;> decide
theorem mul_01 {x y : Int} (hx : x = 0 ∨ x = 1) (hy : y = 0 ∨ y = 1) : x * y = 0 ∨ x * y = 1 := by
  rcases hx with rfl | rfl <;> rcases hy with rfl | rfl <;> decide
theorem step_01 {f : List Int} (h : B01 f) (p : Int × Int) : B01 (step f p) := fun z hz => by
  rcases List.mem_append.mp hz with q | q
  · exact h z q
  · rw [List.mem_singleton.mp q]
    exact mul_01 (lit_01 h _) (lit_01 h _)
theorem foldl_len : ∀ (gs : List (Int × Int)) (f : List Int), (gs.foldl step f).length = f.length + gs.length
  | [], f => rfl
  | p :: r, f => by
    show (r.foldl step (step f p)).length = _
    rw [foldl_len r]
    unfold step
    rw [List.length_append]
    show f.length + 1 + r.length = f.length + (r.length + 1)
    omega
theorem foldl_01 : ∀ (gs : List (Int × Int)) {f : List Int}, B01 f → B01 (gs.foldl step f)
  | [], _, h => h
  | p :: r, _, h => foldl_01 r (step_01 h p)
theorem vals_take (bs : List Int) {gs : List (Int × Int)} {i : Nat} {p : Int × Int} (h : gs[i]? = some p) : vals bs (gs.take (i + 1)) = step (vals bs (gs.take i)) p := by
  unfold vals
  rw [take_more h, List.foldl_append]
  rfl
theorem vals_len (bs : List Int) (gs : List (Int × Int)) : (vals bs gs).length = bs.length + 1 + gs.length := by
  unfold vals
  rw [foldl_len]
  rfl
theorem vals_01 {bs : List Int} (gs : List (Int × Int)) (h : B01 bs) : B01 (vals bs gs) :=
  foldl_01 gs fun z hz => by
    rcases List.mem_cons.mp hz with rfl | hz
    · exact .inl rfl
    · exact h z hz
/-- the literals of gate i are of nodes ahead -/
theorem okG_at : ∀ {gs : List (Int × Int)} {m : Int} {i : Nat} {p : Int × Int}, okG m gs = true → gs[i]? = some p → (0 ≤ p.1 ∧ p.1 ≤ m + 2 * i) ∧ 0 ≤ p.2 ∧ p.2 ≤ m + 2 * i
  | [], _, _, _, _, e => by simp at e
  | q :: r, m, 0, p, h, e => by
    simp at e
    subst e
    unfold okG within at h
    simp only [Bool.and_eq_true, decide_eq_true_eq] at h
    obtain ⟨⟨⟨a, b⟩, c, d⟩, _⟩ := h
    exact ⟨⟨a, by omega⟩, c, by omega⟩
  | q :: r, m, i + 1, p, h, e => by
    simp at e
    unfold okG at h
    rw [Bool.and_eq_true] at h
    obtain ⟨⟨a, b⟩, c, d⟩ := okG_at h.2 e
    exact ⟨⟨a, by omega⟩, c, by omega⟩
theorem half_lt {a m : Int} (h0 : 0 ≤ a) (h : a ≤ 2 * m + 1) : (a / 2).toNat < (m + 1).toNat := by omega
/-- x ^ (a & 1), x a bit -/
theorem flip_bit {x a : Int} (hx : x = 0 ∨ x = 1) : Builtin.bitXor x (Builtin.bitAnd a 1) = ab (x - a % 2) := by
  have e := bitAnd_m1 a
  rw [e]
  have h2 : a % 2 = 0 ∨ a % 2 = 1 := by omega
  rcases hx with rfl | rfl <;> rcases h2 with e2 | e2 <;> rw [e2] <;> decide
theorem and_bits {x y : Int} (hx : x = 0 ∨ x = 1) (hy : y = 0 ∨ y = 1) : Builtin.bitAnd x y = x * y := by
  rcases hx with rfl | rfl <;> rcases hy with rfl | rfl <;> decide
theorem getD_of {f : List Int} {j : Nat} (h : j < f.length) : (f.map V.int)[j]? = some (.int (f.getD j 0)) := by
  rw [List.getElem?_map, List.getD_eq_getElem?_getD, List.getElem?_eq_getElem h]
  rfl
/-- a row of ints, list or tuple -/
def SeqI (K : PySem.W.Frag) (H : Hp) (v : V) (bs : List Int) : Prop := ∃ r, v = .ref r ∧ (SqL K H r (bs.map V.int) ∨ SqT K H r (bs.map V.int))
theorem SeqI.same {K : PySem.W.Frag} {H H' : Hp} {v : V} {bs : List Int} (s : Same H H') (h : SeqI K H v bs) : SeqI K H' v bs := by
  obtain ⟨r, e, h⟩ := h
  exact ⟨r, e, h.elim (fun h => .inl (s.seq h)) fun h => .inr (seqT_same s h)⟩
theorem bet_all {bs : List Int} (h : B01 bs) : ((bs.map PyData.int).all fun e => betD e 0 1) = true := by
  rw [List.all_map, List.all_eq_true]
  intro z hz
  rcases h z hz with rfl | rfl <;> rfl
theorem seqI_dp {K : PySem.W.Frag} {H : Hp} {v : V} {bs : List Int} (h : SeqI K H v bs) (hb : B01 bs) : ∃ d, Dp K H v d ∧ (rowsD d).length = bs.length ∧ rowB d (bs.length : Int) 0 1 = true := by
  have e : ∀ l : List PyData, l = bs.map PyData.int → (true && (decide (((l.length : Nat) : Int) = bs.length) && l.all fun e => betD e 0 1)) = true := by
    rintro l rfl
    rw [bet_all hb, List.length_map, decide_eq_true rfl]
    rfl
  obtain ⟨r, rfl, h | h⟩ := h
  · exact ⟨_, .lst h (ints_dp bs), List.length_map .., e _ rfl⟩
  · exact ⟨_, .tup h (ints_dp bs), List.length_map .., e _ rfl⟩
def spNode (K : PySem.W.Frag) (C : Addr) : Sp := fun vs H Q _ => ∃ (p : Addr) (v : V) (gs : List (Int × Int)) (bs : List Int), vs = [.ref p, v] ∧ GraphAt K C H p bs.length gs ∧ SeqI K H v bs ∧ B01 bs ∧ okG (2 * bs.length + 1) gs = true ∧ bs.length ≤ 500 ∧ gs.length ≤ 500 ∧
  ∀ (H' : Hp) (t : Addr), Same H H' → SqT K H' t ((vals bs gs).map V.int) → Q (.ref t) H'
def spLit (K : PySem.W.Frag) : Sp := fun vs H Q _ => ∃ (t : Addr) (xs : List V) (a : Int) (v : V), vs = [.ref t, .int a] ∧ SqT K H t xs ∧ 0 ≤ a ∧ xs[(a / 2).toNat]? = some v ∧
  ((v = .non ∧ Q .non H) ∨ ∃ x : Int, v = .int x ∧ (x = 0 ∨ x = 1) ∧ Q (.int (ab (x - a % 2))) H)
section
variable {P : Program} {w : World} {K : PySem.W.Frag} {mg : Str → Option Value} {base : Heap} {f C : Addr} {fd : FuncData}
abbrev noN : List Str := ["graph", "bits", "found", "one", "other"]
end
end No
namespace Lf
open PySem PySem.Spec PyProof.Rows L2 Pen Dat Ki Fi Gr No
/-! ## The law's own functions -/
structure Tx (mg : Str → Option Value) : Prop where
  pen : Pen.Txt mg
  abs : mg "abs" = none
  range : mg "range" = none
  tuple : mg "tuple" = none
def longer (rs : List (List Int)) : List (List Int) := rs.flatMap fun r => [r ++ [0], r ++ [1]]
def rowsM : Nat → List (List Int)
  | 0 => [[]]
  | n + 1 => longer (rowsM n)
theorem longer_cons (r : List Int) (rs : List (List Int)) : longer (r :: rs) = (r ++ [0]) :: (r ++ [1]) :: longer rs := rfl
theorem longer_app (rs ts : List (List Int)) : longer (rs ++ ts) = longer rs ++ longer ts := List.flatMap_append
theorem longer_len : ∀ rs : List (List Int), (longer rs).length = 2 * rs.length
  | [] => rfl
  | r :: rs => by
    rw [longer_cons, List.length_cons, List.length_cons, longer_len rs, List.length_cons]
    omega
theorem longer_mem : ∀ {rs : List (List Int)} {n : Nat}, (∀ r ∈ rs, r.length = n ∧ B01 r) → ∀ r ∈ longer rs, r.length = n + 1 ∧ B01 r
  | [], _, _, r, h => by cases h
  | t :: rs, n, hr, r, h => by
    have ht := hr t List.mem_cons_self
    rw [longer_cons] at h
    have one : ∀ z : Int, (z = 0 ∨ z = 1) → (t ++ [z]).length = n + 1 ∧ B01 (t ++ [z]) := fun z hz => ⟨by rw [List.length_append, ht.1]; rfl, fun y hy => by
      rcases List.mem_append.mp hy with q | q
      · exact ht.2 y q
      · rw [List.mem_singleton.mp q]
        exact hz⟩
    rcases List.mem_cons.mp h with rfl | h
    · exact one 0 (.inl rfl)
    · rcases List.mem_cons.mp h with rfl | h
      · exact one 1 (.inr rfl)
      · exact longer_mem (fun r hr2 => hr r (List.mem_cons_of_mem _ hr2)) r h
theorem rowsM_mem : ∀ (n : Nat), ∀ r ∈ rowsM n, r.length = n ∧ B01 r
  | 0, r, h => by
    rw [List.mem_singleton.mp h]
    exact ⟨rfl, fun z hz => by cases hz⟩
  | n + 1, r, h => longer_mem (rowsM_mem n) r h
theorem rowsM_len : ∀ n : Nat, (rowsM n).length = 2 ^ n
  | 0 => rfl
  | n + 1 => by
    show (longer (rowsM n)).length = _
    rw [longer_len, rowsM_len n, Nat.pow_succ, Nat.mul_comm]
theorem okG_snoc : ∀ {gs : List (Int × Int)} {m : Int} {p : Int × Int}, okG m gs = true → 0 ≤ p.1 → p.1 ≤ m + 2 * gs.length → 0 ≤ p.2 → p.2 ≤ m + 2 * gs.length → okG m (gs ++ [p]) = true
  | [], m, p, _, a, b, c, d => by
    show ((within p.1 m && within p.2 m) && true) = true
    unfold within
    have b' : p.1 ≤ m := by simpa using b
    have d' : p.2 ≤ m := by simpa using d
    rw [decide_eq_true a, decide_eq_true b', decide_eq_true c, decide_eq_true d']
    rfl
  | q :: r, m, p, h, a, b, c, d => by
    unfold okG at h
    rw [Bool.and_eq_true] at h
    show ((within q.1 m && within q.2 m) && okG (m + 2) (r ++ [p])) = true
    rw [h.1, okG_snoc h.2 a (by rw [List.length_cons] at b; omega) c (by rw [List.length_cons] at d; omega)]
    rfl
def spBit (K : PySem.W.Frag) : Sp := fun vs H Q _ => ∃ (l : Addr) (xs : List Int) (a : Int), vs = [.ref l, .int a] ∧ SqL K H l (xs.map V.int) ∧ 0 ≤ a ∧ (a / 2).toNat < xs.length ∧ Q (.int (lit xs a)) H
def spValues (K : PySem.W.Frag) : Sp := fun vs H Q _ => ∃ (u : V) (g r : Addr) (gs : List (Int × Int)) (bs : List Int), vs = [u, .ref g, .ref r] ∧ GT K H g gs ∧ SqT K H r (bs.map V.int) ∧ B01 bs ∧ okG (2 * bs.length + 1) gs = true ∧ bs.length ≤ 500 ∧ gs.length ≤ 500 ∧
  ∀ (H' : Hp) (l : Addr), Same H H' → H l = none → H' l = some (.lst ((vals bs gs).map V.int)) → Q (.ref l) H'
def spDrawn (K : PySem.W.Frag) : Sp := fun vs H Q _ => ∃ (p c : Addr) (k : Nat) (n m : Int), vs = [.ref p, .int n, .int m] ∧ PenC H p c k ∧ k ≤ 100000000000 ∧ 0 ≤ n ∧ n ≤ 100 ∧ 0 ≤ m ∧ m ≤ 100 ∧
  ∀ (H' : Hp) (g : Addr) (gs : List (Int × Int)), PenC H' p c (k + 2 * m.toNat) → But p H H' → GT K H' g gs → okG (2 * n + 1) gs = true → gs.length = m.toNat → Q (.ref g) H'
def spLonger (K : PySem.W.Frag) : Sp := fun vs H Q _ => ∃ (l : Addr) (ws : List V) (rs : List (List Int)), vs = [.ref l, .int 2] ∧ SqL K H l ws ∧ All2 (Tu K H) ws rs ∧ rs.length ≤ 2100 ∧ (∀ r ∈ rs, r.length ≤ 100) ∧
  ∀ (H' : Hp) (l' : Addr) (zs : List V), Same H H' → H' l' = some (.lst zs) → All2 (Tu K H') zs (longer rs) → Q (.ref l') H'
def spRows (K : PySem.W.Frag) : Sp := fun vs H Q _ => ∃ (m : Int), vs = [.int m] ∧ 0 ≤ m ∧ m ≤ 11 ∧
  ∀ (H' : Hp) (l : Addr) (ws : List V), Same H H' → H' l = some (.lst ws) → All2 (Tu K H') ws (rowsM m.toNat) → Q (.ref l) H'
section
variable {P : Program} {w : World} {K : PySem.W.Frag} {mg : Str → Option Value} {base : Heap} {f C : Addr} {fd : FuncData}
abbrev vaN : List Str := ["_law_leaves", "_law_gates", "_law_bits", "_law_found", "_law_one", "_law_two"]
abbrev drN : List Str := ["_law_pen_here", "_law_leaves", "_law_many", "_law_gates", "_law_k", "_law_ahead"]
abbrev loN : List Str := ["_law_rows_here", "_law_many", "_law_found", "_law_row", "_law_number"]
end
end Lf
namespace Cm
open PySem PySem.Spec PyProof.Rows L2 Fi No
/-! ## Clauses, as mathematics -/
def fl (l : Int) : Int := l + 1 - 2 * (l % 2)
def sgn (l : Int) : Int := if l % 2 = 1 then -(l / 2) else l / 2
def bad (ls : List Int) : Bool := ls.any (fun l => l == 1) || ls.any fun l => ls.any fun m => m == fl l
def Asc (cl : List Int) : Prop := cl.Pairwise fun a b => a.natAbs < b.natAbs
def IsCl (ls cl : List Int) : Prop := Asc cl ∧ ∀ z, z ∈ cl ↔ ∃ l ∈ ls, 1 < l ∧ z = sgn l
theorem asc_ext : ∀ {xs ys : List Int}, Asc xs → Asc ys → (∀ z, z ∈ xs ↔ z ∈ ys) → xs = ys
  | [], [], _, _, _ => rfl
  | [], y :: _, _, _, h => absurd ((h y).mpr List.mem_cons_self) List.not_mem_nil
  | x :: _, [], _, _, h => absurd ((h x).mp List.mem_cons_self) List.not_mem_nil
  | x :: xs, y :: ys, hx, hy, h => by
    unfold Asc at hx hy
    rw [List.pairwise_cons] at hx hy
    have e : x = y := by
      rcases List.mem_cons.mp ((h x).mp List.mem_cons_self) with e | m1
      · exact e
      · rcases List.mem_cons.mp ((h y).mpr List.mem_cons_self) with e | m2
        · exact e.symm
        · have a := hx.1 y m2
          have b := hy.1 x m1
          omega
    subst e
    refine congrArg (x :: ·) (asc_ext hx.2 hy.2 fun z => ⟨fun m => ?_, fun m => ?_⟩)
    · rcases List.mem_cons.mp ((h z).mp (List.mem_cons_of_mem _ m)) with e | m'
      · have := hx.1 z m
        rw [e] at this
        exact absurd this (Nat.lt_irrefl _)
      · exact m'
    · rcases List.mem_cons.mp ((h z).mpr (List.mem_cons_of_mem _ m)) with e | m'
      · have := hy.1 z m
        rw [e] at this
        exact absurd this (Nat.lt_irrefl _)
      · exact m'
theorem isCl_uniq {ls c1 c2 : List Int} (h1 : IsCl ls c1) (h2 : IsCl ls c2) : c1 = c2 := asc_ext h1.1 h2.1 fun z => (h1.2 z).trans (h2.2 z).symm
theorem not_bad {ls : List Int} (h : bad ls = false) : ¬ (1 : Int) ∈ ls ∧ ∀ l ∈ ls, ¬ fl l ∈ ls := by
  unfold bad at h
  rw [Bool.or_eq_false_iff, List.any_eq_false, List.any_eq_false] at h
  refine ⟨fun m => h.1 1 m (by rfl), fun l m m2 => ?_⟩
  have z := h.2 l m
  rw [Bool.not_eq_true, List.any_eq_false] at z
  exact z _ m2 (by simp)
theorem is_bad {ls : List Int} (h : bad ls = true) : (1 : Int) ∈ ls ∨ ∃ l ∈ ls, fl l ∈ ls := by
  unfold bad at h
  rw [Bool.or_eq_true, List.any_eq_true, List.any_eq_true] at h
  rcases h with ⟨l, m, e⟩ | ⟨l, m, e⟩
  · rw [beq_iff_eq] at e
    subst e
    exact .inl m
  · obtain ⟨k, mk, ek⟩ := List.any_eq_true.mp e
    rw [beq_iff_eq] at ek
    subst ek
    exact .inr ⟨l, m, mk⟩
theorem bad_of {ls : List Int} (h : (1 : Int) ∈ ls ∨ ∃ l ∈ ls, fl l ∈ ls) : bad ls = true := by
  cases e : bad ls with
  | true => rfl
  | false =>
    obtain ⟨a, b⟩ := not_bad e
    rcases h with h | ⟨l, m, m2⟩
    · exact absurd h a
    · exact absurd m2 (b l m)
theorem sgn_abs {l : Int} (h : 0 ≤ l) : (sgn l).natAbs = (l / 2).toNat := by
  unfold sgn
  split <;> omega
/-- literals in order, none the opposite of another one: their clause -/
theorem isCl_map {ls ns : List Int} (h0 : ∀ l ∈ ls, 0 ≤ l) (hb : bad ls = false) (hn : ns.Pairwise (· < ·)) (hm : ∀ l, l ∈ ns ↔ l ∈ ls ∧ 1 < l) : IsCl ls (ns.map sgn) := by
  obtain ⟨b1, b2⟩ := not_bad hb
  refine ⟨?_, fun z => ⟨fun h => ?_, ?_⟩⟩
  · unfold Asc
    rw [List.pairwise_map]
    refine hn.imp_of_mem fun {a b} ma mb hab => ?_
    have a0 := (hm a).mp ma
    have c0 := (hm b).mp mb
    rw [sgn_abs (h0 a a0.1), sgn_abs (h0 b c0.1)]
    have ne : ¬ b = fl a := fun e => b2 a a0.1 (e ▸ c0.1)
    unfold fl at ne
    have := a0.2
    omega
  · obtain ⟨l, m, rfl⟩ := List.mem_map.mp h
    exact ⟨l, ((hm l).mp m).1, ((hm l).mp m).2, rfl⟩
  · rintro ⟨l, m, h1, rfl⟩
    exact List.mem_map.mpr ⟨l, (hm l).mpr ⟨m, h1⟩, rfl⟩
/-- nodes in order, each with its sign: the same clause -/
theorem isCl_nodes {ls ns : List Int} (h0 : ∀ l ∈ ls, 0 ≤ l) (hb : bad ls = false) (hn : ns.Pairwise (· < ·)) (hm : ∀ n, n ∈ ns ↔ ∃ l ∈ ls, 1 < l ∧ n = l / 2) :
    IsCl ls (ns.map fun n => if 2 * n ∈ ls then n else -n) := by
  obtain ⟨b1, b2⟩ := not_bad hb
  have val : ∀ l ∈ ls, 1 < l → (if 2 * (l / 2) ∈ ls then l / 2 else -(l / 2)) = sgn l := fun l m h1 => by
    unfold sgn
    by_cases e : l % 2 = 1
    · rw [if_pos e, if_neg]
      intro m2
      refine b2 l m ?_
      have : fl l = 2 * (l / 2) := by
        unfold fl
        omega
      rw [this]
      exact m2
    · rw [if_neg e, if_pos]
      have : 2 * (l / 2) = l := by omega
      rw [this]
      exact m
  refine ⟨?_, fun z => ⟨fun h => ?_, ?_⟩⟩
  · unfold Asc
    rw [List.pairwise_map]
    refine hn.imp_of_mem fun {a b} ma mb hab => ?_
    obtain ⟨l, ml, hl, rfl⟩ := (hm a).mp ma
    obtain ⟨k, mk, hk, rfl⟩ := (hm b).mp mb
    rw [val l ml hl, val k mk hk, sgn_abs (h0 l ml), sgn_abs (h0 k mk)]
    omega
  · obtain ⟨n, m, rfl⟩ := List.mem_map.mp h
    obtain ⟨l, ml, hl, rfl⟩ := (hm n).mp m
    exact ⟨l, ml, hl, val l ml hl⟩
  · rintro ⟨l, m, h1, rfl⟩
    exact List.mem_map.mpr ⟨l / 2, (hm _).mpr ⟨l, m, h1, rfl⟩, val l m h1⟩
def bnd (ls : List Int) : Nat := ls.foldr (fun l b => max l.toNat b) 0 + 1
theorem bnd_lt : ∀ {ls : List Int} {l : Int}, l ∈ ls → l.toNat < bnd ls
  | k :: r, l, h => by
    unfold bnd
    rw [List.foldr_cons]
    rcases List.mem_cons.mp h with rfl | h
    · have := Nat.le_max_left l.toNat (r.foldr (fun l b => max l.toNat b) 0)
      omega
    · have z := bnd_lt h
      unfold bnd at z
      have := Nat.le_max_right k.toNat (r.foldr (fun l b => max l.toNat b) 0)
      omega
def clL (ls : List Int) : List Int := (((List.range (bnd ls)).map fun (l : Nat) => (l : Int)).filter fun l => decide (l ∈ ls ∧ 1 < l)).map sgn
theorem isCl_clL {ls : List Int} (h0 : ∀ l ∈ ls, 0 ≤ l) (hb : bad ls = false) : IsCl ls (clL ls) := by
  refine isCl_map h0 hb (List.Pairwise.filter _ ?_) fun l => ?_
  · rw [List.pairwise_map]
    exact (List.pairwise_lt_range).imp fun h => by omega
  · rw [List.mem_filter, List.mem_map, decide_eq_true_eq]
    refine ⟨fun h => h.2, fun h => ⟨⟨l.toNat, List.mem_range.mpr (bnd_lt h.1), ?_⟩, h⟩⟩
    have := h0 l h.1
    omega
def clM (ls : List Int) : Option (List Int) := if bad ls then none else some (clL ls)
/-! ### what they say -/
def satB (as cl : List Int) : Bool := cl.any fun z => decide (as.getD (z.natAbs - 1) 0 = if z > 0 then 1 else 0)
def litv (as : List Int) (l : Int) : Int := lit (0 :: as) l
theorem litv_01 {as : List Int} (h : B01 as) (l : Int) : litv as l = 0 ∨ litv as l = 1 := lit_01 (fun z hz => by
  rcases List.mem_cons.mp hz with rfl | hz
  · exact .inl rfl
  · exact h z hz) l
theorem getD_tail (as : List Int) {k : Nat} (h : 0 < k) : (0 :: as).getD k 0 = as.getD (k - 1) 0 := by
  obtain ⟨j, rfl⟩ := Nat.exists_eq_succ_of_ne_zero (Nat.pos_iff_ne_zero.mp h)
  rw [List.getD_eq_getElem?_getD, List.getD_eq_getElem?_getD]
  rfl
theorem sgn_lit {as : List Int} (h : B01 as) {l : Int} (h1 : 1 < l) : (as.getD ((sgn l).natAbs - 1) 0 = if sgn l > 0 then 1 else 0) ↔ litv as l = 1 := by
  have g := getD_tail as (k := (l / 2).toNat) (by omega)
  have b := getD_01 h ((l / 2).toNat - 1)
  rw [sgn_abs (by omega)]
  unfold litv lit ab
  rw [g]
  generalize as.getD ((l / 2).toNat - 1) 0 = x at b
  unfold sgn
  by_cases e : l % 2 = 1
  · rw [if_pos e, if_neg (by omega), e]
    rcases b with rfl | rfl <;> decide
  · have e0 : l % 2 = 0 := by omega
    rw [if_neg e, if_pos (by omega), e0]
    rcases b with rfl | rfl <;> decide
theorem litv_zero (as : List Int) : litv as 0 = 0 := rfl
theorem litv_one (as : List Int) : litv as 1 = 1 := rfl
theorem litv_fl {as : List Int} (h : B01 as) {l : Int} (h0 : 0 ≤ l) : litv as (fl l) = 1 - litv as l := by
  have e : fl l / 2 = l / 2 := by
    unfold fl
    omega
  have b : (0 :: as).getD (l / 2).toNat 0 = 0 ∨ (0 :: as).getD (l / 2).toNat 0 = 1 := getD_01 (fun z hz => by
    rcases List.mem_cons.mp hz with rfl | hz
    · exact .inl rfl
    · exact h z hz) _
  unfold litv lit ab
  rw [e]
  have m : l % 2 = 0 ∨ l % 2 = 1 := by omega
  have m2 : fl l % 2 = 1 - l % 2 := by
    unfold fl
    omega
  rw [m2]
  rcases b with b | b <;> rcases m with m | m <;> rw [b, m] <;> decide
theorem sat_cl {as ls cl : List Int} (h : B01 as) (h0 : ∀ l ∈ ls, 0 ≤ l) (h1 : ¬ (1 : Int) ∈ ls) (hc : IsCl ls cl) : satB as cl = true ↔ ∃ l ∈ ls, litv as l = 1 := by
  unfold satB
  rw [List.any_eq_true]
  constructor
  · rintro ⟨z, hz, e⟩
    obtain ⟨l, ml, hl, rfl⟩ := (hc.2 z).mp hz
    exact ⟨l, ml, (sgn_lit h hl).mp (of_decide_eq_true e)⟩
  · rintro ⟨l, ml, e⟩
    have l0 := h0 l ml
    have l1 : 1 < l := by
      rcases Int.lt_trichotomy l 1 with q | q | q
      · have : l = 0 := by omega
        rw [this, litv_zero] at e
        cases e
      · rw [q] at ml
        exact absurd ml h1
      · exact q
    exact ⟨sgn l, (hc.2 _).mpr ⟨l, ml, l1, rfl⟩, decide_eq_true ((sgn_lit h l1).mpr e)⟩
theorem sat_bad {as ls : List Int} (h : B01 as) (h0 : ∀ l ∈ ls, 0 ≤ l) (hb : bad ls = true) : ∃ l ∈ ls, litv as l = 1 := by
  rcases is_bad hb with m | ⟨l, m, m2⟩
  · exact ⟨1, m, litv_one as⟩
  · rcases litv_01 h l with e | e
    · refine ⟨fl l, m2, ?_⟩
      rw [litv_fl h (h0 l m), e]
      rfl
    · exact ⟨l, m, e⟩
/-- a row of literals, as the clause of it says -/
def holds (as ls : List Int) : Prop := match clM ls with
  | none => True
  | some cl => satB as cl = true
theorem holds_iff {as ls : List Int} (h : B01 as) (h0 : ∀ l ∈ ls, 0 ≤ l) : holds as ls ↔ ∃ l ∈ ls, litv as l = 1 := by
  unfold holds clM
  cases e : bad ls with
  | true => exact ⟨fun _ => sat_bad h h0 e, fun _ => trivial⟩
  | false => exact sat_cl h h0 (not_bad e).1 (isCl_clL h0 e)
def three (g : Int) (p : Int × Int) : List (List Int) := [[p.1, g + 1], [p.2, g + 1], [fl p.1, fl p.2, g]]
def clauses (n : Nat) : List (Int × Int) → List (List Int)
  | [] => []
  | p :: r => (three (2 * ((n : Int) + 1)) p).filterMap clM ++ clauses (n + 1) r
theorem gate_iff {as : List Int} {g : Int} {p : Int × Int} (h : B01 as) (h1 : 0 ≤ p.1) (h2 : 0 ≤ p.2) (hg : 0 ≤ g) (he : g % 2 = 0) :
    (∀ cl ∈ (three g p).filterMap clM, satB as cl = true) ↔ litv as g = litv as p.1 * litv as p.2 := by
  have tr : (∀ cl ∈ (three g p).filterMap clM, satB as cl = true) ↔ ∀ ls ∈ three g p, holds as ls := by
    constructor
    · intro q ls m
      unfold holds
      cases e : clM ls with
      | none => exact trivial
      | some cl => exact q cl (List.mem_filterMap.mpr ⟨ls, m, e⟩)
    · intro q cl m
      obtain ⟨ls, m1, e⟩ := List.mem_filterMap.mp m
      have z := q ls m1
      unfold holds at z
      rw [e] at z
      exact z
  have f1 : 0 ≤ fl p.1 := by
    unfold fl
    omega
  have f2 : 0 ≤ fl p.2 := by
    unfold fl
    omega
  have eg : g + 1 = fl g := by
    unfold fl
    omega
  have nn1 : ∀ l ∈ [p.1, g + 1], 0 ≤ l := fun l m => by
    rcases List.mem_cons.mp m with rfl | m
    · exact h1
    · rw [List.mem_singleton.mp m]
      omega
  have nn2 : ∀ l ∈ [p.2, g + 1], 0 ≤ l := fun l m => by
    rcases List.mem_cons.mp m with rfl | m
    · exact h2
    · rw [List.mem_singleton.mp m]
      omega
  have nn3 : ∀ l ∈ [fl p.1, fl p.2, g], 0 ≤ l := fun l m => by
    rcases List.mem_cons.mp m with rfl | m
    · exact f1
    · rcases List.mem_cons.mp m with rfl | m
      · exact f2
      · rw [List.mem_singleton.mp m]
        exact hg
  have k1 := holds_iff h nn1
  have k2 := holds_iff h nn2
  have k3 := holds_iff h nn3
  simp only [List.mem_cons, List.not_mem_nil, or_false, exists_eq_or_imp, exists_eq_left] at k1 k2 k3
  rw [tr]
  simp only [three, List.mem_cons, List.not_mem_nil, or_false, forall_eq_or_imp, forall_eq]
  rw [k1, k2, k3, eg, litv_fl h hg, litv_fl h h1, litv_fl h h2]
  rcases litv_01 h p.1 with a | a <;> rcases litv_01 h p.2 with b | b <;> rcases litv_01 h g with c | c <;> rw [a, b, c] <;> decide
end Cm
namespace Cn
open PySem PySem.Spec PyProof.Rows L2 Fi Gr No Lf Cm
/-! ## Just one assignment, and all rows of bits -/
def fits (as : List Int) (n : Nat) (gs : List (Int × Int)) : Prop := ∀ cl ∈ clauses n gs, satB as cl = true
theorem foldl_pre : ∀ (gs : List (Int × Int)) (f : List Int), (gs.foldl No.step f).take f.length = f
  | [], f => List.take_length
  | p :: r, f => by
    show (r.foldl No.step (No.step f p)).take f.length = f
    have e := foldl_pre r (No.step f p)
    have hl : f.length ≤ (No.step f p).length := by
      unfold No.step
      rw [List.length_append]
      exact Nat.le_add_right _ _
    have e2 : ((r.foldl No.step (No.step f p)).take (No.step f p).length).take f.length = (No.step f p).take f.length := by rw [e]
    rw [List.take_take, Nat.min_eq_left hl] at e2
    rw [e2]
    unfold No.step
    exact List.take_left
theorem getD_take {f : List Int} {j k : Nat} (h : j < k) : (f.take k).getD j 0 = f.getD j 0 := by
  rw [List.getD_eq_getElem?_getD, List.getD_eq_getElem?_getD, List.getElem?_take_of_lt h]
theorem lit_take {f : List Int} {a : Int} {k : Nat} (h0 : 0 ≤ a) (h : (a / 2).toNat < k) : lit (f.take k) a = lit f a := by
  unfold lit
  rw [getD_take h]
theorem take_snoc {as : List Int} {n : Nat} (h : n < as.length) : as.take (n + 1) = as.take n ++ [as.getD n 0] := by
  rw [List.take_succ, List.getD_eq_getElem?_getD, List.getElem?_eq_getElem h]
  rfl
theorem fits_iff : ∀ (gs : List (Int × Int)) (n : Nat) (as : List Int), B01 as → as.length = n + gs.length → okG (2 * (n : Int) + 1) gs = true → (fits as n gs ↔ 0 :: as = gs.foldl No.step (0 :: as.take n))
  | [], n, as, _, hl, _ => by
    have e : as.take n = as := List.take_of_length_le (by simp at hl; omega)
    refine ⟨fun _ => ?_, fun _ cl m => by cases m⟩
    show 0 :: as = 0 :: as.take n
    rw [e]
  | p :: r, n, as, hb, hl, hok => by
    have hl' : as.length = n + 1 + r.length := by
      rw [hl, List.length_cons]
      omega
    have hn : n < as.length := by omega
    obtain ⟨⟨a0, a1⟩, b0, b1⟩ := okG_at (i := 0) (p := p) hok rfl
    have hok2 : okG (2 * ((n + 1 : Nat) : Int) + 1) r = true := by
      unfold okG at hok
      rw [Bool.and_eq_true] at hok
      rw [show 2 * ((n + 1 : Nat) : Int) + 1 = 2 * (n : Int) + 1 + 2 by omega]
      exact hok.2
    have ih := fits_iff r (n + 1) as hb hl' hok2
    have gate := gate_iff (as := as) (g := 2 * ((n : Int) + 1)) (p := p) hb a0 b0 (by omega) (by omega)
    have split : fits as n (p :: r) ↔ litv as (2 * ((n : Int) + 1)) = litv as p.1 * litv as p.2 ∧ fits as (n + 1) r := by
      rw [← gate]
      have ec : clauses n (p :: r) = (three (2 * ((n : Int) + 1)) p).filterMap clM ++ clauses (n + 1) r := rfl
      unfold fits
      rw [ec]
      constructor
      · exact fun h => ⟨fun cl m => h cl (List.mem_append_left _ m), fun cl m => h cl (List.mem_append_right _ m)⟩
      · rintro ⟨h1, h2⟩ cl m
        rcases List.mem_append.mp m with m | m
        · exact h1 cl m
        · exact h2 cl m
    have lg : litv as (2 * ((n : Int) + 1)) = as.getD n 0 := by
      unfold litv lit
      have e1 : (2 * ((n : Int) + 1) / 2).toNat = n + 1 := by omega
      have e2 : 2 * ((n : Int) + 1) % 2 = 0 := by omega
      rw [e1, e2, getD_tail as (by omega : 0 < n + 1)]
      show ab (as.getD n 0 - 0) = _
      rcases getD_01 hb n with q | q <;> rw [q] <;> rfl
    have st : No.step (0 :: as.take n) p = 0 :: as.take n ++ [litv as p.1 * litv as p.2] := by
      unfold No.step
      have e : (0 :: as.take n) = (0 :: as).take (n + 1) := rfl
      rw [e, lit_take a0 (by omega), lit_take b0 (by omega)]
      rfl
    have goal : (p :: r).foldl No.step (0 :: as.take n) = r.foldl No.step (0 :: as.take n ++ [litv as p.1 * litv as p.2]) := by
      show r.foldl No.step (No.step (0 :: as.take n) p) = _
      rw [st]
    have tk := take_snoc hn
    rw [split, goal, lg, ih, tk]
    constructor
    · rintro ⟨e1, e2⟩
      rw [e1] at e2
      exact e2
    · intro e2
      have pre := foldl_pre r (0 :: as.take n ++ [litv as p.1 * litv as p.2])
      rw [← e2] at pre
      have ln : (0 :: as.take n ++ [litv as p.1 * litv as p.2]).length = n + 2 := by
        rw [List.length_append, List.length_cons, List.length_take, Nat.min_eq_left (Nat.le_of_lt hn)]
        rfl
      rw [ln] at pre
      have pre2 : (0 :: as).take (n + 2) = 0 :: as.take n ++ [as.getD n 0] := by
        show 0 :: as.take (n + 1) = _
        rw [tk]
        rfl
      rw [pre2] at pre
      have e1 : as.getD n 0 = litv as p.1 * litv as p.2 := by
        have z := List.append_inj_right' pre rfl
        exact List.head_eq_of_cons_eq z
      refine ⟨e1, ?_⟩
      rw [e1]
      exact e2
/-- the one assignment that has these bits -/
def whole (bs : List Int) (gs : List (Int × Int)) : List Int := (vals bs gs).drop 1
theorem vals_head (bs : List Int) (gs : List (Int × Int)) : vals bs gs = 0 :: whole bs gs := by
  have e := foldl_pre gs (0 :: bs)
  unfold whole
  cases h : vals bs gs with
  | nil =>
    have z := vals_len bs gs
    rw [h] at z
    have z2 : 0 = bs.length + 1 + gs.length := z
    omega
  | cons x r =>
    unfold vals at h
    rw [h] at e
    have : x = 0 := List.head_eq_of_cons_eq e
    rw [this]
    rfl
theorem whole_len (bs : List Int) (gs : List (Int × Int)) : (whole bs gs).length = bs.length + gs.length := by
  unfold whole
  rw [List.length_drop, vals_len]
  omega
theorem whole_01 {bs : List Int} (gs : List (Int × Int)) (h : B01 bs) : B01 (whole bs gs) := fun z hz => vals_01 gs h z (List.mem_of_mem_drop hz)
theorem whole_take (bs : List Int) (gs : List (Int × Int)) : (whole bs gs).take bs.length = bs := by
  have e := foldl_pre gs (0 :: bs)
  have v := vals_head bs gs
  unfold vals at v
  rw [v] at e
  exact List.tail_eq_of_cons_eq e
theorem fits_whole {as bs : List Int} {gs : List (Int × Int)} (hb : B01 as) (hl : as.length = bs.length + gs.length) (hok : okG (2 * (bs.length : Int) + 1) gs = true) : (fits as bs.length gs ∧ as.take bs.length = bs) ↔ as = whole bs gs := by
  rw [fits_iff gs bs.length as hb hl hok]
  constructor
  · rintro ⟨e1, e2⟩
    rw [e2] at e1
    have v := vals_head bs gs
    unfold vals at v
    rw [v] at e1
    exact List.tail_eq_of_cons_eq e1
  · intro e
    have t : as.take bs.length = bs := by
      rw [e]
      exact whole_take bs gs
    refine ⟨?_, t⟩
    rw [t]
    have v := vals_head bs gs
    unfold vals at v
    rw [v, e]
/-! ### all rows of so many bits -/
theorem longer_in : ∀ {rs : List (List Int)} {t : List Int}, t ∈ longer rs ↔ ∃ r ∈ rs, t = r ++ [0] ∨ t = r ++ [1]
  | [], t => ⟨fun h => absurd h List.not_mem_nil, fun ⟨_, h, _⟩ => absurd h List.not_mem_nil⟩
  | r :: rs, t => by
    rw [longer_cons, List.mem_cons, List.mem_cons, longer_in]
    constructor
    · rintro (h | h | ⟨s, m, h⟩)
      · exact ⟨r, List.mem_cons_self, .inl h⟩
      · exact ⟨r, List.mem_cons_self, .inr h⟩
      · exact ⟨s, List.mem_cons_of_mem _ m, h⟩
    · rintro ⟨s, m, h⟩
      rcases List.mem_cons.mp m with rfl | m
      · rcases h with h | h
        · exact .inl h
        · exact .inr (.inl h)
      · exact .inr (.inr ⟨s, m, h⟩)
theorem longer_nd : ∀ {rs : List (List Int)}, rs.Nodup → (longer rs).Nodup
  | [], _ => List.nodup_nil
  | r :: rs, h => by
    rw [List.nodup_cons] at h
    rw [longer_cons, List.nodup_cons, List.nodup_cons, List.mem_cons, longer_in, longer_in]
    have no : ∀ z : Int, ¬ ∃ s ∈ rs, r ++ [z] = s ++ [0] ∨ r ++ [z] = s ++ [1] := fun z ⟨s, m, e⟩ => by
      have : r = s := by
        rcases e with e | e <;> exact List.append_inj_left' e rfl
      rw [this] at h
      exact h.1 m
    refine ⟨fun e => ?_, no 1, longer_nd h.2⟩
    rcases e with e | e
    · have z := List.append_inj_right' e rfl
      cases z
    · exact no 0 e
theorem rowsM_nd : ∀ n : Nat, (rowsM n).Nodup
  | 0 => by
    show [([] : List Int)].Nodup
    rw [List.nodup_cons]
    exact ⟨List.not_mem_nil, List.nodup_nil⟩
  | n + 1 => longer_nd (rowsM_nd n)
theorem rowsM_all : ∀ (n : Nat) (r : List Int), r.length = n → B01 r → r ∈ rowsM n
  | 0, r, h, _ => by
    rw [List.length_eq_zero_iff.mp h]
    exact List.mem_cons_self
  | n + 1, r, h, hb => by
    show r ∈ longer (rowsM n)
    have hne : r ≠ [] := fun e => by
      rw [e] at h
      cases h
    have e := List.dropLast_concat_getLast hne
    have hd : B01 r.dropLast := fun z hz => hb z (List.dropLast_subset r hz)
    have hl := hb _ (List.getLast_mem hne)
    have hm := rowsM_all n r.dropLast (by rw [List.length_dropLast, h]; rfl) hd
    rw [longer_in]
    refine ⟨r.dropLast, hm, ?_⟩
    rcases hl with q | q
    · rw [q] at e
      exact .inl e.symm
    · rw [q] at e
      exact .inr e.symm
theorem filter_one {p : List Int → Bool} {w : List Int} : ∀ {l : List (List Int)}, l.Nodup → w ∈ l → (∀ r ∈ l, p r = true ↔ r = w) → l.filter p = [w]
  | [], _, h, _ => by cases h
  | r :: l, nd, h, hp => by
    rw [List.nodup_cons] at nd
    by_cases e : r = w
    · rw [List.filter_cons_of_pos ((hp r List.mem_cons_self).mpr e), e]
      have none : l.filter p = [] := by
        rw [List.filter_eq_nil_iff]
        intro s m q
        have := (hp s (List.mem_cons_of_mem _ m)).mp q
        rw [this, ← e] at m
        exact nd.1 m
      rw [none]
    · have hr : ¬ p r = true := fun q => e ((hp r List.mem_cons_self).mp q)
      rw [List.filter_cons_of_neg hr]
      rcases List.mem_cons.mp h with q | q
      · exact absurd q.symm e
      · exact filter_one nd.2 q fun s m => hp s (List.mem_cons_of_mem _ m)
end Cn
namespace Abk
open PySem PySem.Spec PyProof.Rows L2 PySem.W
/-! ## sorted(row, key=abs) and set(row) of a list of ints, any law -/
def ab1 (i : Int) : Int := if i < 0 then -i else i
def byAbs (ns : List Int) : List Int := ns.mergeSort fun a b => decide (ab1 a ≤ ab1 b)
def tSortAbs (K : PySem.W.Frag) (ta : TE) : TE := fun σ H Q => ta σ H fun v H1 => ∃ (a : Addr) (ns : List Int), v = V.ref a ∧ SqL K H1 a (ns.map V.int) ∧ ∀ p, H1 p = none → Q (.ref p) (upd H1 p (.lst ((byAbs ns).map V.int)))
def IsI (v : Value) (z : Int) : Prop := ∃ t, v = .int z t
theorem isI_each : ∀ {us : List Value} {ns : List Int}, Vals (ns.map V.int) us → EachIs IsI us ns
  | us, [], h => by
    obtain rfl := Vals.zero h
    exact .nil
  | us, n :: ns, h => by
    cases h with
    | cons r t => exact .cons r (isI_each t)
theorem each_vals : ∀ {us : List Value} {ns : List Int}, EachIs IsI us ns → Vals (ns.map V.int) us
  | _, _, .nil => .nil
  | _, _, .cons r t => .cons r (each_vals t)
section
variable {X : Cx}
theorem sorted_abs {pins : List (Addr × Obj)} {s : Shared} {σ : L2.St} {H : Hp} {a : Addr} {ns : List Int} {Q : VK} {k : Nat} (hr : Room k X.A) (I : Inv X pins σ H s) (hs : SqL X.K H a (ns.map V.int)) (q : ∀ p, H p = none → Q (.ref p) (upd H p (.lst ((byAbs ns).map V.int)))) :
    wpAny (model X.prog X.w) X.A (call (.builtin "sorted") [.ref a] [(Str.ofString "key", .builtin "abs")]) (EP X pins σ Q) X.xe s := by
  obtain ⟨its, rv, hl, hz⟩ := I.list hs
  have e := isI_each rv
  have hz' : ns.length ≤ sizeLine := by rwa [List.length_map] at hz
  refine sorted_key_data (b := false) (fun z : Int => .int (ab1 z)) hl.isList e (AllAlike.of fun _ _ => by simp [alike]) (Sortable.others fun _ => ⟨by simp, by simp⟩) hz' (fun z _ => ?_) (ksk_s1 _ _) (fun _ => ksk_l1 _ _) (fun _ => ksk_t4 _ _)
    (fun v z hv _ h tk kp => ?_) fun out c h' tk kp fr hD hol eo => ?_
  · have := hr.units
    show X.A.units + 2 + 0 < cLine
    omega
  · obtain ⟨t, rfl⟩ := hv
    exact call_abs_int fun u tk' => ⟨h, tk', rfl, fun _ _ e => e, .int _ _⟩
  · rw [dataLe_int ab1] at eo
    have hlen : ((byAbs ns).map V.int).length ≤ sizeLine := by
      rw [List.length_map]
      show (ns.mergeSort _).length ≤ _
      rw [List.length_mergeSort]
      exact hz'
    exact ⟨.ref _, upd H (s.heap.objs.size + 1) (.lst ((byAbs ns).map V.int)), I.laid (t' := tk) kp (Nat.le_succ _) ⟨hlen, out, c, each_vals eo, hD⟩, rfl, q _ (I.hok.fresh (Nat.le_succ _))⟩
variable {x y : Str} {p pos p2 kpos : Pos} {e : Expr} {t : TE} {k : Nat}
theorem pe_sortAbs (hr : Room k X.A) (hg : Gl X x) (hm : X.mg x = none) (hv : bootBuiltins x = some (.builtin "sorted")) (ha : PE X e t) (hg2 : Gl X y) (hm2 : X.mg y = none) (hv2 : bootBuiltins y = some (.builtin "abs")) (hn : x ≠ "__name__" := by decide) (hdb : (x == ("__debug__" : Str)) = false := by decide)
    (hn2 : y ≠ "__name__" := by decide) (hdb2 : (y == ("__debug__" : Str)) = false := by decide)
    (hs : starEach [e] X.env = (false, eval e X.env) :: starEach [] X.env := by rfl) (he : backTo pos (starEach [e] X.env) = (false, eval e X.env) :: backTo pos (starEach [] X.env) := by rfl) (hpl : (backTo pos (starEach [e] X.env)).any (·.1) = false := by rfl)
    (hall : (backToKw pos (keywordEach [⟨some "key", .Name y p2, kpos⟩] X.env)).all (·.1.isSome) = true := by rfl) (hnone : (backToKw pos (keywordEach [⟨some "key", .Name y p2, kpos⟩] X.env)).any (·.1.isNone) = false := by rfl) (hks : (backToKw pos (keywordEach [⟨some "key", .Name y p2, kpos⟩] X.env)).filterMap (·.1) = [Str.ofString "key"] := by rfl) :
    PE X (.Call (.Name x p) [e] [⟨some "key", .Name y p2, kpos⟩] pos) (tSortAbs X.K t) := by
  refine ⟨fun pins s σ H Q I h => ?_⟩
  refine wpAny_Call_Name_kw (ld_blt I hg hm hv ?_ hn hdb)
  have pa : PA X [e] (tCons t tNil) := pa_cons ha pa_nil hs
  have h' : tCons t tNil σ H (fun vs H1 => match vs with | [v] => ∃ (a : Addr) (ns : List Int), v = V.ref a ∧ SqL X.K H1 a (ns.map V.int) ∧ ∀ p, H1 p = none → Q (.ref p) (upd H1 p (.lst ((byAbs ns).map V.int))) | _ => False) := h
  refine PyProof.Rows.callWith_kw (thn (pa.run pos pins s σ H _ I h') fun us s1 ⟨vs, H1, I1, r1, q1⟩ => ?_) he hpl hall hnone
  rw [hks]
  show wpAny _ _ (evalAll ((do let v ← eval (.Name y p2) X.env; standAt pos; pure v) :: [])) _ _ s1
  refine wpAny_evalAll_cons (wpAny_bind (ld_blt I1 hg2 hm2 hv2 (wpAny_bind (wpAny_standAt (wpAny_pure ?_))) hn2 hdb2))
  refine wpAny_evalAll_nil ?_
  match vs, r1, q1 with
  | [v], r1, ⟨a, ns, e1, hq, q2⟩ =>
    subst e1
    obtain ⟨u, rfl, ru⟩ := vals1 r1
    cases ru
    exact sorted_abs hr I1 hq q2
end
end Abk
namespace Dq
open PySem PySem.Spec PyProof.Rows L2
/-! ## a dict by a comprehension with two `for`s and no `if`, its keys ints and texts -/
section
variable {kx vx tg iter tg1 iter1 : Expr} {scope : Scope} {pos : Pos}
abbrev two (kx vx tg iter tg1 iter1 : Expr) (scope : Scope) (pos : Pos) : Expr := .DictComp kx vx [⟨tg, iter, [], 0⟩, ⟨tg1, iter1, [], 0⟩] scope pos
theorem turn_out (it acc : Value) (env : Env) : compTurn (two kx vx tg iter tg1 iter1 scope pos) 0 it acc env = (do
      standAt iter.pos
      match ← pyNext it with
      | none => pure (.done .next)
      | some v =>
        letOwnedTupleGo tg it v
        assign tg env v
        let x ← eval iter1 env
        standAt iter1.pos
        let x ← foldedSetIterable iter1 env x
        let _ ← runOwn (.compStart (two kx vx tg iter tg1 iter1 scope pos) 1 (← holding [x] (pyIter x)) acc env) env
        again (.compLoop (two kx vx tg iter tg1 iter1 scope pos) 0 it acc env)) := by rfl
theorem turn_in (it : Value) (D : Addr) (env : Env) : compTurn (two kx vx tg iter tg1 iter1 scope pos) 1 it (.ref D) env = (do
      standAt iter1.pos
      match ← pyNext it with
      | none => pure (.done .next)
      | some v =>
        letOwnedTupleGo tg1 it v
        assign tg1 env v
        (do
          let kv ← eval kx env
          let vv ← holding [kv] (eval vx env)
          standAt { kx.pos with endLine := vx.pos.endLine, endCol := vx.pos.endCol }
          holding [kv, vv] (dictSet D kv vv))
        again (.compLoop (two kx vx tg iter tg1 iter1 scope pos) 1 it (.ref D) env)) := by rfl
end
section
variable {prog : Program} {w : World} {A : Around} {R : Result → Shared → Prop} {s : Shared} {kx vx tg iter tg1 iter1 : Expr} {scope : Scope} {pos : Pos} {it : Value} {D : Addr} {env : Env}
theorem loop_out (fold : ∀ x, foldedSetIterable iter1 env x = pure x) (I : Nat → Shared → Prop)
    (turn : ∀ n s, I n s → wpAny (model prog w) A (pyNext it) (fun r s1 => match r with
      | none => R (.ok .next) s1
      | some v => wpAny (model prog w) A (letOwnedTupleGo tg it v) (fun _ s2 => wpAny (model prog w) A (assign tg env v) (fun _ s3 =>
          wpAny (model prog w) A (eval iter1 env) (fun x s4 => wpAny (model prog w) A (pyIter x) (fun it1 s5 =>
            codeAny (model prog w) A (.compStart (two kx vx tg iter tg1 iter1 scope pos) 1 it1 (.ref D) env) (fun r s6 => match r with
              | .ok _ => ∃ m, m < n ∧ I m s6
              | .error _ => False) s5)
          (notedBy (model prog w) A env fun e s6 => R (.error e) s6) s4) (notedBy (model prog w) A env fun e s6 => R (.error e) s6) s3) (notedBy (model prog w) A env fun e s6 => R (.error e) s6) s2) (notedBy (model prog w) A env fun e s6 => R (.error e) s6) s1)
      (notedBy (model prog w) A env fun e s6 => R (.error e) s6) s)
    (n : Nat) (h : I n s) : codeAny (model prog w) A (.compLoop (two kx vx tg iter tg1 iter1 scope pos) 0 it (.ref D) env) R s := by
  refine codeAny_loop rfl I (fun n s hI => ?_) n h
  change wpAny _ A ((compTurn (two kx vx tg iter tg1 iter1 scope pos) 0 it (.ref D) env).onRaise (fun x => do noteFrame x env; theTreesLotGoes x)) _ _ s
  refine wpAny_noted ?_
  rw [turn_out]
  refine wpAny_bind (wpAny_standAt (wpAny_bind (wpAny_mono (turn n s hI) (fun r s1 h1 => ?_) fun _ _ z => z)))
  cases r with
  | none => exact wpAny_pure h1
  | some v =>
    refine wpAny_bind (wpAny_mono h1 (fun _ s2 h2 => wpAny_bind (wpAny_mono h2 (fun _ s3 h3 => ?_) fun _ _ z => z)) fun _ _ z => z)
    refine wpAny_bind (wpAny_mono h3 (fun x s4 h4 => ?_) fun _ _ z => z)
    refine wpAny_bind (wpAny_standAt (wpAny_bind (wpAny_of_eq (fold x) (wpAny_bind (wpAny_holding (wpAny_mono h4 (fun it1 s5 h5 => ?_) fun _ _ z => z))))))
    refine wpAny_bind (wpAny_runOwn ?_)
    rw [Around.mark_none]
    refine codeAny_mono h5 fun r s6 hr => ?_
    cases r with
    | ok f =>
      first
        | exact wpAny_pure ⟨rfl, hr⟩
        | exact wpAny_bind (wpAny_pure (wpAny_pure ⟨rfl, hr⟩))
    | error e => exact hr.elim
theorem loop_in (I : Nat → Shared → Prop)
    (turn : ∀ n s, I n s → wpAny (model prog w) A (pyNext it) (fun r s1 => match r with
      | none => R (.ok .next) s1
      | some v => wpAny (model prog w) A (letOwnedTupleGo tg1 it v) (fun _ s2 => wpAny (model prog w) A (assign tg1 env v) (fun _ s3 =>
          wpAny (model prog w) A (eval kx env) (fun kv s4 => wpAny (model prog w) A (eval vx env) (fun vv s5 => wpAny (model prog w) A (dictSet D kv vv) (fun _ s6 => ∃ m, m < n ∧ I m s6) (notedBy (model prog w) A env fun e s9 => R (.error e) s9) s5) (notedBy (model prog w) A env fun e s9 => R (.error e) s9) s4) (notedBy (model prog w) A env fun e s9 => R (.error e) s9) s3) (notedBy (model prog w) A env fun e s9 => R (.error e) s9) s2) (notedBy (model prog w) A env fun e s9 => R (.error e) s9) s1) (notedBy (model prog w) A env fun e s9 => R (.error e) s9) s)
    (n : Nat) (h : I n s) : codeAny (model prog w) A (.compLoop (two kx vx tg iter tg1 iter1 scope pos) 1 it (.ref D) env) R s := by
  refine codeAny_loop rfl I (fun n s hI => ?_) n h
  change wpAny _ A ((compTurn (two kx vx tg iter tg1 iter1 scope pos) 1 it (.ref D) env).onRaise (fun x => do noteFrame x env; theTreesLotGoes x)) _ _ s
  refine wpAny_noted ?_
  rw [turn_in]
  refine wpAny_bind (wpAny_standAt (wpAny_bind (wpAny_mono (turn n s hI) (fun r s1 h1 => ?_) fun _ _ z => z)))
  cases r with
  | none => exact wpAny_pure h1
  | some v =>
    refine wpAny_bind (wpAny_mono h1 (fun _ s2 h2 => wpAny_bind (wpAny_mono h2 (fun _ s3 h3 => ?_) fun _ _ z => z)) fun _ _ z => z)
    exact wpAny_bind (wpAny_bind (wpAny_mono h3 (fun kv s4 h4 => wpAny_bind (wpAny_holding (wpAny_mono h4 (fun vv s5 h5 => wpAny_bind (wpAny_standAt (wpAny_holding (wpAny_mono h5 (fun _ s6 h6 => wpAny_pure ⟨rfl, h6⟩) fun _ _ z => z)))) fun _ _ z => z))) fun _ _ z => z))
theorem start_in (h0 : codeAny (model prog w) A (.compLoop (two kx vx tg iter tg1 iter1 scope pos) 1 it (.ref D) env) R s)
    (h : wpAny (model prog w) A (pyIter it) (fun it2 s2 => codeAny (model prog w) A (.compLoop (two kx vx tg iter tg1 iter1 scope pos) 1 it2 (.ref D) env) R s2) (notedBy (model prog w) A env fun x s2 => R (.error x) s2) s) :
    codeAny (model prog w) A (.compStart (two kx vx tg iter tg1 iter1 scope pos) 1 it (.ref D) env) R s := by
  refine codeAny_of_tree ?_
  change wpAny _ _ ((compStart (two kx vx tg iter tg1 iter1 scope pos) 1 it (.ref D) env).onRaise (fun x => do noteFrame x env; standAt theWindowsPlace)) _ _ s
  refine wpAny_notedAt ?_
  unfold compStart
  change wpAny _ _ (ask >>= _) _ _ s
  refine wpAny_bind (wpAny_askSetting (wpAny_ite ?_))
  split
  · first
      | exact wpAny_bind (wpAny_pure (wpAny_pure (And.intro rfl h0)))
      | exact wpAny_pure (And.intro rfl h0)
  · first
      | exact wpAny_bind (wpAny_rule (wpAny_bind (wpAny_standAt (wpAny_bind (wpAny_mono h (fun it2 s2 z => wpAny_pure (And.intro rfl z)) fun _ _ x => x)))))
      | (refine wpAny_bind (wpAny_rule ?_); change wpAny _ _ (standAt iter1.pos >>= _) _ _ s; exact wpAny_bind (wpAny_standAt (wpAny_bind (wpAny_mono h (fun it2 s2 z => wpAny_pure (And.intro rfl z)) fun _ _ x => x))))
end
/-- {k: v for tg in iter for tg1 in iter1}: D the new dict; inner: the names of the second target -/
def tDq (wi : TI) (g : TG) (wi1 : TI) (g1 : TG) (tk tv : TE) (own inner : List Nat) : TE := fun σ H Q => wi σ H fun J H1 => ∀ D, H1 D = none → ∃ W : Nat → Nat → Hp → Prop, (∃ m, W 0 m (upd H1 D (.dK []))) ∧ ∀ n m H2, W n m H2 →
  (J.stop n H2 ∧ Q (.ref D) H2) ∨ (J.go n H2 ∧ ∃ Nx : Hp → Prop, (∀ H3, Nx H3 → ∃ m', m' < m ∧ W (n + 1) m' H3) ∧ ∀ x H3, J.yld n H2 x H3 → g x (wipe σ own) H3 fun σ2 H4 => wipe σ2 own = wipe σ own ∧
    wi1 σ2 H4 fun J1 H5 => ∃ W1 : Nat → Nat → Hp → Prop, (∃ m1, W1 0 m1 H5) ∧ ∀ n1 m1 H6, W1 n1 m1 H6 →
      (J1.stop n1 H6 ∧ Nx H6) ∨ (J1.go n1 H6 ∧ ∃ Nx1 : Hp → Prop, (∀ H7, Nx1 H7 → ∃ m', m' < m1 ∧ W1 (n1 + 1) m' H7) ∧ ∀ x1 H7, J1.yld n1 H6 x1 H7 → g1 x1 (wipe σ2 inner) H7 fun σ3 H8 => wipe σ3 inner = wipe σ2 inner ∧
        tk σ3 H8 fun y H9 => tv σ3 H9 fun z HA => ∃ kvs k, y = kV k ∧ HA D = some (.dK kvs) ∧ kvs.length < sizeLine ∧ Nx1 (upd HA D (.dK (putK kvs k z)))))
section
variable {X : Cx} {kx vx tg iter tg1 iter1 : Expr} {scope : Scope} {own : List (Str × Nat)} {inner : List Nat} {pos : Pos} {wi wi1 : TI} {g g1 : TG} {tk tv : TE}
theorem pe_dq (calm : X.calm = true) (nd : X.N.Nodup) (hi : PI X tg iter wi) (ok : BlkOk X.N X.env.scope scope own) (sub : ∀ i ∈ inner, i ∈ own.map (·.2))
    (hg : ∀ (s0 : Shared) (H0 : Hp) (C : Addr) (cs : List (Str × Addr)) (fp : List Addr), PG (X.blk s0 H0 scope (compEnvC scope cs C X.env) fp) tg g)
    (hi1 : ∀ (s0 : Shared) (H0 : Hp) (C : Addr) (cs : List (Str × Addr)) (fp : List Addr), PI (X.blk s0 H0 scope (compEnvC scope cs C X.env) fp) tg1 iter1 wi1)
    (hg1 : ∀ (s0 : Shared) (H0 : Hp) (C : Addr) (cs : List (Str × Addr)) (fp : List Addr), PG (X.blk s0 H0 scope (compEnvC scope cs C X.env) fp) tg1 g1)
    (hk : ∀ (s0 : Shared) (H0 : Hp) (C : Addr) (cs : List (Str × Addr)) (fp : List Addr), PE (X.blk s0 H0 scope (compEnvC scope cs C X.env) fp) kx tk)
    (hv : ∀ (s0 : Shared) (H0 : Hp) (C : Addr) (cs : List (Str × Addr)) (fp : List Addr), PE (X.blk s0 H0 scope (compEnvC scope cs C X.env) fp) vx tv)
    (fold : ∀ x, foldedSetIterable iter X.env x = pure x := by intro _; rfl) (fold1 : ∀ env x, foldedSetIterable iter1 env x = pure x := by intro _ _; rfl) :
    PE X (two kx vx tg iter tg1 iter1 scope pos) (tDq wi g wi1 g1 tk tv (own.map (·.2)) inner) := by
  refine ⟨fun pins sh σ H Q I h => ?_⟩
  rw [arm_eval_DictComp]
  have free : ∀ y ∈ scope.names, y.2 = .free → ∃ c, X.env.cells.lookup y.1 = some c := fun y hy e => (ok.free y hy e).elim (fun k => I.ok.has _ (.inl k)) fun k => I.ok.has _ (.inr k)
  refine wpAny_comprehension_free rfl fold (closure_ok free) ok.kind (fun y hy e => by rw [ok.uniq y hy, e]) (thn (hi.run pins sh σ H _ I h) fun _ _ hx => thn hx fun iv s2 h2 => ?_)
  obtain ⟨it, fp, tn, J, H2, rfl, I2, T, st2, f2, q⟩ := h2
  refine wpAny_newObj_type (newEnv_comp ?_)
  generalize eD : s2.heap.objs.size = D
  have freshD : H2 D = none := I2.hok.fresh (Nat.le_of_eq eD)
  obtain ⟨W, ⟨m0, w0⟩, turn⟩ := q D freshD
  generalize e3 : ({ s2 with heap := s2.heap.push { cls := .type "dict", data := .dict #[] } } : Shared) = s3
  have heap3 : s3.heap = s2.heap.push { cls := .type "dict", data := .dict #[] } := by rw [← e3]
  have I3 : Inv X pins σ (upd H2 D (.dK [])) s3 := by
    have := I2.laid (t' := s2.toks) (a := s2.heap.objs.size) (o := .dK []) (fun _ _ z => Heap.get?_push_of_some _ z) (Nat.le_refl _) (dk_empty s2.heap I2.big)
    rw [eD] at this
    rw [← e3]
    exact this
  have below : ∀ b ∈ fp, b < s2.heap.objs.size := fun b hb => let ⟨_, z, _⟩ := T.obj _ _ st2 b hb; Heap.lt_size z
  have f3 : ∀ b ∈ fp, FpOk X pins (upd H2 D (.dK [])) b ∧ b < s3.heap.objs.size := fun b hb => by
    have lt := below b hb
    refine ⟨⟨?_, (f2 b hb).2⟩, ?_⟩
    · rw [upd_ne (fun z => by rw [z, ← eD] at lt; exact Nat.lt_irrefl _ lt)]
      exact (f2 b hb).1
    · rw [heap3, Heap.size_push]
      exact Nat.lt_succ_of_lt lt
  have none3 : ∀ b ∈ fp, upd H2 D (.dK []) b = none := fun b hb => (f3 b hb).1.1
  have st3 : tn 0 s3.heap := T.keep _ _ _ st2 fun b _ o z => by
    rw [heap3]
    exact Heap.get?_push_of_some _ z
  have I4 := block_start I3 ok nd f3
  have pg := hg s3 (upd H2 D (.dK [])) s3.heap.objs.size (cellsFrom (s3.heap.objs.size + 1) scope.names (cloFrom X.env.cells scope.names [])) fp
  have pi1 := hi1 s3 (upd H2 D (.dK [])) s3.heap.objs.size (cellsFrom (s3.heap.objs.size + 1) scope.names (cloFrom X.env.cells scope.names [])) fp
  have pg1 := hg1 s3 (upd H2 D (.dK [])) s3.heap.objs.size (cellsFrom (s3.heap.objs.size + 1) scope.names (cloFrom X.env.cells scope.names [])) fp
  have pk := hk s3 (upd H2 D (.dK [])) s3.heap.objs.size (cellsFrom (s3.heap.objs.size + 1) scope.names (cloFrom X.env.cells scope.names [])) fp
  have pv := hv s3 (upd H2 D (.dK [])) s3.heap.objs.size (cellsFrom (s3.heap.objs.size + 1) scope.names (cloFrom X.env.cells scope.names [])) fp
  change codeAny _ _ (.compStart _ 0 (.ref it) (.ref D) (compEnvC scope (cellsFrom (s3.heap.objs.size + 1) scope.names (cloFrom X.env.cells scope.names [])) s3.heap.objs.size X.env))
    (compPost _ _ X.xe none (EP X pins σ Q) (.ref D) s3.heap.objs.size) ({ s3 with heap := pushCells (s3.heap.push { cls := .type "dict", data := .dict #[] }) scope.names } : Shared)
  generalize ec : compEnvC scope (cellsFrom (s3.heap.objs.size + 1) scope.names (cloFrom X.env.cells scope.names [])) s3.heap.objs.size X.env = ce at I4 pg pi1 pg1 pk pv ⊢
  have place : ce.locals = s3.heap.objs.size := by
    rw [← ec]
    rfl
  generalize upd H2 D (.dK []) = H3 at I3 I4 pg pi1 pg1 pk pv w0 none3 f3
  generalize e4 : ({ s3 with heap := pushCells (s3.heap.push { cls := .type "dict", data := .dict #[] }) scope.names } : Shared) = s4 at I4 ⊢
  have st4 : tn 0 s4.heap := T.keep _ _ _ st3 fun b _ o z => by
    rw [← e4]
    exact pushCells_keeps _ _ _ _ (Heap.get?_push_of_some _ z)
  have own4 : ∀ {σ' : L2.St} {G : Hp} {s' : Shared}, Inv (X.blk s3 H3 scope ce fp) [] σ' G s' → (∀ b ∈ fp, G b = none) → ∀ b ∈ fp, FpOk (X.blk s3 H3 scope ce fp) [] G b := fun {σ' G s'} I' hn b hb =>
    ⟨hn b hb, (I'.ok.exf b hb).1, I'.ok.exfs b hb, .inl hb, fun x c e => (I'.ok.exf b hb).2 x c e, fun p hp => (List.not_mem_nil hp).elim⟩
  have leave : ∀ (s6 : Shared) (H5 : Hp) (σ' : L2.St), Inv (X.blk s3 H3 scope ce fp) [] σ' H5 s6 → Q (.ref D) H5 → compPost (model X.prog X.w) X.A X.xe none (EP X pins σ Q) (.ref D) s3.heap.objs.size (.ok .next) s6 := fun s6 H5 σ' I6 done => by
    have back : Inv X pins σ H5 s6 := I3.call' (ch := fp) I6.os I6.base I6.hok I6.bare fun b hb => ⟨(f3 b hb).1.2.2.2.1, (f3 b hb).1.2.1, (f3 b hb).1.2.2.2.2.1, (f3 b hb).1.2.2.2.2.2⟩
    have off : H5 s3.heap.objs.size = none := by
      rw [← place]
      exact I6.free
    obtain ⟨m, ns, _⟩ := I6.loc
    have ns : s6.heap.Ns ce.locals m := ns
    rw [place] at ns
    obtain ⟨k0, k1, k2, k3, k4, k5⟩ := I3.fpOk (Nat.le_refl _) off
    exact ⟨m, ns, fun h7 sb => ⟨.ref D, H5, back.turned (t' := s6.toks) (fun b o hb z => (sb.2 b hb).trans z) k0 k1 k3 k4 k5, rfl, done⟩⟩
  have loop : codeAny (model X.prog X.w) X.A (.compLoop (two kx vx tg iter tg1 iter1 scope pos) 0 (.ref it) (.ref D) ce) (compPost (model X.prog X.w) X.A X.xe none (EP X pins σ Q) (.ref D) s3.heap.objs.size) s4 := by
    refine loop_out (fold1 ce) (fun m s5 => ∃ n G, Inv (X.blk s3 H3 scope ce fp) [] (wipe σ (own.map (·.2))) G s5 ∧ tn n s5.heap ∧ (∀ b ∈ fp, G b = none) ∧ W n m G) (fun m s5 hI => ?_) m0 ⟨0, H3, I4, st4, none3, w0⟩
    obtain ⟨n, G, I5, st5, n5, w5⟩ := hI
    rcases turn n m G w5 with ⟨halt, done⟩ | ⟨goes, Nx, less, step⟩
    · refine thnF (T.done (X.blk s3 H3 scope ce fp) rfl rfl rfl calm n [] s5 _ G (fun _ _ => False) I5 (own4 I5 n5) st5 halt) fun r s6 ⟨hr, I6⟩ => ?_
      subst hr
      exact leave s6 G _ I6 done
    refine thnF (T.item (X.blk s3 H3 scope ce fp) rfl rfl rfl calm n [] s5 _ G (fun _ _ => False) I5 (own4 I5 n5) st5 goes) fun r s6 ⟨u, hr, more⟩ => ?_
    subst hr
    refine thnF more fun _ s7 ⟨x, G7, I7, r7, y7, st7, n7⟩ => ?_
    refine thnF (pg.run _ s7 _ G7 x u _ (I7.pinned (own4 I7 n7) (T.obj _ _ st7)) r7 (step x G7 y7)) fun _ s8 ⟨σ8, G8, I8, slots, q8⟩ => ?_
    -- what the outer turn leaves, from slots that know what the block knew
    have next : ∀ {σ9 : L2.St} {s9 : Shared} {G9 : Hp}, Inv (X.blk s3 H3 scope ce fp) ([] ++ pinsAt fp s7.heap) σ9 G9 s9 → (wipe σ (own.map (·.2))).length = σ9.length → (∀ (j : Nat) v, (wipe σ (own.map (·.2)))[j]? = some (some v) → σ9[j]? = some (some v)) → Nx G9 →
        ∃ m', m' < m ∧ ∃ n' G', Inv (X.blk s3 H3 scope ce fp) [] (wipe σ (own.map (·.2))) G' s9 ∧ tn n' s9.heap ∧ (∀ b ∈ fp, G' b = none) ∧ W n' m' G' := fun {σ9 s9 G9} I9 len keep nx => by
      obtain ⟨m', lt, w9⟩ := less G9 nx
      have pin : ∀ b ∈ fp, ∀ o, s7.heap.get? b = some o → s9.heap.get? b = some o ∧ G9 b = none := fun b hb o z => by
        have := I9.pin (b, o) (List.mem_append_right _ (List.mem_append_right _ (mem_pinsAt hb z)))
        exact ⟨this.1, this.2.1⟩
      refine ⟨m', lt, n + 1, G9, (I9.unpinned (pins := [])).weak len keep, T.keep _ _ _ st7 fun b hb o z => (pin b hb o z).1, fun b hb => ?_, w9⟩
      obtain ⟨o, z, _⟩ := T.obj _ _ st7 b hb
      exact (pin b hb o z).2
    have len8 : (wipe σ (own.map (·.2))).length = σ8.length := by rw [← slots, wipe_length]
    have keep9 : ∀ (j : Nat) v, (wipe σ (own.map (·.2)))[j]? = some (some v) → (wipe σ8 inner)[j]? = some (some v) := fun j v z => by
      rw [← slots] at z
      obtain ⟨z1, z2⟩ := wipe_some z
      rw [wipe_out fun y => z2 (sub j y)]
      exact z1
    refine thnF (pi1.run _ s8 σ8 G8 _ I8 q8) fun _ _ hx => thnF hx fun iv1 s9 h9 => ?_
    obtain ⟨it1, fp1, tn1, J1, G9, rfl, I9, T1, st9, f9, W1, ⟨m1, w1⟩, turn1⟩ := h9
    have own9 : ∀ {G : Hp}, (∀ b ∈ fp1, G b = none) → ∀ b ∈ fp1, FpOk (X.blk s3 H3 scope ce fp) ([] ++ pinsAt fp s7.heap) G b := fun hn b hb => ⟨hn b hb, (f9 b hb).2⟩
    have inside : codeAny (model X.prog X.w) X.A (.compLoop (two kx vx tg iter tg1 iter1 scope pos) 1 (.ref it1) (.ref D) ce)
        (fun r s' => match r with
          | .ok _ => ∃ m', m' < m ∧ ∃ n' G', Inv (X.blk s3 H3 scope ce fp) [] (wipe σ (own.map (·.2))) G' s' ∧ tn n' s'.heap ∧ (∀ b ∈ fp, G' b = none) ∧ W n' m' G'
          | .error _ => False) s9 := by
      refine loop_in (fun k sA => ∃ j GA, Inv (X.blk s3 H3 scope ce fp) ([] ++ pinsAt fp s7.heap) (wipe σ8 inner) GA sA ∧ tn1 j sA.heap ∧ (∀ b ∈ fp1, GA b = none) ∧ W1 j k GA) (fun k sA hA => ?_) m1
        ⟨0, G9, I9.weak (wipe_length _ _) (fun j v z => (wipe_some z).1), st9, fun b hb => (f9 b hb).1, w1⟩
      obtain ⟨j, GA, IA, stA, nA, wA⟩ := hA
      rcases turn1 j k GA wA with ⟨halt1, nx1⟩ | ⟨goes1, Nx1, less1, step1⟩
      · refine thnF (T1.done (X.blk s3 H3 scope ce fp) rfl rfl rfl calm j _ sA (wipe σ8 inner) GA (fun _ _ => False) IA (own9 nA) stA halt1) fun r sB ⟨hr, IB⟩ => ?_
        subst hr
        exact next IB (len8.trans (wipe_length σ8 inner).symm) keep9 nx1
      refine thnF (T1.item (X.blk s3 H3 scope ce fp) rfl rfl rfl calm j _ sA (wipe σ8 inner) GA (fun _ _ => False) IA (own9 nA) stA goes1) fun r sB ⟨u1, hr, more1⟩ => ?_
      subst hr
      refine thnF more1 fun _ sC ⟨x1, GC, IC, rC, yC, stC, nC⟩ => ?_
      refine thnF (pg1.run _ sC (wipe σ8 inner) GC x1 u1 _ (IC.pinned (own9 nC) (T1.obj _ _ stC)) rC (step1 x1 GC yC)) fun _ sD ⟨σD, GD, ID, slotsD, qD⟩ => ?_
      have next1 : ∀ {sE : Shared} {GE : Hp}, Inv (X.blk s3 H3 scope ce fp) (([] ++ pinsAt fp s7.heap) ++ pinsAt fp1 sC.heap) σD GE sE → Nx1 GE → ∃ m', m' < k ∧ ∃ j' G', Inv (X.blk s3 H3 scope ce fp) ([] ++ pinsAt fp s7.heap) (wipe σ8 inner) G' sE ∧ tn1 j' sE.heap ∧ (∀ b ∈ fp1, G' b = none) ∧ W1 j' m' G' := fun {sE GE} IE nx => by
        obtain ⟨m', lt, wE⟩ := less1 GE nx
        have pin : ∀ b ∈ fp1, ∀ o, sC.heap.get? b = some o → sE.heap.get? b = some o ∧ GE b = none := fun b hb o z => by
          have := IE.pin (b, o) (List.mem_append_right _ (List.mem_append_right _ (mem_pinsAt hb z)))
          exact ⟨this.1, this.2.1⟩
        refine ⟨m', lt, j + 1, GE, IE.unpinned.weak (by rw [← slotsD, wipe_length]) (fun j v z => by rw [← slotsD] at z; exact (wipe_some z).1), T1.keep _ _ _ stC fun b hb o z => (pin b hb o z).1, fun b hb => ?_, wE⟩
        obtain ⟨o, z, _⟩ := T1.obj _ _ stC b hb
        exact (pin b hb o z).2
      refine thnF (pk.run _ sD σD GD _ ID qD) fun kr sE ⟨y, GE, IE, rE, qE⟩ => thnF (pv.run _ sE σD GE _ IE qE) fun vr sF ⟨z, GF, IF, rF, kvs, ky, ey, hD, sz, nx⟩ => ?_
      subst ey
      exact d_dictSet (X := X.blk s3 H3 scope ce fp) IF hD sz rE rF fun sG IG => next1 IG nx
    exact start_in inside (T1.self X.A 0 _ _ _ st9 inside)
  exact codeAny_compStart_dict loop (T.self X.A 0 _ _ _ st4 loop)
end
/-- what a walk gives, whatever is done in a turn -/
theorem walk_W {J : It} {n : Nat} {G : Hp → Prop} {Y : Nat → Hp → V → Hp → Prop} (w : Walk J n G Y) {B : (Hp → Prop) → V → Hp → Prop} {S : Hp} {E : Hp → Prop} (Pv : Nat → Hp → Prop) (start : Pv 0 S) (stays : ∀ i H, i ≤ n → Pv i H → G H)
    (turn : ∀ i x H H', i < n → Pv i H → Y i H x H' → B (Pv (i + 1)) x H') (fin : ∀ H, Pv n H → E H) :
    ∃ W : Nat → Nat → Hp → Prop, (∃ m, W 0 m S) ∧ ∀ i m H2, W i m H2 → (J.stop i H2 ∧ E H2) ∨ (J.go i H2 ∧ ∃ Nx : Hp → Prop, (∀ H3, Nx H3 → ∃ m', m' < m ∧ W (i + 1) m' H3) ∧ ∀ x H3, J.yld i H2 x H3 → B Nx x H3) := by
  refine ⟨fun i m H2 => m = n - i ∧ i ≤ n ∧ Pv i H2, ⟨n, rfl, Nat.zero_le _, start⟩, fun i m H2 hw => ?_⟩
  obtain ⟨rfl, hi, pv⟩ := hw
  have ok := stays i H2 hi pv
  rcases Nat.lt_or_ge i n with lt | ge
  · exact .inr ⟨w.goes i H2 lt ok, Pv (i + 1), fun H3 p3 => ⟨n - (i + 1), by omega, rfl, lt, p3⟩, fun x H3 y => turn i x H2 H3 lt pv (w.yields i H2 x H3 lt ok y)⟩
  · obtain rfl : i = n := by omega
    exact .inl ⟨w.stops H2 ok, fin H2 pv⟩
end Dq
namespace Dt
open PySem PySem.Spec PyProof.Rows L2
/-! ## a dict by a comprehension, its keys tuples of ints and texts -/
/-- what is written at a tuple key -/
theorem put_key {Y : Cx} {pn : List (Addr × Obj)} {st : L2.St} {G : Hp} {sh : Shared} {Er : Value → Shared → Prop} {d kt : Addr} {es : List (List Key × V)} {ks : List Key} {val : V} {kr vr : Value} {R : Unit → Shared → Prop} (hu : Y.A.units < cLine)
    (I : Inv Y pn st G sh) (hd : G d = some (.dT es)) (ht : G kt = some (.tup (ks.map kV))) (sz : es.length < sizeLine) (rk : RelV (.ref kt) kr) (rv : RelV val vr)
    (go : ∀ s', Inv Y pn st (upd G d (.dT (putK es ks val))) s' → R () s') : wpAny (model Y.prog Y.w) Y.A (dictSet d kr vr) R Er sh := by
  cases (show kr = Value.ref kt from rk)
  obtain ⟨z, sysd, xs, rel, dd⟩ := dt_of I.hok hd
  have room : xs.length ≤ sizeLine := by
    rw [← Paired.length rel]
    exact z
  have more : (putK es ks val).length ≤ sizeLine := by
    have := length_putK es ks val
    omega
  refine wpAny_dictSet_heap (hsz := room) (by exact hu) (key_of I.hok ht) dd fun h1 d1 same => go _ ?_
  obtain ⟨q, e1, ep, hq, f2, f3, f4, _, f5⟩ := d1
  refine d_write I (by rw [hd]; exact True.intro) same ⟨q, hq⟩ ⟨more, sysd, _, (rel.put ks ht rv).keeps fun c ys ec => ?_, q, e1, ep, hq, f2, f3, f4, f5⟩
  rw [upd_ne (ne_of ec hd (fun y => nomatch y))]
  exact ec
/-- one turn behind the target: the test, the key, the value, the entry -/
def turnT (tt : TT) (tk tv : TE) (D : Addr) (Nx : Hp → Prop) (σ : L2.St) (H : Hp) : Prop := tt σ H fun b H1 =>
  if b = true then tk σ H1 fun y H2 => tv σ H2 fun z H3 => ∃ es ks kt, y = .ref kt ∧ H3 kt = some (.tup (ks.map kV)) ∧ H3 D = some (.dT es) ∧ es.length < sizeLine ∧ Nx (upd H3 D (.dT (putK es ks z))) else Nx H1
/-- {k: v for target in iter if ..}: D the new dict, W by the turn and what is left -/
def tDt (wi : TI) (g : TG) (tt : TT) (tk tv : TE) (own : List Nat) : TE := fun σ H Q => wi σ H fun J H1 => ∀ D, H1 D = none → ∃ W : Nat → Nat → Hp → Prop, (∃ m, W 0 m (upd H1 D (.dT []))) ∧ ∀ n m H2, W n m H2 →
  (J.stop n H2 ∧ Q (.ref D) H2) ∨ (J.go n H2 ∧ ∃ Nx : Hp → Prop, (∀ H3, Nx H3 → ∃ m', m' < m ∧ W (n + 1) m' H3) ∧ ∀ x H3, J.yld n H2 x H3 → g x (wipe σ own) H3 fun σ2 H4 => wipe σ2 own = wipe σ own ∧ turnT tt tk tv D Nx σ2 H4)
section
variable {X : Cx} {kx vx tg iter : Expr} {ifs : List Expr} {scope : Scope} {own : List (Str × Nat)} {pos : Pos} {wi : TI} {g : TG} {tt : TT} {tk tv : TE}
theorem dt_core {pins : List (Addr × Obj)} {sh : Shared} {σ : L2.St} {H : Hp} {Q : VK} {pz : Pos} {use : Option (Value → Sem Unit)} {Qf : Value → Shared → Prop} (hu : X.A.units < cLine) (calm : X.calm = true) (nd : X.N.Nodup) (I : Inv X pins σ H sh) (hi : PI X tg iter wi)
    (ok : BlkOk X.N X.env.scope scope own)
    (hg : ∀ (s0 : Shared) (H0 : Hp) (C : Addr) (cs : List (Str × Addr)) (fp : List Addr), PG (X.blk s0 H0 scope (compEnvC scope cs C X.env) fp) tg g)
    (ht : ∀ (s0 : Shared) (H0 : Hp) (C : Addr) (cs : List (Str × Addr)) (fp : List Addr), PTs (X.blk s0 H0 scope (compEnvC scope cs C X.env) fp) ifs tt)
    (hk : ∀ (s0 : Shared) (H0 : Hp) (C : Addr) (cs : List (Str × Addr)) (fp : List Addr), PE (X.blk s0 H0 scope (compEnvC scope cs C X.env) fp) kx tk)
    (hv : ∀ (s0 : Shared) (H0 : Hp) (C : Addr) (cs : List (Str × Addr)) (fp : List Addr), PE (X.blk s0 H0 scope (compEnvC scope cs C X.env) fp) vx tv)
    (fold : ∀ x, foldedSetIterable iter X.env x = pure x) (h : tDt wi g tt tk tv (own.map (·.2)) σ H Q)
    (post : ∀ D C s6 m G, Inv X pins σ G s6 → Q (.ref D) G → s6.heap.Ns C m → FpOk X pins G C → compPost (model X.prog X.w) X.A X.xe use Qf (.ref D) C (.ok .next) s6) :
    wpAny (model X.prog X.w) X.A (comprehension (.DictComp kx vx [⟨tg, iter, ifs, 0⟩] scope pos) scope X.env pz newDict false (eval iter X.env) use) Qf X.xe sh := by
  have free : ∀ y ∈ scope.names, y.2 = .free → ∃ c, X.env.cells.lookup y.1 = some c := fun y hy e => (ok.free y hy e).elim (fun k => I.ok.has _ (.inl k)) fun k => I.ok.has _ (.inr k)
  refine wpAny_comprehension_free (use := use) rfl fold (closure_ok free) ok.kind (fun y hy e => by rw [ok.uniq y hy, e]) (thn (hi.run pins sh σ H _ I h) fun _ _ hx => thn hx fun iv s2 h2 => ?_)
  obtain ⟨it, fp, tn, J, H2, rfl, I2, T, st2, f2, q⟩ := h2
  refine wpAny_newObj_type (newEnv_comp ?_)
  -- the new dict and its place
  generalize eD : s2.heap.objs.size = D
  have freshD : H2 D = none := I2.hok.fresh (Nat.le_of_eq eD)
  obtain ⟨W, ⟨m0, w0⟩, turn⟩ := q D freshD
  generalize e3 : ({ s2 with heap := s2.heap.push { cls := .type "dict", data := .dict #[] } } : Shared) = s3
  have heap3 : s3.heap = s2.heap.push { cls := .type "dict", data := .dict #[] } := by rw [← e3]
  have I3 : Inv X pins σ (upd H2 D (.dT [])) s3 := by
    have := I2.laid (t' := s2.toks) (a := s2.heap.objs.size) (o := .dT []) (fun _ _ z => Heap.get?_push_of_some _ z) (Nat.le_refl _) (dt_empty s2.heap I2.big)
    rw [eD] at this
    rw [← e3]
    exact this
  have below : ∀ b ∈ fp, b < s2.heap.objs.size := fun b hb => let ⟨_, z, _⟩ := T.obj _ _ st2 b hb; Heap.lt_size z
  have f3 : ∀ b ∈ fp, FpOk X pins (upd H2 D (.dT [])) b ∧ b < s3.heap.objs.size := fun b hb => by
    have lt := below b hb
    refine ⟨⟨?_, (f2 b hb).2⟩, ?_⟩
    · rw [upd_ne (fun z => by rw [z, ← eD] at lt; exact Nat.lt_irrefl _ lt)]
      exact (f2 b hb).1
    · rw [heap3, Heap.size_push]
      exact Nat.lt_succ_of_lt lt
  have none3 : ∀ b ∈ fp, upd H2 D (.dT []) b = none := fun b hb => (f3 b hb).1.1
  have st3 : tn 0 s3.heap := T.keep _ _ _ st2 fun b _ o z => by
    rw [heap3]
    exact Heap.get?_push_of_some _ z
  have I4 := block_start I3 ok nd f3
  have pg := hg s3 (upd H2 D (.dT [])) s3.heap.objs.size (cellsFrom (s3.heap.objs.size + 1) scope.names (cloFrom X.env.cells scope.names [])) fp
  have pt := ht s3 (upd H2 D (.dT [])) s3.heap.objs.size (cellsFrom (s3.heap.objs.size + 1) scope.names (cloFrom X.env.cells scope.names [])) fp
  have pk := hk s3 (upd H2 D (.dT [])) s3.heap.objs.size (cellsFrom (s3.heap.objs.size + 1) scope.names (cloFrom X.env.cells scope.names [])) fp
  have pv := hv s3 (upd H2 D (.dT [])) s3.heap.objs.size (cellsFrom (s3.heap.objs.size + 1) scope.names (cloFrom X.env.cells scope.names [])) fp
  change codeAny _ _ (.compStart _ 0 (.ref it) (.ref D) (compEnvC scope (cellsFrom (s3.heap.objs.size + 1) scope.names (cloFrom X.env.cells scope.names [])) s3.heap.objs.size X.env))
    (compPost _ _ X.xe use Qf (.ref D) s3.heap.objs.size) ({ s3 with heap := pushCells (s3.heap.push { cls := .type "dict", data := .dict #[] }) scope.names } : Shared)
  generalize ec : compEnvC scope (cellsFrom (s3.heap.objs.size + 1) scope.names (cloFrom X.env.cells scope.names [])) s3.heap.objs.size X.env = ce at I4 pg pt pk pv ⊢
  have place : ce.locals = s3.heap.objs.size := by
    rw [← ec]
    rfl
  generalize upd H2 D (.dT []) = H3 at I3 I4 pg pt pk pv w0 none3 f3
  generalize e4 : ({ s3 with heap := pushCells (s3.heap.push { cls := .type "dict", data := .dict #[] }) scope.names } : Shared) = s4 at I4 ⊢
  have st4 : tn 0 s4.heap := T.keep _ _ _ st3 fun b _ o z => by
    rw [← e4]
    exact pushCells_keeps _ _ _ _ (Heap.get?_push_of_some _ z)
  have own4 : ∀ {σ' : L2.St} {G : Hp} {s' : Shared}, Inv (X.blk s3 H3 scope ce fp) [] σ' G s' → (∀ b ∈ fp, G b = none) → ∀ b ∈ fp, FpOk (X.blk s3 H3 scope ce fp) [] G b := fun {σ' G s'} I' hn b hb =>
    ⟨hn b hb, (I'.ok.exf b hb).1, I'.ok.exfs b hb, .inl hb, fun x c e => (I'.ok.exf b hb).2 x c e, fun p hp => (List.not_mem_nil hp).elim⟩
  -- behind the loop: the def's own slots again
  have leave : ∀ (s6 : Shared) (H5 : Hp) (σ' : L2.St), Inv (X.blk s3 H3 scope ce fp) [] σ' H5 s6 → Q (.ref D) H5 → compPost (model X.prog X.w) X.A X.xe use Qf (.ref D) s3.heap.objs.size (.ok .next) s6 := fun s6 H5 σ' I6 done => by
    have back : Inv X pins σ H5 s6 := I3.call' (ch := fp) I6.os I6.base I6.hok I6.bare fun b hb => ⟨(f3 b hb).1.2.2.2.1, (f3 b hb).1.2.1, (f3 b hb).1.2.2.2.2.1, (f3 b hb).1.2.2.2.2.2⟩
    have off : H5 s3.heap.objs.size = none := by
      rw [← place]
      exact I6.free
    obtain ⟨m, ns, _⟩ := I6.loc
    have ns : s6.heap.Ns ce.locals m := ns
    rw [place] at ns
    exact post D s3.heap.objs.size s6 m H5 back done ns (I3.fpOk (Nat.le_refl _) off)
  have loop : codeAny (model X.prog X.w) X.A (.compLoop (.DictComp kx vx [⟨tg, iter, ifs, 0⟩] scope pos) 0 (.ref it) (.ref D) ce) (compPost (model X.prog X.w) X.A X.xe use Qf (.ref D) s3.heap.objs.size) s4 := by
    refine compLoop_anyD (fun m s5 => ∃ n G, Inv (X.blk s3 H3 scope ce fp) [] (wipe σ (own.map (·.2))) G s5 ∧ tn n s5.heap ∧ (∀ b ∈ fp, G b = none) ∧ W n m G) (fun m s5 hI => ?_) m0 ⟨0, H3, I4, st4, none3, w0⟩
    obtain ⟨n, G, I5, st5, n5, w5⟩ := hI
    rcases turn n m G w5 with ⟨halt, done⟩ | ⟨goes, Nx, less, step⟩
    · refine thnF (T.done (X.blk s3 H3 scope ce fp) rfl rfl rfl calm n [] s5 _ G (fun _ _ => False) I5 (own4 I5 n5) st5 halt) fun r s6 ⟨hr, I6⟩ => ?_
      subst hr
      exact leave s6 G _ I6 done
    refine thnF (T.item (X.blk s3 H3 scope ce fp) rfl rfl rfl calm n [] s5 _ G (fun _ _ => False) I5 (own4 I5 n5) st5 goes) fun r s6 ⟨u, hr, more⟩ => ?_
    subst hr
    refine thnF more fun _ s7 ⟨x, G7, I7, r7, y7, st7, n7⟩ => ?_
    refine thnF (pg.run _ s7 _ G7 x u _ (I7.pinned (own4 I7 n7) (T.obj _ _ st7)) r7 (step x G7 y7)) fun _ s8 ⟨σ8, G8, I8, slots, q8⟩ => ?_
    -- what the turn leaves is the next one's beginning
    have next : ∀ {s9 : Shared} {G9 : Hp}, Inv (X.blk s3 H3 scope ce fp) ([] ++ pinsAt fp s7.heap) σ8 G9 s9 → Nx G9 → ∃ m', m' < m ∧ ∃ n' G', Inv (X.blk s3 H3 scope ce fp) [] (wipe σ (own.map (·.2))) G' s9 ∧ tn n' s9.heap ∧ (∀ b ∈ fp, G' b = none) ∧ W n' m' G' := fun {s9 G9} I9 nx => by
      obtain ⟨m', lt, w9⟩ := less G9 nx
      have pin : ∀ b ∈ fp, ∀ o, s7.heap.get? b = some o → s9.heap.get? b = some o ∧ G9 b = none := fun b hb o z => by
        have := I9.pin (b, o) (List.mem_append_right _ (List.mem_append_right _ (mem_pinsAt hb z)))
        exact ⟨this.1, this.2.1⟩
      have len : (wipe σ (own.map (·.2))).length = σ8.length := by rw [← slots, wipe_length]
      refine ⟨m', lt, n + 1, G9, (I9.unpinned (pins := [])).weak len (fun j v z => ?_), T.keep _ _ _ st7 fun b hb o z => (pin b hb o z).1, fun b hb => ?_, w9⟩
      · rw [← slots] at z
        exact (wipe_some z).1
      · obtain ⟨o, z, _⟩ := T.obj _ _ st7 b hb
        exact (pin b hb o z).2
    refine thnF (pt.run _ s8 σ8 G8 _ I8 q8) fun b s9 ⟨G9, I9, q9⟩ => ?_
    cases b with
    | false => exact next I9 q9
    | true =>
      refine thnF (pk.run _ s9 σ8 G9 _ I9 q9) fun kr sA ⟨y, GA, IA, rA, qA⟩ => thnF (pv.run _ sA σ8 GA _ IA qA) fun vr sB ⟨z, GB, IB, rB, es, ks, kt, ey, hkt, hD, sz, nx⟩ => ?_
      subst ey
      have rB' : RelV z vr := rB
      exact put_key (Y := X.blk s3 H3 scope ce fp) hu IB hD hkt sz rA rB' fun sC IC => next IC nx
  exact codeAny_compStart_dict loop (T.self X.A 0 _ _ _ st4 loop)
/-- as a value -/
theorem pe_dt (hu : X.A.units < cLine) (calm : X.calm = true) (nd : X.N.Nodup) (hi : PI X tg iter wi) (ok : BlkOk X.N X.env.scope scope own)
    (hg : ∀ (s0 : Shared) (H0 : Hp) (C : Addr) (cs : List (Str × Addr)) (fp : List Addr), PG (X.blk s0 H0 scope (compEnvC scope cs C X.env) fp) tg g)
    (ht : ∀ (s0 : Shared) (H0 : Hp) (C : Addr) (cs : List (Str × Addr)) (fp : List Addr), PTs (X.blk s0 H0 scope (compEnvC scope cs C X.env) fp) ifs tt)
    (hk : ∀ (s0 : Shared) (H0 : Hp) (C : Addr) (cs : List (Str × Addr)) (fp : List Addr), PE (X.blk s0 H0 scope (compEnvC scope cs C X.env) fp) kx tk)
    (hv : ∀ (s0 : Shared) (H0 : Hp) (C : Addr) (cs : List (Str × Addr)) (fp : List Addr), PE (X.blk s0 H0 scope (compEnvC scope cs C X.env) fp) vx tv)
    (fold : ∀ x, foldedSetIterable iter X.env x = pure x := by intro _; rfl) : PE X (.DictComp kx vx [⟨tg, iter, ifs, 0⟩] scope pos) (tDt wi g tt tk tv (own.map (·.2))) := by
  refine ⟨fun pins sh σ H Q I h => ?_⟩
  rw [arm_eval_DictComp]
  refine dt_core hu calm nd I hi ok hg ht hk hv fold h fun D C s6 m G back done ns fo => ?_
  obtain ⟨k0, k1, k2, k3, k4, k5⟩ := fo
  exact ⟨m, ns, fun h7 sb => ⟨.ref D, G, back.turned (t' := s6.toks) (fun b o hb z => (sb.2 b hb).trans z) k0 k1 k3 k4 k5, rfl, done⟩⟩
/-- the value of a local name, all on one row -/
theorem ps_setDt {i : Nat} {y : Str} {py ps : Pos} (hu : X.A.units < cLine) (calm : X.calm = true) (nd : X.N.Nodup) (hy : X.N[i]? = some y) (loc : X.env.scope.names.lookup y = some .local)
    (sw : swapsWith (.DictComp kx vx [⟨tg, iter, ifs, 0⟩] scope pos) (some (.Name y py)) ps.line X.env = pure true) (hi : PI X tg iter wi) (ok : BlkOk X.N X.env.scope scope own)
    (hg : ∀ (s0 : Shared) (H0 : Hp) (C : Addr) (cs : List (Str × Addr)) (fp : List Addr), PG (X.blk s0 H0 scope (compEnvC scope cs C X.env) fp) tg g)
    (ht : ∀ (s0 : Shared) (H0 : Hp) (C : Addr) (cs : List (Str × Addr)) (fp : List Addr), PTs (X.blk s0 H0 scope (compEnvC scope cs C X.env) fp) ifs tt)
    (hk : ∀ (s0 : Shared) (H0 : Hp) (C : Addr) (cs : List (Str × Addr)) (fp : List Addr), PE (X.blk s0 H0 scope (compEnvC scope cs C X.env) fp) kx tk)
    (hv : ∀ (s0 : Shared) (H0 : Hp) (C : Addr) (cs : List (Str × Addr)) (fp : List Addr), PE (X.blk s0 H0 scope (compEnvC scope cs C X.env) fp) vx tv)
    (fold : ∀ x, foldedSetIterable iter X.env x = pure x := by intro _; rfl) : PS X (.Assign [.Name y py] (.DictComp kx vx [⟨tg, iter, ifs, 0⟩] scope pos) ps) (tAsg (tDt wi g tt tk tv (own.map (·.2))) (gName i)) := by
  refine ⟨fun pins sh σ H E I h => ?_⟩
  rw [exec_Assign_Name_used _ _ _ _ sw]
  refine wpAny_bind (wpAny_standAt (wpAny_bind ?_))
  change wpAny _ X.A (do let _ ← comprehension (.DictComp kx vx [⟨tg, iter, ifs, 0⟩] scope pos) scope X.env (firstIterPos [⟨tg, iter, ifs, 0⟩] pos) newDict false (eval iter X.env) (some (assign (.Name y py) X.env))) _ _ sh
  have h : tDt wi g tt tk tv (own.map (·.2)) σ H (fun x G => gName i x σ G E.nx) := h
  refine wpAny_bind (thn (dt_core (Qf := fun _ s' => SP X pins E .next s') hu calm nd I hi ok hg ht hk hv fold h fun D C s6 m G back done ns fo => ?_) fun _ s' z => wpAny_pure (wpAny_pure z))
  change wpAny _ _ (assign (.Name y py) X.env (.ref D)) _ _ _
  obtain ⟨k0, k1, k2, k3, k4, k5⟩ := fo
  refine wpAny_assign_Name (store_ok2 (v := V.ref D) back nd hy (.inl loc) rfl (fun s7 I7 ⟨a, sb, ha⟩ => ?_) (.inr loc))
  have ne : C ≠ a := ha.elim (fun z => by rw [z]; exact k1) fun z e => k4 y a z e.symm
  exact ⟨m, ns.sameBut sb ne, fun h8 s8 => ⟨_, G, I7.turned (t' := s7.toks) (fun b o hb z => (s8.2 b hb).trans z) k0 k1 k3 k4 k5, done⟩⟩
theorem sw_dict {y : Str} {py : Pos} {gens : List Comprehension} {row : Nat} {env : Env} (hk : env.scope.kind = .function) (hy : env.scope.names.lookup y = some .local) (hl : (py.line == pos.line) = true)
    (no : (scope.names.any fun (n, k) => n == y && (k == .local || k == .cell)) = false) : swapsWith (.DictComp kx vx gens scope pos) (some (.Name y py)) row env = pure true := by
  have e1 : env.kindOf y = some .local := hy
  have e2 : env.blockKind = .function := by
    unfold Env.blockKind
    rw [hk]
    rfl
  unfold swapsWith
  simp only [e1, e2, no, Expr.pos, hl]
  rfl
end
section
variable {J : It} {n : Nat} {G : Hp → Prop} {Y : Nat → Hp → V → Hp → Prop}
/-- .. over any walk -/
theorem dt_it (w : Walk J n G Y) {g : TG} {tt : TT} {tk tv : TE} {own : List Nat} {σ : L2.St} {H1 : Hp} {D : Addr} {Qd : Hp → Prop} (Pv : Nat → Hp → Prop) (start : Pv 0 (upd H1 D (.dT []))) (stays : ∀ i H, i ≤ n → Pv i H → G H)
    (turn : ∀ i x H H', i < n → Pv i H → Y i H x H' → g x (wipe σ own) H' fun σ2 H2 => wipe σ2 own = wipe σ own ∧ turnT tt tk tv D (Pv (i + 1)) σ2 H2) (fin : ∀ H, Pv n H → Qd H) :
    ∃ W : Nat → Nat → Hp → Prop, (∃ m, W 0 m (upd H1 D (.dT []))) ∧ ∀ i m H2, W i m H2 →
      (J.stop i H2 ∧ Qd H2) ∨ (J.go i H2 ∧ ∃ Nx : Hp → Prop, (∀ H3, Nx H3 → ∃ m', m' < m ∧ W (i + 1) m' H3) ∧ ∀ x H3, J.yld i H2 x H3 → g x (wipe σ own) H3 fun σ2 H4 => wipe σ2 own = wipe σ own ∧ turnT tt tk tv D Nx σ2 H4) := by
  refine ⟨fun i m H2 => m = n - i ∧ i ≤ n ∧ Pv i H2, ⟨n, rfl, Nat.zero_le _, start⟩, fun i m H2 hw => ?_⟩
  obtain ⟨rfl, hi, pv⟩ := hw
  have ok := stays i H2 hi pv
  rcases Nat.lt_or_ge i n with lt | ge
  · exact .inr ⟨w.goes i H2 lt ok, Pv (i + 1), fun H3 p3 => ⟨n - (i + 1), by omega, rfl, lt, p3⟩, fun x H3 y => turn i x H2 H3 lt pv (w.yields i H2 x H3 lt ok y)⟩
  · obtain rfl : i = n := by omega
    exact .inl ⟨w.stops H2 ok, fin H2 pv⟩
end
end Dt
namespace Dk
open PySem PySem.Spec PyProof.Rows L2
/-! ## x = {k: v for a in s}: a local, keys ints and texts, all on one row -/
theorem ps_setDc {X : Cx} {kx vx tg iter : Expr} {ifs : List Expr} {scope : Scope} {own : List (Str × Nat)} {pos : Pos} {wi : TI} {g : TG} {tt : TT} {tk tv : TE} {i : Nat} {y : Str} {py ps : Pos} (calm : X.calm = true) (nd : X.N.Nodup) (hy : X.N[i]? = some y) (loc : X.env.scope.names.lookup y = some .local)
    (sw : swapsWith (.DictComp kx vx [⟨tg, iter, ifs, 0⟩] scope pos) (some (.Name y py)) ps.line X.env = pure true) (hi : PI X tg iter wi) (ok : BlkOk X.N X.env.scope scope own)
    (hg : ∀ (s0 : Shared) (H0 : Hp) (C : Addr) (cs : List (Str × Addr)) (fp : List Addr), PG (X.blk s0 H0 scope (compEnvC scope cs C X.env) fp) tg g)
    (ht : ∀ (s0 : Shared) (H0 : Hp) (C : Addr) (cs : List (Str × Addr)) (fp : List Addr), PTs (X.blk s0 H0 scope (compEnvC scope cs C X.env) fp) ifs tt)
    (hk : ∀ (s0 : Shared) (H0 : Hp) (C : Addr) (cs : List (Str × Addr)) (fp : List Addr), PE (X.blk s0 H0 scope (compEnvC scope cs C X.env) fp) kx tk)
    (hv : ∀ (s0 : Shared) (H0 : Hp) (C : Addr) (cs : List (Str × Addr)) (fp : List Addr), PE (X.blk s0 H0 scope (compEnvC scope cs C X.env) fp) vx tv)
    (fold : ∀ x, foldedSetIterable iter X.env x = pure x := by intro _; rfl) : PS X (.Assign [.Name y py] (.DictComp kx vx [⟨tg, iter, ifs, 0⟩] scope pos) ps) (tAsg (tDc wi g tt tk tv (own.map (·.2))) (gName i)) := by
  refine ⟨fun pins sh σ H E I h => ?_⟩
  rw [exec_Assign_Name_used _ _ _ _ sw]
  refine wpAny_bind (wpAny_standAt (wpAny_bind ?_))
  change wpAny _ X.A (do let _ ← comprehension (.DictComp kx vx [⟨tg, iter, ifs, 0⟩] scope pos) scope X.env (firstIterPos [⟨tg, iter, ifs, 0⟩] pos) newDict false (eval iter X.env) (some (assign (.Name y py) X.env))) _ _ sh
  have h : tDc wi g tt tk tv (own.map (·.2)) σ H (fun x G => gName i x σ G E.nx) := h
  refine wpAny_bind (thn (dc_core (Qf := fun _ s' => SP X pins E .next s') calm nd I hi ok hg ht hk hv fold h fun D C s6 m G back done ns fo => ?_) fun _ s' z => wpAny_pure (wpAny_pure z))
  change wpAny _ _ (assign (.Name y py) X.env (.ref D)) _ _ _
  obtain ⟨k0, k1, k2, k3, k4, k5⟩ := fo
  refine wpAny_assign_Name (store_ok2 (v := V.ref D) back nd hy (.inl loc) rfl (fun s7 I7 ⟨a, sb, ha⟩ => ?_) (.inr loc))
  have ne : C ≠ a := ha.elim (fun z => by rw [z]; exact k1) fun z e => k4 y a z e.symm
  exact ⟨m, ns.sameBut sb ne, fun h8 s8 => ⟨_, G, I7.turned (t' := s7.toks) (fun b o hb z => (s8.2 b hb).trans z) k0 k1 k3 k4 k5, done⟩⟩
end Dk
namespace Rvt
open PySem PySem.Spec PyProof.Rows L2
/-! ## t[::-1] of a tuple -/
theorem adjust_rev (n : Nat) : Builtin.Slice.sliceAdjust none none (-1) (n : Int) = ((n : Int) - 1, -1) := by
  unfold Builtin.Slice.sliceAdjust
  simp
theorem places_rev (n : Nat) : Builtin.Slice.slicePlaces ((n : Int) - 1) (-1) (-1) = n := by
  unfold Builtin.Slice.slicePlaces
  have h1 : ¬ ((-1 : Int) > 0) := by omega
  simp only [h1, if_false, Int.neg_neg, Int.ediv_one]
  split <;> omega
theorem back_of (l : List Value) : ∀ n : Nat, n ≤ l.length → ((List.range n).filterMap fun (m : Nat) => l[(((n : Int) - 1) + (m : Int) * (-1)).toNat]?) = (l.take n).reverse
  | 0, _ => rfl
  | n + 1, h => by
    have lt : n < l.length := h
    rw [List.range_succ_eq_map, List.filterMap_cons, show ((((n + 1 : Nat) : Int) - 1) + ((0 : Nat) : Int) * (-1)).toNat = n by omega, List.getElem?_eq_getElem lt, List.filterMap_map, List.take_succ, List.getElem?_eq_getElem lt, List.reverse_append]
    show l[n] :: _ = l[n] :: _
    rw [← back_of l n (Nat.le_of_lt lt)]
    refine congrArg (l[n] :: ·) (congrFun (congrArg List.filterMap (funext fun m => ?_)) _)
    show l[((((n + 1 : Nat) : Int) - 1) + ((m + 1 : Nat) : Int) * (-1)).toNat]? = _
    rw [show ((((n + 1 : Nat) : Int) - 1) + ((m + 1 : Nat) : Int) * (-1)) = ((n : Int) - 1) + (m : Int) * (-1) by omega]
theorem pick_rev (xs : Array Value) : ((List.range xs.size).filterMap fun (m : Nat) => xs[(((xs.size : Int) - 1) + (m : Int) * (-1)).toNat]?).toArray = xs.toList.reverse.toArray := by
  have h := back_of xs.toList xs.size (by simp)
  rw [List.take_of_length_le (by simp)] at h
  rw [← h]
  refine congrArg List.toArray (congrFun (congrArg List.filterMap (funext fun m => ?_)) _)
  rw [Array.getElem?_toList]
section
variable {prog : Program} {w : World} {A : Around} {E : Value → Shared → Prop} {s : Shared}
theorem applied_rev {sl : Addr} {vs : Value} {n : Nat} {Q : Int × Int × Nat → Shared → Prop} (hs : s.heap.IsSliceOf sl .none .none vs) (ps : IsPart vs (some (-1))) (h : Q ((n : Int) - 1, -1, n) s) :
    wpAny (model prog w) A (Builtin.Slice.sliceApplied (.ref sl) (pure (n : Int))) Q E s := by
  obtain ⟨os, hos, hcs, hds⟩ := id hs
  unfold Builtin.Slice.sliceApplied Builtin.Slice.sliceFields
  refine wpAny_bind (wpAny_bind (wpAny_field hos hds (x := .none) rfl (wpAny_bind (wpAny_field hos hds (x := .none) rfl (wpAny_bind (wpAny_field hos hds (x := vs) rfl (wpAny_pure ?_)))))))
  refine wpAny_bind (HT.slicePart_ ps ?_)
  change wpAny _ _ (if ((-1 : Int) == 0) = true then _ else _) _ _ s
  rw [if_neg (by decide)]
  refine wpAny_bind (HT.slicePart_ .none (wpAny_bind (HT.slicePart_ .none (wpAny_bind (wpAny_pure ?_)))))
  change wpAny _ _ (match Builtin.Slice.sliceAdjust none none (-1) (n : Int) with | (lo, hi) => pure (lo, (-1 : Int), Builtin.Slice.slicePlaces lo hi (-1))) _ _ s
  rw [adjust_rev]
  change wpAny _ _ (pure ((n : Int) - 1, (-1 : Int), Builtin.Slice.slicePlaces ((n : Int) - 1) (-1) (-1))) _ _ s
  rw [places_rev]
  exact wpAny_pure h
theorem item_rev {t sl : Addr} {items : Array Value} {vs : Value} {Q : Value → Shared → Prop} (ht : IsTup s.heap t items) (hs : s.heap.IsSliceOf sl .none .none vs) (ps : IsPart vs (some (-1)))
    (h : Q (.ref s.heap.objs.size) { s with heap := s.heap.push { cls := .type "tuple", data := .seq items.toList.reverse.toArray } }) (hsz : items.size ≤ sizeLine) : wpAny (model prog w) A (getItem (.ref t) (.ref sl)) Q E s := by
  have fits : sizeOk (.seq items.toList.reverse.toArray) := by
    show items.toList.reverse.toArray.size ≤ sizeLine
    rw [List.size_toArray, List.length_reverse, Array.length_toList]
    exact hsz
  obtain ⟨os, hos, hcs, hds⟩ := id hs
  have tS : s.TypeIs (.ref sl) "slice" := ⟨os, hos, hcs⟩
  unfold getItem
  try with_reducible refine wpAny_holding ?_
  first | refine wpAny_bind (wpAny_pure ?_) | skip
  refine wpAny_bind (wpAny_sequenceKey ht.typeIs (by decide) ?_)
  refine wpAny_bind (wpAny_callSpecial?_slot (name := Str.ofString "__getitem__") ht.typeIs PyProof.Rows.slot_tuple_getitem (wpAny_call_entry PyProof.Rows.slot_tuple_getitem ht.typeIs PySem.F.entry_tuple_getitem ?_ (PySem.F.args_tuple_getitem_2 _ _)))
  change wpAny _ _ (Builtin.Tuple.tupleItemsOf (.ref t) >>= _) _ _ s
  refine wpAny_bind (tupleItemsOf_ ht ?_)
  refine wpAny_bind (wpAny_typeOf tS ?_)
  rw [if_pos (by decide)]
  refine wpAny_bind (applied_rev hs ps ?_)
  change wpAny _ _ (if (((items.size : Int) - 1) == 0 && (-1 : Int) == 1 && items.size == items.size) = true then _ else _) _ _ s
  rw [if_neg (by simp), pick_rev]
  first
    | exact wpAny_bind (m := Builtin.Tuple.tupleExact _) (wpAny_newObj_type (wpAny_pure ⟨_, rfl, wpAny_pure h⟩) fits)
    | exact wpAny_bind (m := Builtin.Tuple.tupleExact _) (wpAny_newObj_type (wpAny_bind (wpAny_pure (wpAny_pure ⟨_, rfl, wpAny_pure h⟩))) fits)
    | exact wpAny_bind (wpAny_bind (m := Builtin.Tuple.tupleExact _) (wpAny_newObj_type (wpAny_pure (wpAny_pure ⟨_, rfl, wpAny_pure h⟩)) fits))
    | exact wpAny_bind (wpAny_bind (m := Builtin.Tuple.tupleExact _) (wpAny_newObj_type (wpAny_pure ⟨_, rfl, wpAny_pure h⟩) fits))
end
def tRevT (K : PySem.W.Frag) (te : TE) : TE := fun σ H Q => te σ H fun x H1 => ∃ a xs, x = .ref a ∧ SqT K H1 a xs ∧ ∀ p, H1 p = none → Q (.ref p) (upd H1 p (.tup xs.reverse))
theorem pe_revT {X : Cx} {e : Expr} {te : TE} {k : Nat} {p1 p2 p3 pos : Pos} (he : PE X e te) : PE X (.Subscript e (.Slice none none (some (.UnaryOp .USub (.Constant (.int 1) k p1) p2)) p3) pos) (tRevT X.K te) := by
  refine ⟨fun pins s σ H Q I h => Subscript_ (thn (he.run pins s σ H _ I h) fun v s1 ⟨x, H1, I1, r1, a, xs, ex, hx, q⟩ => ?_)⟩
  subst ex
  cases r1
  have step : PO X (some (.UnaryOp .USub (.Constant (.int 1) k p1) p2)) (tPart (tUn (rU fun i => .int (-i)) (tC (.int 1)))) := po_some (pe_un un_neg pe_int)
  refine wpAny_Slice (thn (po_none.run pins s1 σ H1 (fun o G => o = none ∧ G = H1) I1 ⟨rfl, rfl⟩) fun vl s2 ⟨l, H2, I2, pl, el, e2⟩ => ?_)
  subst el e2
  refine thn (po_none.run pins s2 σ H2 (fun o G => o = none ∧ G = H2) I2 ⟨rfl, rfl⟩) fun vu s3 ⟨u, H3, I3, pu, eu, e3⟩ => ?_
  subst eu e3
  refine thn (step.run pins s3 σ H3 (fun o G => o = some (-1) ∧ G = H3) I3 ⟨1, rfl, -1, rfl, rfl, rfl⟩) fun vs s4 ⟨o, H4, I4, ps, eo, e4⟩ => ?_
  subst eo e4
  cases pl
  cases pu
  have I5 : Inv X pins σ H4 { s4 with heap := s4.heap.push { cls := .type "slice", data := .fields #[.none, .none, vs] } } := I4.kept (t' := s4.toks) fun b ob z => Heap.get?_push_of_some _ z
  obtain ⟨its, r, ht, hz⟩ := I5.tuple hx
  have hlen := r.length
  change wpAny (model X.prog X.w) X.A (subscriptTail e (.Slice none none (some (.UnaryOp .USub (.Constant (.int 1) k p1) p2)) p3) (.ref a) (.ref s4.heap.objs.size)) (EP X pins σ Q) X.xe { s4 with heap := s4.heap.push { cls := .type "slice", data := .fields #[.none, .none, vs] } }
  refine tail_any (ops := [.ref a, .ref s4.heap.objs.size]) ht.typeIs (PyProof.Rows.slot_tuple_getitem.lookup) ?_ (by with_unfolding_all rfl)
  refine item_rev ht (Heap.IsSliceOf.new _ .none .none vs) ps ?_ (by rw [List.size_toArray]; omega)
  refine ⟨.ref _, _, I5.laid (t' := s4.toks) (o := .tup xs.reverse) (fun b ob z => Heap.get?_push_of_some _ z) (Nat.le_refl _) ?_, rfl, q _ (I5.hok.fresh (Nat.le_refl _))⟩
  exact ⟨by rw [List.length_reverse]; exact hz, _, r.reverse, IsTup.new _ _⟩
end Rvt
namespace En
open PySem PySem.Spec PyProof.Rows L2
/-! ## enumerate(t), t a tuple -/
set_option maxHeartbeats 1000000 in
theorem new_meets {v : Value} {o : Obj} {G : Heap → Prop} (B : Begins v o G) :
    Meets (Builtin.«enumerate.__new__» ⟨[.type "enumerate", v], []⟩) (fun _ R s => G s.heap ∧ R (.ok (.ret (.ref (s.heap.push o).objs.size))) { s with heap := (s.heap.push o).push { cls := .type "enumerate", data := .fields #[.none, .bool false, .ref s.heap.objs.size, rawInt 0, .none, .none] } }) :=
  .of_wp fun prog w A R s h => by
    obtain ⟨hp, gs, dr, tk, os⟩ := s
    obtain ⟨hG, hR⟩ := h
    have sub := sub_enumerate
    have it : ∀ {A' : Around} {E Q : Value → Shared → Prop}, Q (.ref hp.objs.size) ⟨hp.push o, gs, dr, tk, os⟩ → wpAny (model prog w) A' (pyIter v) Q E ⟨hp, gs, dr, tk, os⟩ := fun q => B.iter prog w _ _ ⟨hp, gs, dr, tk, os⟩ _ hG q
    wp_walk using it
    refine wpAny_stack_any fun st => wpAny_pure ?_
    split
    · rename_i cl _ _ _ _ _
      cases (cl == Value.type "enumerate")
      all_goals
        wp_walk using it
        exact ⟨_, rfl, hR⟩
    · wp_walk using it
      exact ⟨_, rfl, hR⟩
section
variable {prog : Program} {w : World} {A : Around} {E : Value → Shared → Prop} {s : Shared}
theorem call_new {v : Value} {o : Obj} {G : Heap → Prop} {Q : Value → Shared → Prop} (B : Begins v o G) (hG : G s.heap)
    (h : ∀ h', IsEnum h' (s.heap.objs.size + 1) s.heap.objs.size 0 .none → h'.get? s.heap.objs.size = some o → (∀ b u, s.heap.get? b = some u → h'.get? b = some u) → Q (.ref (s.heap.objs.size + 1)) { s with heap := h' }) :
    wpAny (model prog w) A (call (.type "enumerate") [v]) Q E s := by
  refine callType_new F.called_enumerate (by decide) (F.typeCall_enumerate_1 _) (F.newCall_enumerate_1 _) (fun obj => F.args_object_init_2 obj _) F.entry_enumerate_new (new_meets B) ⟨hG, ?_⟩
  have size : (s.heap.push o).objs.size = s.heap.objs.size + 1 := Heap.size_push ..
  show _ ∧ _
  rw [size]
  have made : IsEnum ((s.heap.push o).push { cls := .type "enumerate", data := .fields #[.none, .bool false, .ref s.heap.objs.size, rawInt 0, .none, .none] }) (s.heap.objs.size + 1) s.heap.objs.size 0 .none := by
    have z := Heap.get?_push_size (s.heap.push o) (o := { cls := .type "enumerate", data := .fields #[.none, .bool false, .ref s.heap.objs.size, rawInt 0, .none, .none] }) rfl
    rw [size] at z
    exact z
  exact ⟨⟨_, made, rfl⟩, h _ made (Heap.get?_push_of_some _ (Heap.get?_push_size _ B.free)) fun b u q => Heap.get?_push_of_some _ (Heap.get?_push_of_some _ q)⟩
end
section
variable {prog : Program} {w : World} {A : Around} {E : Value → Shared → Prop} {s : Shared}
theorem next_end {e it a : Addr} {i : Nat} {c : Int} {items : Array Value} {old : Value} {Q : Option Value → Shared → Prop} (calm : A.handled = none) (he : IsEnum s.heap e it c old) (hi : s.heap.IsTupleIter it a i) (ht : s.heap.IsTuple a items) (none_left : items[i]? = none)
    (h : ∀ h', Heap.ExtBut it s.heap h' → Q none { s with heap := h' }) : wpAny (model prog w) A (pyNext (.ref e)) Q E s := by
  have ty : s.TypeIs (.ref e) "enumerate" := ⟨_, he, rfl⟩
  unfold pyNext
  refine wpAny_bind (wpAny_attempt (wpAny_callSpecial?_slot (name := Str.ofString "__next__") ty F.slot_enumerate_next (wpAny_call_entry F.slot_enumerate_next ty F.entry_enumerate_next ?_ (F.args_enumerate_next_1 _))))
  show wpAny _ _ (field (.ref e) 2 >>= _) _ _ _
  refine wpAny_bind (wpAny_field he rfl (x := .ref it) rfl (wpAny_bind (wpAny_nextOf_tuple_end calm hi ht none_left fun h' x ext stop => ?_)))
  obtain ⟨o, ho, hc⟩ := stop
  exact wpAny_bind (wpAny_isInstance (T := "StopIteration") (b := true) ⟨o, ho, hc⟩ isSubtype_stop (wpAny_pure (h _ ext)))
end
/-- the tuple at a, each item in a new pair with its place -/
def Iet (K : PySem.W.Frag) (a : Addr) : It :=
  ⟨fun i H => ∃ (xs : List V) (x : V), SqT K H a xs ∧ xs[i]? = some x, fun i H v H' => ∃ T x, v = .ref T ∧ H T = none ∧ H' = upd H T (.tup [.int (i : Nat), x]) ∧ ∀ xs, SqT K H a xs → xs[i]? = some x, fun i H => ∃ xs : List V, SqT K H a xs ∧ xs.length ≤ i⟩
theorem apart {s : Shared} {e it a : Addr} {c : Int} {old : Value} {i : Nat} {items : Array Value} (he : IsEnum s.heap e it c old) (hi : s.heap.IsTupleIter it a i) (ht : s.heap.IsTuple a items) : e ≠ it ∧ e ≠ a ∧ a ≠ it := by
  obtain ⟨oi, h1, h2, _⟩ := hi
  obtain ⟨ot, h3, h4, _⟩ := ht
  refine ⟨fun z => ?_, fun z => ?_, fun z => ?_⟩
  · rw [← z, he] at h1
    rw [← Option.some.inj h1] at h2
    exact absurd (Value.type.inj h2) (by decide)
  · rw [← z, he] at h3
    rw [← Option.some.inj h3] at h4
    exact absurd (Value.type.inj h4) (by decide)
  · rw [z, h1] at h3
    rw [← Option.some.inj h3, h2] at h4
    exact absurd (Value.type.inj h4) (by decide)
theorem turn {P : Program} {w : World} {K : PySem.W.Frag} {es : List Expr} {k : Nat} {pos : Pos} (a e it : Addr) :
    Turn P w K (.Tuple es k pos) (Iet K a) [e, it] e (fun i h => (∃ old, IsEnum h e it ((i : Nat) : Int) old) ∧ h.IsTupleIter it a i) where
  mem := List.mem_cons_self
  obj := fun i h st b hb => by
    obtain ⟨⟨old, he⟩, ⟨o, ho, hc, hd⟩⟩ := st
    rcases List.mem_cons.mp hb with rfl | hb
    · exact ⟨_, he, fun v q => nomatch q⟩
    · rw [List.mem_singleton.mp hb]
      exact ⟨o, ho, fun v q => by rw [hd] at q; cases q⟩
  keep := fun i h h' st kp => by
    obtain ⟨⟨old, he⟩, hi⟩ := st
    exact ⟨⟨old, kp e List.mem_cons_self _ he⟩, hi.at fun o q => kp it (List.mem_cons_of_mem _ (List.mem_singleton.mpr rfl)) o q⟩
  item := by
    rintro X rfl rfl rfl calm i pins s σ H E I fp ⟨⟨old, he⟩, hi⟩ ⟨xs, x, hq, hx⟩
    obtain ⟨its, rv, ht, _⟩ := I.tuple hq
    obtain ⟨u, hu, ru⟩ := rv.get hx
    obtain ⟨n1, n2, n3⟩ := apart he hi ht
    have le : e < s.heap.objs.size := Heap.lt_size he
    have li : it < s.heap.objs.size := by
      obtain ⟨_, q, _⟩ := hi
      exact Heap.lt_size q
    have hlt : i < its.toArray.size := by
      have z := (List.getElem?_eq_some_iff.mp hu).1
      simpa using z
    refine wpAny_pyNext_enum_itemD (Draws.tuple (A := X.A.in1) (I.ok.hd calm) it a n3 its.toArray) he ⟨hi, ht⟩ hlt n1 (by simp [n1, n2]) fun y h' tk hy out st made _ same => ?_
    have ey : y = u := by
      have z : its[i]? = some y := by simpa using hy
      rw [hu] at z
      exact (Option.some.inj z).symm
    subst ey
    refine ⟨_, rfl, wpAny_letOwnedTupleGo_enum (s := { s with heap := h', toks := tk + 1 }) out fun h2 he2 sb => ?_⟩
    have made2 : h2.get? s.heap.objs.size = some { cls := .type "tuple", data := .seq #[.int i tk, y] } := (sb.2 _ (Nat.ne_of_gt le)).trans made
    have new : ObjOk X.prog X.w (upd H s.heap.objs.size (.tup [.int (i : Nat), x])) h2 s.heap.objs.size (.tup [.int (i : Nat), x]) := ⟨by show 2 ≤ sizeLine; decide, [.int i tk, y], .cons ⟨_, rfl⟩ (.cons ru .nil), ⟨_, made2, rfl, _, rfl⟩⟩
    have I1 := I.turnedNew (t' := tk + 1) (ch := [e, it]) (fun b ob hb q => (sb.2 b fun z => hb (by simp [z])).trans (same b ob (fun z => hb (by simp [z])) (fun z => hb (by simp [z])) q)) fp (Nat.le_refl _) new
    refine ⟨.ref s.heap.objs.size, _, I1, rfl, ⟨_, x, rfl, I.hok.fresh (Nat.le_refl _), rfl, fun ys hy => by rw [I.tuple_inj hy hq]; exact hx⟩, ⟨⟨y, ?_⟩, st.1.at fun o q => (sb.2 it n1.symm).trans q⟩, fun b hb => ?_⟩
    · rw [show ((i + 1 : Nat) : Int) = (i : Int) + 1 by omega]
      exact he2
    · have hb2 : b < s.heap.objs.size := by
        rcases List.mem_cons.mp hb with rfl | hb
        · exact le
        · rw [List.mem_singleton.mp hb]
          exact li
      rw [upd_ne (Nat.ne_of_lt hb2)]
      exact (fp b hb).1
  done := by
    rintro X rfl rfl rfl calm i pins s σ H E I fp ⟨⟨old, he⟩, hi⟩ ⟨xs, hq, hx⟩
    obtain ⟨its, rv, ht, _⟩ := I.tuple hq
    obtain ⟨n1, n2, n3⟩ := apart he hi ht
    obtain ⟨f0, f1, f2, f3, f4, f5⟩ := fp it (List.mem_cons_of_mem _ (List.mem_singleton.mpr rfl))
    have hl := rv.length
    refine next_end (I.ok.hd calm) he hi ht (by simp; omega) fun h' eb => ⟨rfl, I.turned (t' := s.toks) (fun b o hb q => eb b o hb q) f0 f1 f3 f4 f5⟩
  self := fun A i s Q E st h => let ⟨⟨_, he⟩, _⟩ := st; wpAny_pyIter_enum he h
/-- for i, x in enumerate(t) -/
def iEnT (K : PySem.W.Frag) (ta : TA) : TI := fun σ H R => ta σ H fun vs H1 => ∃ a xs, vs = [.ref a] ∧ SqT K H1 a xs ∧ R (Iet K a) H1
theorem pi_enT {X : Cx} {e : Expr} {ta : TA} {p pos tpos : Pos} {es : List Expr} {k : Nat} (hg : Gl X "enumerate") (hm : X.mg "enumerate" = none) (ha : PA X [e] ta) (hs : starEach [e] X.env = [(false, eval e X.env)] := by rfl) :
    PI X (.Tuple es k tpos) (.Call (.Name "enumerate" p) [e] [] pos) (iEnT X.K ta) := by
  refine ⟨fun pins s σ H R I h => Call_ (ld_blt I hg hm boot_enumerate (PyProof.Rows.callWith_type1 (thn (ha.run pos pins s σ H _ I h) fun us s1 z => ?_) hs rfl))⟩
  obtain ⟨vs, H1, I1, r1, a, xs, rfl, hq, q⟩ := z
  obtain ⟨u, rfl, ru⟩ := vals1 r1
  have hu : u = Value.ref a := ru
  subst hu
  obtain ⟨its, rv, ht, _⟩ := I1.tuple hq
  refine call_new (begins_tuple a its.toArray) ht fun h' he hit same => wpAny_pyIter_enum he ?_
  have I2 := I1.kept (t' := s1.toks) same
  refine ⟨s1.heap.objs.size + 1, [s1.heap.objs.size + 1, s1.heap.objs.size], _, _, H1, rfl, I2, turn a (s1.heap.objs.size + 1) s1.heap.objs.size, ⟨⟨.none, he⟩, ⟨_, hit, rfl, rfl⟩⟩, fun b hb => ?_, q⟩
  have low : s1.heap.objs.size ≤ b := by
    rcases List.mem_cons.mp hb with rfl | hb
    · exact Nat.le_succ _
    · rw [List.mem_singleton.mp hb]
      exact Nat.le_refl _
  exact I1.fpOk low (I1.hok.fresh low)
theorem for_enT {K : PySem.W.Frag} {a : Addr} {xs : List V} {g : TG} {tb : TS} {D : Ends} {σ : L2.St} {H : Hp} (Pv : Nat → L2.St → Hp → Prop) (h0 : Pv 0 σ H) (hl : ∀ i σ H, i ≤ xs.length → Pv i σ H → SqT K H a xs)
    (hs : ∀ i x σ H T, xs[i]? = some x → Pv i σ H → H T = none → g (.ref T) σ (upd H T (.tup [.int (i : Nat), x])) fun σ2 H2 => tb { D with nx := Pv (i + 1), ct := Pv (i + 1), bk := D.nx } σ2 H2) (hd : ∀ σ H, Pv xs.length σ H → D.nx σ H) :
    ∃ W : Nat → Nat → L2.St → Hp → Prop, (∃ m, W 0 m σ H) ∧ ∀ i m σ H, W i m σ H →
      ((Iet K a).stop i H ∧ D.nx σ H) ∨ ((Iet K a).go i H ∧ ∃ N : L2.St → Hp → Prop, (∀ σ' H', N σ' H' → ∃ m', m' < m ∧ W (i + 1) m' σ' H') ∧ ∀ x H', (Iet K a).yld i H x H' → g x σ H' fun σ2 H2 => tb { D with nx := N, ct := N, bk := D.nx } σ2 H2) := by
  refine ⟨fun i m σ H => m = xs.length - i ∧ i ≤ xs.length ∧ Pv i σ H, ⟨_, rfl, Nat.zero_le _, h0⟩, ?_⟩
  rintro i m σ H ⟨rfl, hi, p⟩
  have q := hl i σ H hi p
  rcases Nat.lt_or_ge i xs.length with lt | ge
  · have hx := List.getElem?_eq_getElem lt
    refine .inr ⟨⟨xs, _, q, hx⟩, Pv (i + 1), fun σ' H' p' => ⟨xs.length - (i + 1), by omega, rfl, lt, p'⟩, ?_⟩
    rintro x H' ⟨T, y, rfl, nT, rfl, hy⟩
    exact hs i y σ H T (hy xs q) p nT
  · have e : i = xs.length := Nat.le_antisymm hi ge
    exact .inl ⟨⟨xs, q, ge⟩, hd σ H (e ▸ p)⟩
end En
namespace Tr
open PySem PySem.Spec PyProof.Rows L2 Pen Dat Ki Fi Gr No Lf Cm Cn Abk
/-! ## k28: trails, and what is done with them -/
structure Tx (mg : Str → Option Value) : Prop where
  range : mg "range" = none
  sorted : mg "sorted" = none
  dict : mg "dict" = none
  enumerate : mg "enumerate" = none
  tuple : mg "tuple" = none
  list : mg "list" = none
  int : mg "int" = none
  abs : mg "abs" = none
  len : mg "len" = none
theorem len0 : 0 ≤ sizeLine := by decide
theorem len1 : 1 ≤ sizeLine := by decide
theorem len2 : 2 ≤ sizeLine := by decide
abbrev Entry := Int × Option Nat
abbrev Level := List Entry
abbrev Trail := List Level
def rV : Option Nat → V
  | none => .non
  | some n => .int (n : Nat)
def EnAt (K : PySem.W.Frag) (H : Hp) (v : V) (e : Entry) : Prop := ∃ a, v = .ref a ∧ SqT K H a [.int e.1, rV e.2]
def LvAt (K : PySem.W.Frag) (H : Hp) (v : V) (l : Level) : Prop := ∃ a us, v = .ref a ∧ SqT K H a us ∧ All2 (EnAt K H) us l
def TrAt (K : PySem.W.Frag) (H : Hp) (a : Addr) (t : Trail) : Prop := ∃ us, SqT K H a us ∧ All2 (LvAt K H) us t
theorem EnAt.firm {K : PySem.W.Frag} {H H' : Hp} {v : V} {e : Entry} (s : Firm H H') (h : EnAt K H v e) : EnAt K H' v e := let ⟨a, q, h⟩ := h; ⟨a, q, firm_seq s h⟩
theorem LvAt.firm {K : PySem.W.Frag} {H H' : Hp} {v : V} {l : Level} (s : Firm H H') (h : LvAt K H v l) : LvAt K H' v l := let ⟨a, us, q, h, h2⟩ := h; ⟨a, us, q, firm_seq s h, h2.imp fun _ _ z => z.firm s⟩
theorem TrAt.firm {K : PySem.W.Frag} {H H' : Hp} {a : Addr} {t : Trail} (s : Firm H H') (h : TrAt K H a t) : TrAt K H' a t := let ⟨us, h, h2⟩ := h; ⟨us, firm_seq s h, h2.imp fun _ _ z => z.firm s⟩
/-- a dict of numbers, each True -/
theorem goF {b : Bool} {A B : Prop} (h : b = false) (x : B) : if b = true then A else B := by
  rw [h]
  exact iteF x
theorem goT {b : Bool} {A B : Prop} (h : b = true) (x : A) : if b = true then A else B := by
  rw [h]
  exact iteT x
theorem inV_int {z : Int} : ∀ {cl : List Int}, z ∈ cl → inV (.int z) (cl.map V.int) = true
  | x :: r, h => by
    show (eqV (.int x) (.int z) || inV (.int z) (r.map V.int)) = true
    rcases List.mem_cons.mp h with e | h
    · rw [e]
      have : eqV (.int x) (.int x) = true := by
        show decide (x = x) = true
        exact decide_eq_true rfl
      rw [this]
      rfl
    · rw [inV_int h]
      exact Bool.or_true _
def trueD (hs : List Int) : HO := .dK (hs.map fun z => (Sum.inl z, V.bl true))
def litsM (t : Trail) : List Int := t.flatten.map Prod.fst
def heldM (hs : List Int) (l : Level) : List Int := (l.filter fun e => decide (-e.1 ∈ hs)).map fun e => -e.1
def rankM (m : Nat) (t : Trail) : Nat := (List.range (m + 1)).foldl (fun acc k => acc * (m + 1) + ((t[k]?).map List.length).getD 0) 0
def insT (hs : List Int) (z : Int) : List Int := if z ∈ hs then hs else hs ++ [z]
def rk (m : Nat) (t : Trail) (j : Nat) : Int := (((List.range j).foldl (fun acc k => acc * (m + 1) + ((t[k]?).map List.length).getD 0) 0 : Nat) : Int)
theorem rk_succ (m : Nat) (t : Trail) (j n : Nat) (h : ((t[j]?).map List.length).getD 0 = n) : rk m t (j + 1) = rk m t j * ((m : Int) + 1) + (n : Nat) := by
  unfold rk
  rw [List.range_succ, List.foldl_append, List.foldl_cons, List.foldl_nil, h, Int.natCast_add, Int.natCast_mul]
  rfl
theorem val_true (hs : List Int) (z : Int) : valV (hs.map fun z => ((Sum.inl z : Key), V.bl true)) (Sum.inl z) = if z ∈ hs then some (V.bl true) else none := by
  induction hs with
  | nil => rfl
  | cons x r ih =>
    rw [List.map_cons]
    by_cases c : x = z
    · rw [valV_pos (by rw [c]), if_pos (by rw [c]; exact List.mem_cons_self)]
    · rw [valV_neg (fun e => c (Sum.inl.inj e)), ih]
      by_cases d : z ∈ r
      · rw [if_pos d, if_pos (List.mem_cons_of_mem _ d)]
      · rw [if_neg d, if_neg fun m => (List.mem_cons.mp m).elim (fun e => c e.symm) d]
theorem get_true {H : Hp} {d : Addr} {hs : List Int} (h : H d = some (trueD hs)) (z : Int) : DGet H d (.int z) (if z ∈ hs then some (.bl true) else none) := by
  rw [← val_true]
  exact DGet.k (k := .inl z) h
theorem some_true {hs : List Int} {z : Int} : (if z ∈ hs then some (V.bl true) else none).isSome = decide (z ∈ hs) := by
  by_cases c : z ∈ hs
  · rw [if_pos c, decide_eq_true c]
    rfl
  · rw [if_neg c, decide_eq_false c]
    rfl
theorem put_true (hs : List Int) (z : Int) : putK (hs.map fun z => ((Sum.inl z : Key), V.bl true)) (Sum.inl z) (.bl true) = (insT hs z).map fun z => ((Sum.inl z : Key), V.bl true) := by
  unfold insT
  by_cases c : z ∈ hs
  · rw [if_pos c]
    unfold putK
    rw [if_pos (by
      rw [List.any_eq_true]
      exact ⟨_, List.mem_map_of_mem c, by simp⟩), List.map_map]
    refine List.map_congr_left fun x _ => ?_
    show (if (Sum.inl x : Key) = Sum.inl z then ((Sum.inl x : Key), V.bl true) else (Sum.inl x, V.bl true)) = _
    split <;> rfl
  · rw [if_neg c, putK_new _ (by rw [val_true, if_neg c]), List.map_append]
    rfl
theorem drop_true (hs : List Int) (z : Int) : dropK (hs.map fun z => ((Sum.inl z : Key), V.bl true)) (Sum.inl z) = (hs.filter fun x => decide (x ≠ z)).map fun z => ((Sum.inl z : Key), V.bl true) := by
  unfold dropK
  rw [List.filter_map]
  refine congrArg _ (List.filter_congr fun x _ => ?_)
  show decide ((Sum.inl x : Key) ≠ Sum.inl z) = decide (x ≠ z)
  rw [Bool.eq_iff_iff]
  simp
theorem dput_true {H : Hp} {d : Addr} {hs : List Int} (h : H d = some (trueD hs)) (z : Int) (hz : hs.length < sizeLine) : DPut H d (.int z) (.bl true) (upd H d (trueD (insT hs z))) := by
  unfold trueD
  rw [← put_true]
  exact DPut.k (k := .inl z) h (by rw [List.length_map]; exact hz)
/-! ### slices -/
theorem cut_from (xs : List V) (m : Nat) : cutV xs (some (m : Int)) none = xs.drop m := by
  unfold cutV
  have ix : HT.sIx xs.length 0 (some (m : Int)) = min m xs.length := by
    show (if ((m : Int)) < 0 then ((m : Int) + (xs.length : Int)).toNat else min (m : Int).toNat xs.length) = _
    rw [if_neg (by omega)]
    rfl
  rw [ix]
  show List.take (xs.length - min m xs.length) (xs.drop (min m xs.length)) = _
  rw [List.take_of_length_le (by rw [List.length_drop]; exact Nat.le_refl _)]
  rcases Nat.lt_or_ge m xs.length with l | l
  · rw [Nat.min_eq_left (Nat.le_of_lt l)]
  · rw [Nat.min_eq_right l, List.drop_eq_nil_of_le l, List.drop_eq_nil_of_le (Nat.le_refl _)]
theorem cut_to (xs : List V) (m : Nat) : cutV xs none (some (m : Int)) = xs.take m := by
  unfold cutV
  have ix : HT.sIx xs.length xs.length (some (m : Int)) = min m xs.length := by
    show (if ((m : Int)) < 0 then ((m : Int) + (xs.length : Int)).toNat else min (m : Int).toNat xs.length) = _
    rw [if_neg (by omega)]
    rfl
  rw [ix]
  show List.take (min m xs.length - 0) xs = _
  rw [Nat.sub_zero]
  rcases Nat.lt_or_ge m xs.length with l | l
  · rw [Nat.min_eq_left (Nat.le_of_lt l)]
  · rw [Nat.min_eq_right l, List.take_of_length_le l, List.take_of_length_le (Nat.le_refl _)]
section
variable {K : PySem.W.Frag} {H : Hp}
theorem to_use {q0 : Addr} {xs : List V} {m : Nat} {R : VK} (hq : SqT K H q0 xs) (k : ∀ t H', Same H H' → SqT K H' t (xs.take m) → R (.ref t) H') : L2.rSlA K (.ref q0) none (some (m : Int)) H R := by
  refine ⟨q0, xs, rfl, hq, fun hw => ?_, fun _ p np => ?_⟩
  · have e := hw.2
    have ix : HT.sIx xs.length xs.length (some (m : Int)) = min m xs.length := by
      show (if ((m : Int)) < 0 then ((m : Int) + (xs.length : Int)).toNat else min (m : Int).toNat xs.length) = _
      rw [if_neg (by omega)]
      rfl
    rw [ix] at e
    refine k q0 H (fun _ _ e => e) ?_
    rw [List.take_of_length_le (by omega)]
    exact hq
  · exact k p _ (same_new np) (SqT.of (by rw [upd_same, cut_to]))
theorem from_use {q0 : Addr} {xs : List V} {m : Nat} {σ : L2.St} {R : VK} (hq : SqT K H q0 xs) (k : ∀ t H', Same H H' → SqT K H' t (xs.drop m) → R (.ref t) H') : L2.tNoPart σ H fun u H3 => L2.rSlA K (.ref q0) (some (m : Int)) u H3 R := by
  show L2.rSlA K (.ref q0) (some (m : Int)) none H R
  refine ⟨q0, xs, rfl, hq, fun hw => ?_, fun _ p np => ?_⟩
  · have e := hw.1
    have ix : HT.sIx xs.length 0 (some (m : Int)) = min m xs.length := by
      show (if ((m : Int)) < 0 then ((m : Int) + (xs.length : Int)).toNat else min (m : Int).toNat xs.length) = _
      rw [if_neg (by omega)]
      rfl
    rw [ix] at e
    refine k q0 H (fun _ _ e => e) ?_
    rcases Nat.eq_zero_or_pos m with z | z
    · rw [z]
      exact hq
    · have : xs.length = 0 := by omega
      rw [List.drop_eq_nil_of_le (by omega), ← List.eq_nil_of_length_eq_zero this]
      exact hq
  · exact k p _ (same_new np) (SqT.of (by rw [upd_same, cut_from]))
end
def spHeldIn (K : PySem.W.Frag) : Sp := fun vs H Q _ => ∃ (d : Addr) (v : V) (hs : List Int) (l : Level), vs = [.ref d, v] ∧ H d = some (trueD hs) ∧ LvAt K H v l ∧ l.length ≤ 1000 ∧
  ∀ (H' : Hp) (r : Addr), Same H H' → H' r = some (.lst ((heldM hs l).map V.int)) → Q (.ref r) H'
def spGone (K : PySem.W.Frag) : Sp := fun vs H Q _ => ∃ (t : Addr) (k : Nat) (z : Int) (n : Nat) (tr : Trail) (l : Level), vs = [.ref t, .int (k : Nat), .int z, .int (n : Nat)] ∧ TrAt K H t tr ∧ tr[k]? = some l ∧ tr.length ≤ 1000 ∧ l.length ≤ 1000 ∧
  ∀ (H' : Hp) (t' : Addr), Same H H' → TrAt K H' t' (tr.take k ++ [l ++ [(z, some n)]]) → Q (.ref t') H'
def spTrue (K : PySem.W.Frag) : Sp := fun vs H Q _ => ∃ (t : Addr) (tr : Trail), vs = [.ref t] ∧ TrAt K H t tr ∧ (litsM tr).Nodup ∧ (litsM tr).length ≤ 1000 ∧ ∀ (H' : Hp) (d : Addr), Same H H' → H d = none → H' d = some (trueD (litsM tr)) → Q (.ref d) H'
def spCW : Sp := fun vs H Q _ => ∃ (d : Addr) (hs : List Int), vs = [.ref d] ∧ H d = some (trueD hs) ∧ hs.length ≤ 1000 ∧ ∀ (H' : Hp) (t : Addr), Same H H' → H' t = some (.tup ((byAbs hs).map V.int)) → Q (.ref t) H'
/-- what is resolved: the literal and its opposite fall out, no opposites are left -/
def spRes (K : PySem.W.Frag) : Sp := fun vs H Q _ => ∃ (d c : Addr) (hs cl : List Int) (x : Int), vs = [.ref d, .ref c, .int (x.natAbs : Nat)] ∧ H d = some (trueD hs) ∧ SqT K H c (cl.map V.int) ∧ hs.Nodup ∧ hs.length + cl.length ≤ 1000 ∧ x ≠ 0 ∧ -x ∈ hs ∧ ¬ x ∈ hs ∧ x ∈ cl ∧
  (∀ y ∈ cl, y ≠ x → ¬ -y ∈ hs) ∧ (∀ y ∈ cl, y ≠ x → ∀ z ∈ cl, z ≠ x → z ≠ -y) ∧ (∀ y ∈ cl, y ≠ x → y ≠ -x) ∧
  ∀ (H' : Hp) (hs' : List Int), (∀ b o, H b = some o → b ≠ d → H' b = some o) → H' d = some (trueD hs') → hs'.Nodup → hs'.length ≤ hs.length + cl.length → (∀ z, z ∈ hs' ↔ (z ∈ hs ∧ z ≠ -x) ∨ (z ∈ cl ∧ z ≠ x)) → Q (.bl true) H'
section
variable {P : Program} {w : World} {K : PySem.W.Frag} {mg : Str → Option Value} {base : Heap} {f : Addr} {fd : FuncData}
abbrev nHeldIn : List Str := ["held", "level", "literal", "_"]
theorem scHeldIn : FnScope nHeldIn ["held", "level"] (defScope sHeldIn) := ⟨rfl, rfl, rfl, by decide +kernel, rfl, by decide +kernel, by decide +kernel⟩
abbrev nGone : List Str := ["trail", "level", "literal", "n"]
theorem scGone : FnScope nGone ["trail", "level", "literal", "n"] (defScope sGoneBack) := ⟨rfl, rfl, rfl, by decide +kernel, rfl, by decide +kernel, by decide +kernel⟩
abbrev nTrue : List Str := ["trail", "level", "literal", "_"]
theorem scTrue : FnScope nTrue ["trail"] (defScope sTrueLiterals) := ⟨rfl, rfl, rfl, by decide +kernel, rfl, by decide +kernel, by decide +kernel⟩
abbrev nCW : List Str := ["held"]
theorem scCW : FnScope nCW ["held"] (defScope sClauseWith) := ⟨rfl, rfl, rfl, by decide +kernel, rfl, by decide +kernel, by decide +kernel⟩
abbrev nRes : List Str := ["held", "clause", "variable", "literal", "other"]
theorem scRes : FnScope nRes ["held", "clause", "variable"] (defScope sResolveIn) := ⟨rfl, rfl, rfl, by decide +kernel, rfl, by decide +kernel, by decide +kernel⟩
theorem ok_heldin (F : FnP K "held_in" sHeldIn f fd) (T : Tr.Tx mg) : FnOk P w K mg base CX0 1 f fd ["held", "level"] (spHeldIn K) := by
  refine F.ok scHeldIn (fun vs H Q E h => ?_) (fun cdv A outer s H vs Q E hr h => ?_)
  · obtain ⟨d, v, hs, l, rfl, _⟩ := h
    rfl
  · obtain ⟨d, v, hs, l, rfl, hd, ⟨a, us, rfl, ha, au⟩, hl, q⟩ := h
    have hu := hu_of hr
    refine ⟨_, PSs.nox (pss_one (ps_ret (pe_lc (own := [("literal", 2), ("_", 3)]) (g := _) rfl scHeldIn.nd (pi_tup (pv 1)) (blkOk_by (N := nHeldIn) (sc := defScope sHeldIn) (by decide +kernel)) (fun _ _ _ _ _ => (Us.pg_tupK (K := K) (n := 2) rfl rfl (pgs_cons (pg_name (i := 2) scHeldIn.nd rfl (Or.inl rfl)) (pgs_cons (pg_name (i := 3) scHeldIn.nd rfl (Or.inl rfl)) pgs_nil)))) (fun _ _ _ _ _ => pts_one (pt_cmp (pc_din hu (pe_un un_neg (pv 2)) (pv 0)))) (fun _ _ _ _ _ => (pe_un un_neg (pv 2)))))), ?_⟩
    have ul := au.len
    refine ⟨_, rfl, a, rfl, ⟨_, ha⟩, fun D nD => ?_⟩
    refine lc_tup (K := K) (a := a) (xs := us) (fun j H1 => Same H H1 ∧ H1 D = some (.lst ((heldM hs (l.take j)).map V.int))) ⟨same_new nD, upd_same⟩ (fun j H1 _ ⟨s1, _⟩ => seqT_same s1 ha) ?_ ?_
    · rintro j y H1 hj ⟨s1, hD⟩
      obtain ⟨e, he, b, rfl, hb⟩ := au.get hj
      have jl := (List.getElem?_eq_some_iff.mp hj).1
      refine ⟨b, _, rfl, seqT_same s1 hb, rfl, _, _, rfl, _, _, rfl, rfl, rfl, ?_⟩
      refine ⟨_, rfl, _, rfl, _, rfl, d, _, rfl, get_true (s1 _ _ hd) _, _, rfl, ?_⟩
      rw [some_true]
      have more : heldM hs (l.take (j + 1)) = if decide (-e.1 ∈ hs) = true then heldM hs (l.take j) ++ [-e.1] else heldM hs (l.take j) := by
        unfold heldM
        rw [take_more he, List.filter_append, List.map_append]
        by_cases c : -e.1 ∈ hs
        · rw [if_pos (show decide (-e.1 ∈ hs) = true from decide_eq_true c), show [e].filter (fun e => decide (-e.1 ∈ hs)) = [e] by simp [c]]
          rfl
        · rw [if_neg (show ¬ decide (-e.1 ∈ hs) = true from fun z => c (of_decide_eq_true z)), show [e].filter (fun e => decide (-e.1 ∈ hs)) = [] by simp [c]]
          exact List.append_nil _
      rw [more]
      refine ite2 (fun c => ?_) (fun c => ?_)
      · rw [if_pos (show decide (-e.1 ∈ hs) = true from c)]
        refine ⟨_, rfl, _, rfl, _, hD, ?_, fun c o e => ?_, ?_⟩
        · rw [List.length_map]
          refine Nat.lt_of_le_of_lt (?_ : _ ≤ 1000) (by decide)
          unfold heldM
          rw [List.length_map]
          exact Nat.le_trans (List.length_filter_le _ _) (by rw [List.length_take]; omega)
        · rw [upd_ne (ne_of_none e nD)]
          exact s1 _ _ e
        · rw [upd_same, List.map_append]
          rfl
      · rw [if_neg (show ¬ decide (-e.1 ∈ hs) = true from c)]
        exact ⟨s1, hD⟩
    · rintro H1 ⟨s1, hD⟩
      rw [ul, List.take_length] at hD
      exact q H1 D s1 hD
theorem ok_gone (F : FnP K "gone_back" sGoneBack f fd) (T : Tr.Tx mg) : FnOk P w K mg base CX0 1 f fd ["trail", "level", "literal", "n"] (spGone K) := by
  refine F.ok scGone (fun vs H Q E h => ?_) (fun cdv A outer s H vs Q E hr h => ?_)
  · obtain ⟨t, k, z, n, tr, l, rfl, _⟩ := h
    rfl
  · obtain ⟨t, k, z, n, tr, l, rfl, ⟨us, ht, au⟩, hk, tl, ll, q⟩ := h
    refine ⟨_, PSs.nox (pss_one (ps_ret (pe_tup (StX.pa_star (pe_slice sl_tupA (pv 0) po_none (po_some (pv 1))) (pa_cons (pe_tup (StX.pa_star (pe_ix (r := L2.rIxT K) (by exact ix_tup) (pv 0) (pv 1) (fun _ _ => rfl)) (pa_cons (pe_tup (pa_cons (pv 2) (pa_cons (pv 3) pa_nil))) pa_nil))) pa_nil))))), ?_⟩
    have ul := au.len
    obtain ⟨y, hy, a, vs, rfl, ha, av⟩ := au.get' hk
    have vl := av.len
    have hat : atI us ((k : Nat) : Int) = some (.ref a) := at_of (j := k) rfl hy
    refine ⟨_, rfl, _, rfl, _, rfl, to_use ht fun t1 H1 s1 h1 => ⟨t1, _, rfl, .inl h1, _, rfl, _, rfl, t, us, _, _, rfl, rfl, seqT_same s1 ht, hat, a, vs, rfl, .inl (seqT_same s1 ha), _, rfl, _, rfl, len2, fun p1 np1 => ?_⟩⟩
    have s2 := same_new (u := .tup [V.int z, .int (n : Nat)]) np1
    refine ⟨Nat.le_trans (by rw [List.length_append]; show vs.length + 1 ≤ 1001; omega) (by decide), fun p2 np2 => ?_⟩
    have s3 := same_new (u := .tup (vs ++ [V.ref p1])) np2
    refine ⟨Nat.le_trans (by rw [List.length_append, List.length_take]; show _ + 1 ≤ 1001; omega) (by decide), fun p3 np3 => ?_⟩
    have s4 := same_new (u := .tup (us.take k ++ [V.ref p2])) np3
    have s14 := s1.trans (s2.trans (s3.trans s4))
    refine q _ p3 s14 ⟨_, SqT.of upd_same, ((au.take k).imp fun _ _ h => h.firm (Firm.of s14)).append (.cons ⟨p2, _, rfl, SqT.of (s4 _ _ upd_same), (av.imp fun _ _ h => h.firm (Firm.of s14)).append (.cons ⟨p1, rfl, SqT.of ((s3.trans s4) _ _ upd_same)⟩ .nil)⟩ .nil)⟩
theorem ok_true (F : FnP K "true_literals" sTrueLiterals f fd) (T : Tr.Tx mg) : FnOk P w K mg base CX0 1 f fd ["trail"] (spTrue K) := by
  refine F.ok scTrue (fun vs H Q E h => ?_) (fun cdv A outer s H vs Q E hr h => ?_)
  · obtain ⟨t, tr, rfl, _⟩ := h
    rfl
  · obtain ⟨t, tr, rfl, ⟨us, ht, au⟩, nd, hl', q⟩ := h
    refine ⟨_, PSs.nox (pss_one (ps_ret (Dq.pe_dq (own := [("level", 1), ("literal", 2), ("_", 3)]) (inner := [2, 3]) rfl scTrue.nd (pi_tup (pv 0)) (blkOk_by (N := nTrue) (sc := defScope sTrueLiterals) (by decide +kernel)) (by decide) (fun _ _ _ _ _ => (pg_name (i := 1) scTrue.nd rfl (Or.inl rfl))) (fun _ _ _ _ _ => (Us.pi_tupK (K := K) rfl (pv 1))) (fun _ _ _ _ _ => (Us.pg_tupK (K := K) (n := 2) rfl rfl (pgs_cons (pg_name (i := 2) scTrue.nd rfl (Or.inl rfl)) (pgs_cons (pg_name (i := 3) scTrue.nd rfl (Or.inl rfl)) pgs_nil)))) (fun _ _ _ _ _ => (pv 2)) (fun _ _ _ _ _ => pe_bl)))), ?_⟩
    refine ⟨_, rfl, t, rfl, ⟨_, ht⟩, fun D nD => ?_⟩
    have ul := au.len
    refine Dq.walk_W walk_tup (fun i H1 => Same H H1 ∧ H1 D = some (trueD (litsM (tr.take i)))) ⟨same_new nD, upd_same⟩ (fun i H1 _ ⟨s1, _⟩ => seqT_same s1 ht) ?_ ?_
    · rintro i y H1 H1' hi ⟨s1, hD⟩ ⟨rfl, hy⟩
      obtain ⟨l, hl, a, vs, rfl, ha, av⟩ := au.get hy
      have vl := av.len
      refine ⟨rfl, _, rfl, a, rfl, ⟨_, seqT_same s1 ha⟩, ?_⟩
      have et : litsM tr = litsM (tr.take i) ++ (l.map Prod.fst ++ litsM (tr.drop (i + 1))) := by
        obtain ⟨lt, e⟩ := List.getElem?_eq_some_iff.mp hl
        have e1 := List.take_append_drop i tr
        rw [List.drop_eq_getElem_cons lt, e] at e1
        unfold litsM
        rw [← List.map_append, ← List.map_append, ← List.flatten_cons, ← List.flatten_append, e1]
      refine Dq.walk_W walk_tup (fun j H2 => Same H H2 ∧ H2 D = some (trueD (litsM (tr.take i) ++ (l.take j).map Prod.fst))) ⟨s1, by rw [List.take_zero, List.map_nil, List.append_nil]; exact hD⟩ (fun j H2 _ ⟨s2, _⟩ => seqT_same s2 ha) ?_ ?_
      · rintro j z H2 H2' hj ⟨s2, hD2⟩ ⟨rfl, hz⟩
        obtain ⟨e, he, b, rfl, hb⟩ := av.get hz
        have en : ¬ e.1 ∈ litsM (tr.take i) ++ (l.take j).map Prod.fst := by
          obtain ⟨lt, e'⟩ := List.getElem?_eq_some_iff.mp he
          have e1 := List.take_append_drop j l
          rw [List.drop_eq_getElem_cons lt, e'] at e1
          rw [← e1, List.map_append, List.map_cons] at et
          have nd' := nd
          rw [et] at nd'
          rw [List.append_assoc, ← List.append_assoc] at nd'
          exact fun m => (List.nodup_append.mp nd').2.2 _ m _ List.mem_cons_self rfl
        refine ⟨b, _, rfl, seqT_same s2 hb, rfl, _, _, rfl, _, _, rfl, rfl, rfl, ?_⟩
        have ll : (litsM (tr.take i) ++ (l.take j).map Prod.fst).length ≤ 1000 := by
          refine Nat.le_trans ?_ hl'
          rw [et, List.length_append, List.length_append, List.length_append, List.length_map, List.length_map, List.length_take]
          omega
        refine ⟨_, rfl, _, .inl e.1, rfl, hD2, Nat.lt_of_le_of_lt (by rw [List.length_map]; exact ll) (by decide), fun c o e => ?_, ?_⟩
        · rw [upd_ne (ne_of_none e nD)]
          exact s2 _ _ e
        · rw [upd_same, put_true, take_more he, List.map_append, ← List.append_assoc]
          unfold insT
          rw [if_neg en]
          rfl
      · rintro H2 ⟨s2, hD2⟩
        refine ⟨s2, ?_⟩
        rw [vl, List.take_length] at hD2
        rw [take_more hl]
        unfold litsM at hD2 ⊢
        rw [List.flatten_append, List.map_append]
        show H2 D = some (trueD (_ ++ (l ++ []).map Prod.fst))
        rw [List.append_nil]
        exact hD2
    · rintro H1 ⟨s1, hD⟩
      rw [ul, List.take_length] at hD
      exact q H1 D s1 nD hD
theorem ok_cw (F : FnP K "clause_with" sClauseWith f fd) (T : Tr.Tx mg) : FnOk P w K mg base CX0 1 f fd ["held"] spCW := by
  refine F.ok scCW (fun vs H Q E h => ?_) (fun cdv A outer s H vs Q E hr h => ?_)
  · obtain ⟨d, hs, rfl, _⟩ := h
    rfl
  · obtain ⟨d, hs, rfl, hd, hl, q⟩ := h
    refine ⟨_, PSs.nox (pss_one (ps_ret (pe_callTy (T := "tuple") (r := rTupOf K) (by exact call_tuple_of) (by rfl) T.tuple (by decide +kernel) (pa_cons (Abk.pe_sortAbs hr (by rfl) T.sorted (by decide +kernel) (pe_callTy (call_list_dK rfl) (by rfl) T.list (by decide +kernel) (pa_cons (pv 0) pa_nil)) (by rfl) T.abs (by decide +kernel)) pa_nil)))), ?_⟩
    refine ⟨_, rfl, d, _, rfl, hd, fun p1 np1 => ?_⟩
    have e1 : (hs.map fun z => ((Sum.inl z : Key), V.bl true)).map (fun kv => kV kv.1) = hs.map V.int := by
      rw [List.map_map]
      rfl
    rw [e1]
    have s1 := same_new (u := .lst (hs.map V.int)) np1
    refine ⟨p1, hs, rfl, SqL.of upd_same, fun p2 np2 => ?_⟩
    have s2 := same_new (u := .lst ((byAbs hs).map V.int)) np2
    refine ⟨p2, _, rfl, .inl ⟨SqL.of upd_same, fun t nt => ?_⟩⟩
    have s3 := same_new (u := .tup ((byAbs hs).map V.int)) nt
    exact q _ t (s1.trans (s2.trans s3)) upd_same
theorem ok_res (F : FnP K "resolve_in" sResolveIn f fd) (T : Tr.Tx mg) : FnOk P w K mg base CX0 1 f fd ["held", "clause", "variable"] (spRes K) := by
  refine F.ok scRes (fun vs H Q E h => ?_) (fun cdv A outer s H vs Q E hr h => ?_)
  · obtain ⟨d, c, hs, cl, x, rfl, _⟩ := h
    rfl
  · obtain ⟨d, c, hs, cl, x, rfl, hd, hc, nd, hl, x0, nx, xn, xc, ok1, ok2, ok3, q⟩ := h
    have hu := hu_of hr
    refine ⟨_, PSs.nox (C8.pss_cut (ps_set (i := 3) scRes.nd rfl (Or.inl rfl) (pe_ifExp (pt_cmp (pc_din hu (pv 2) (pv 0))) (pv 2) (pe_un un_neg (pv 2))))
      (pss_cons (ps_if (PW.pt (pw_or (pt_cmp (pc_dnotin hu (pv 3) (pv 0))) (pw_or1 (pt_cmpR (r := rIn K true) (by exact op_notIn_seq) (pe_un un_neg (pv 3)) (pv 1) (by rfl)))))
        (pss_one (ps_ret pe_bl))
        pss_nil)
      (pss_cons (ps_ddel (pv 0) (pv 3))
      (pss_cons (ps_for PassesOwn.never rfl (pi_tup (pv 1)) (pg_name (i := 4) scRes.nd rfl (Or.inl rfl))
        (pss_one (ps_if (pt_cmpR op_ne (pv 4) (pe_un un_neg (pv 3)) (nomark _))
          (pss_cons (ps_if (pt_cmp (pc_din hu (pe_un un_neg (pv 4)) (pv 0)))
            (pss_one (ps_ret pe_bl))
            pss_nil)
          (pss_one (ps_dput hu (pv 0) (pv 4) pe_bl rfl)))
          pss_nil)))
      (pss_one (ps_ret pe_bl)))))), ?_⟩
    refine ⟨fun σ H' => H' = H ∧ σ = [some (.ref d), some (.ref c), some (.int (x.natAbs : Nat)), some (.int (-x)), none], ?_, ?_⟩
    · refine ⟨_, rfl, _, rfl, d, _, rfl, get_true hd _, _, rfl, ?_⟩
      rw [some_true]
      refine ite2 (fun h => ?_) (fun h => ?_)
      · have h := of_decide_eq_true h
        have e : ((x.natAbs : Nat) : Int) = -x := by
          rcases Int.lt_or_gt_of_ne x0 with l | l
          · omega
          · exact absurd (show x ∈ hs by rw [show x = ((x.natAbs : Nat) : Int) by omega]; exact h) xn
        refine ⟨_, rfl, rfl, ?_⟩
        rw [e]
        rfl
      · have h : ¬ ((x.natAbs : Nat) : Int) ∈ hs := fun z => h (decide_eq_true z)
        have e : -((x.natAbs : Nat) : Int) = -x := by
          rcases Int.lt_or_gt_of_ne x0 with l | l
          · exact absurd (show ((x.natAbs : Nat) : Int) ∈ hs by rw [show ((x.natAbs : Nat) : Int) = -x by omega]; exact nx) h
          · omega
        refine ⟨_, rfl, _, rfl, rfl, ?_⟩
        show [_, _, _, some (V.int (-((x.natAbs : Nat) : Int))), _] = _
        rw [e]
    rintro σ H1 ⟨rfl, rfl⟩
    have xx : - -x = x := Int.neg_neg x
    refine ⟨_, rfl, _, rfl, d, _, rfl, get_true hd _, _, rfl, ?_⟩
    rw [some_true, decide_eq_true nx]
    refine iteF ⟨_, rfl, _, rfl, _, rfl, c, _, rfl, .inr hc, rfl, ?_, _, rfl, ?_⟩
    · rw [List.all_map]
      exact List.all_eq_true.mpr fun _ _ => rfl
    have inx : inV (.int (- -x)) (cl.map V.int) = true := by
      rw [xx]
      exact inV_int xc
    refine goF (by rw [if_pos rfl]; exact congrArg Bool.not inx) ?_
    refine ⟨_, rfl, _, rfl, d, _, .inl (-x), rfl, hd, rfl, by rw [val_true, if_pos nx]; rfl, ?_⟩
    rw [drop_true]
    have k1 : ∀ b o, H1 b = some o → b ≠ d → upd H1 d (trueD (hs.filter fun y => decide (y ≠ -x))) b = some o := fun b o e ne => by
      rw [upd_ne ne]
      exact e
    have h1 : upd H1 d (trueD (hs.filter fun y => decide (y ≠ -x))) d = some (trueD (hs.filter fun y => decide (y ≠ -x))) := upd_same
    have hcd : ∀ H', (∀ b o, H1 b = some o → b ≠ d → H' b = some o) → SqT K H' c (cl.map V.int) := fun H' k => by
      have nd : ∀ {u : HO}, H1 c = some u → (∀ kvs, u ≠ .dK kvs) → c ≠ d := fun {u} e ne z => by
        rw [z, hd] at e
        exact ne _ (Option.some.inj e).symm
      exact hc.elim (fun h => .inl (h.elim (fun h => .inl (k _ _ h (nd h fun _ z => by cases z))) fun ⟨o, h⟩ => .inr ⟨o, k _ _ h (nd h fun _ z => by cases z)⟩)) .inr
    refine ⟨_, rfl, c, rfl, ⟨_, hcd _ k1⟩, for_tup (K := K) (a := c) (xs := cl.map V.int)
      (fun j σ H' => ∃ (x4 : Option V) (hj : List Int), σ = [some (.ref d), some (.ref c), some (.int (x.natAbs : Nat)), some (.int (-x)), x4] ∧ (∀ b o, H1 b = some o → b ≠ d → H' b = some o) ∧ H' d = some (trueD hj) ∧ hj.Nodup ∧ hj.length ≤ hs.length + j ∧
        ∀ z, z ∈ hj ↔ (z ∈ hs ∧ z ≠ -x) ∨ (z ∈ cl.take j ∧ z ≠ x))
      ⟨_, _, rfl, k1, h1, nd.filter _, List.length_filter_le _ _, fun z => by simp⟩ (fun j σ H' _ ⟨_, _, _, k, _⟩ => hcd H' k) ?_ ?_⟩
    · rintro j y σ H2 hj ⟨x4, hj', rfl, k2, h2, n2, l2, m2⟩
      rw [List.getElem?_map] at hj
      obtain ⟨y, hy, rfl⟩ : ∃ z, cl[j]? = some z ∧ y = .int z := by
        cases e : cl[j]? with
        | none => rw [e] at hj; cases hj
        | some z => rw [e] at hj; exact ⟨z, rfl, (Option.some.inj hj).symm⟩
      have jl := (List.getElem?_eq_some_iff.mp hy).1
      have tk := take_more hy
      refine ⟨_, rfl, _, rfl, _, rfl, rfl, _, rfl, ?_⟩
      by_cases c : y = x
      · refine goF (by show (!decide (V.int y = V.int (- -x))) = false; rw [xx, c, decide_eq_true rfl]; rfl) ?_
        refine ⟨_, hj', rfl, k2, h2, n2, by omega, fun z => ?_⟩
        rw [m2, tk, List.mem_append, List.mem_singleton, c]
        constructor
        · exact fun h => h.imp id fun h => ⟨.inl h.1, h.2⟩
        · exact fun h => h.imp id fun h => ⟨h.1.resolve_right h.2, h.2⟩
      · refine goT (by show (!decide (V.int y = V.int (- -x))) = true; rw [xx, decide_eq_false (fun z => c (V.int.inj z))]; rfl) ?_
        have ym := List.mem_of_getElem? hy
        have no : ¬ -y ∈ hj' := fun z => by
          rcases (m2 _).mp z with h | h
          · exact ok1 y ym c h.1
          · exact ok2 y ym c (-y) (List.mem_of_mem_take h.1) h.2 rfl
        refine ⟨_, rfl, _, rfl, _, rfl, d, _, rfl, get_true h2 _, _, rfl, ?_⟩
        rw [some_true, decide_eq_false no]
        refine iteF ⟨_, rfl, _, rfl, d, _, rfl, dput_true h2 y (Nat.lt_of_le_of_lt (by omega : hj'.length ≤ 1000) (by decide)), _, _, rfl, fun b o e ne => ?_, upd_same, ?_, ?_, fun z => ?_⟩
        · rw [upd_ne ne]
          exact k2 _ _ e ne
        · unfold insT
          split
          · exact n2
          · rename_i h
            exact nd_snoc n2 h
        · unfold insT
          split
          · omega
          · rw [List.length_append]
            show hj'.length + 1 ≤ _
            omega
        · have e1 : z ∈ insT hj' y ↔ z ∈ hj' ∨ z = y := by
            unfold insT
            split
            · rename_i h
              exact ⟨.inl, fun o => o.elim id fun e => by rw [e]; exact h⟩
            · rw [List.mem_append, List.mem_singleton]
          rw [e1, m2, tk, List.mem_append, List.mem_singleton]
          constructor
          · rintro ((h | h) | h)
            · exact .inl h
            · exact .inr ⟨.inl h.1, h.2⟩
            · exact .inr ⟨.inr h, fun z' => c (h.symm.trans z')⟩
          · rintro (h | ⟨h | h, h'⟩)
            · exact .inl (.inl h)
            · exact .inl (.inr ⟨h, h'⟩)
            · exact .inr h
    · rintro σ H2 ⟨x4, hj', rfl, k2, h2, n2, l2, m2⟩
      rw [List.length_map] at l2
      rw [List.length_map, List.take_length] at m2
      exact q H2 hj' k2 h2 n2 l2 m2
end
end Tr
namespace Ta
open PySem PySem.Spec PyProof.Rows L2 Pen Dat Ki Fi Gr No Lf Cm Cn Abk Tr
/-! ## k28: what is asked, units -/
abbrev CRow := List (List Int)
def ClAt (K : PySem.W.Frag) (H : Hp) (v : V) (cl : List Int) : Prop := ∃ a, v = .ref a ∧ SqT K H a (cl.map V.int)
theorem ClAt.firm {K : PySem.W.Frag} {H H' : Hp} {v : V} {cl : List Int} (s : Firm H H') (h : ClAt K H v cl) : ClAt K H' v cl := let ⟨a, q, h⟩ := h; ⟨a, q, firm_seq s h⟩
def zV : Option Int → V
  | none => .non
  | some z => .int z
abbrev Ask := Option Nat × Option Int
def leftM (hs cl : List Int) : List Int := cl.filter fun z => !decide (-z ∈ hs)
def nextA (hs : List Int) (n : Nat) (cl : List Int) (a : Ask) : Ask := match leftM hs cl with
  | [z] => if z ∈ hs then a else (some n, some z)
  | _ => a
/-- what is asked of rows from n on, if a is asked so far -/
def askM (hs : List Int) : Nat → CRow → Ask → Ask
  | _, [], a => a
  | n, cl :: R, a => if leftM hs cl = [] then (some n, none) else askM hs (n + 1) R (nextA hs n cl a)
theorem ask_take {hs : List Int} : ∀ (R : CRow) (n : Nat) (a : Ask) (j : Nat) (cl : List Int), R[j]? = some cl → (∀ c ∈ R.take j, leftM hs c ≠ []) → askM hs n R a = askM hs (n + j) (cl :: R.drop (j + 1)) (askM hs n (R.take j) a)
  | [], _, _, _, _, h, _ => by cases h
  | c :: R, n, a, 0, cl, h, _ => by
    obtain rfl := Option.some.inj h
    rfl
  | c :: R, n, a, j + 1, cl, h, hn => by
    have h1 : leftM hs c ≠ [] := hn c (by rw [List.take_succ_cons]; exact List.mem_cons_self)
    have ih := ask_take R (n + 1) (nextA hs n c a) j cl h fun x hx => hn x (by rw [List.take_succ_cons]; exact List.mem_cons_of_mem _ hx)
    show (if leftM hs c = [] then (some n, none) else askM hs (n + 1) R (nextA hs n c a)) = askM hs (n + (j + 1)) (cl :: R.drop (j + 1)) (if leftM hs c = [] then (some n, none) else askM hs (n + 1) (R.take j) (nextA hs n c a))
    rw [if_neg h1, if_neg h1, ih, show n + 1 + j = n + (j + 1) by omega]
def spAsked (K : PySem.W.Frag) : Sp := fun vs H Q _ => ∃ (r d : Addr) (us : List V) (R : CRow) (hs : List Int), vs = [.ref r, .ref d] ∧ SqT K H r us ∧ All2 (ClAt K H) us R ∧ (∀ cl ∈ R, cl.length ≤ 1000) ∧ H d = some (trueD hs) ∧
  ∀ (H' : Hp) (t : Addr), Same H H' → H' t = some (.tup [rV (askM hs 0 R (none, none)).1, zV (askM hs 0 R (none, none)).2]) → Q (.ref t) H'
section
variable {P : Program} {w : World} {K : PySem.W.Frag} {mg : Str → Option Value} {base : Heap} {f : Addr} {fd : FuncData}
abbrev nAsked : List Str := ["row", "true", "asked", "n", "clause", "literal", "left"]
theorem scAsked : FnScope nAsked ["row", "true"] (defScope sWhatIsAsked) := ⟨rfl, rfl, rfl, by decide +kernel, rfl, by decide +kernel, by decide +kernel⟩
theorem ok_asked (F : FnP K "what_is_asked" sWhatIsAsked f fd) (T : Tr.Tx mg) : FnOk P w K mg base CX0 1 f fd ["row", "true"] (spAsked K) := by
  refine F.ok scAsked (fun vs H Q E h => ?_) (fun cdv A outer s H vs Q E hr h => ?_)
  · obtain ⟨r, d, us, R, hs, rfl, _⟩ := h
    rfl
  · obtain ⟨r, d, us, R, hs, rfl, hr1, au, cz, hd, q⟩ := h
    have hu := hu_of hr
    refine ⟨_, PSs.nox (pss_cons (ps_set (i := 2) scAsked.nd rfl (Or.inl rfl) (pe_tup (pa_cons pe_non (pa_cons pe_non pa_nil))))
      (pss_cons (ps_for PassesOwn.never rfl (En.pi_enT (by rfl) T.enumerate (pa_cons (pv 0) pa_nil)) (pg_tup rfl (pgs_cons (pg_name (i := 3) scAsked.nd rfl (Or.inl rfl)) (pgs_cons (pg_name (i := 4) scAsked.nd rfl (Or.inl rfl)) pgs_nil)))
        (pss_cons (ps_setLc (i := 6) (own := [("literal", 5)]) (g := gName 5) (by rfl) scAsked.nd rfl rfl (sw_true rfl rfl rfl (by decide +kernel)) (pi_tup (pv 4)) (blkOk_by (N := nAsked) (sc := defScope sWhatIsAsked) (by decide +kernel)) (fun _ _ _ _ _ => pg_name (i := 5) scAsked.nd rfl (Or.inl rfl)) (fun _ _ _ _ _ => pts_one (pt_cmp (pc_dnotin hu (pe_un un_neg (pv 5)) (pv 1)))) (fun _ _ _ _ _ => (pv 5)))
        (pss_cons (ps_if (pt_cmpR op_eq (pe_callB call_len_seq (by rfl) T.len PySem.boot_len (pa_cons (pv 6) pa_nil)) pe_int (nomark _))
          (pss_one (ps_ret (pe_tup (pa_cons (pv 3) (pa_cons pe_non pa_nil)))))
          pss_nil)
        (pss_one (ps_if (PW.pt (pw_and (pt_cmpR op_eq (pe_callB call_len_seq (by rfl) T.len PySem.boot_len (pa_cons (pv 6) pa_nil)) pe_int (nomark _)) (pw_and1 (pt_cmp (pc_dnotin hu (pe_ix ix_list (pv 6) pe_int (fun _ _ => rfl)) (pv 1))))))
          (pss_one (ps_set (i := 2) scAsked.nd rfl (Or.inl rfl) (pe_tup (pa_cons (pv 3) (pa_cons (pe_ix ix_list (pv 6) pe_int (fun _ _ => rfl)) pa_nil)))))
          pss_nil)))))
      (pss_one (ps_ret (pv 2))))), ?_⟩
    refine ⟨len2, fun t0 nt0 => ?_⟩
    have s0 := same_new (u := .tup [V.non, .non]) nt0
    refine ⟨_, rfl, r, _, rfl, seqT_same s0 hr1, En.for_enT (K := K) (a := r) (xs := us)
      (fun k σ H' => ∃ (x3 x4 x6 : Option V) (t : Addr), σ = [some (.ref r), some (.ref d), some (.ref t), x3, x4, none, x6] ∧ Same H H' ∧ (∀ c ∈ R.take k, leftM hs c ≠ []) ∧ H' t = some (.tup [rV (askM hs 0 (R.take k) (none, none)).1, zV (askM hs 0 (R.take k) (none, none)).2]))
      ⟨_, _, _, t0, rfl, s0, (fun c hc => by cases hc), upd_same⟩ (fun k σ H' _ ⟨_, _, _, _, _, s, _⟩ => seqT_same s hr1) ?_ ?_⟩
    · rintro k y σ H1 T1 hy ⟨x3, x4, x6, t, rfl, s1, hne, ht⟩ nT
      obtain ⟨cl, hcl, a, rfl, ha⟩ := au.get hy
      have sT := same_new (u := .tup [.int (k : Nat), .ref a]) nT
      have s2 := s1.trans sT
      have cl1 := cz cl (List.mem_of_getElem? hcl)
      refine ⟨T1, _, rfl, SqT.of upd_same, rfl, _, _, rfl, _, _, rfl, rfl, ?_⟩
      refine ⟨_, rfl, a, rfl, ⟨_, seqT_same s2 ha⟩, fun D nD => ?_⟩
      have ht2 := sT _ _ ht
      generalize upd H1 T1 _ = H2 at s2 ht2 nD ⊢
      refine lc_tup (K := K) (a := a) (xs := cl.map V.int) (fun j H3 => Same H2 H3 ∧ H3 D = some (.lst ((leftM hs (cl.take j)).map V.int))) ⟨same_new nD, upd_same⟩ (fun j H3 _ ⟨s3, _⟩ => seqT_same (s2.trans s3) ha) ?_ ?_
      · rintro j y H3 hj ⟨s3, hD⟩
        rw [List.getElem?_map] at hj
        obtain ⟨z, hz, rfl⟩ : ∃ z, cl[j]? = some z ∧ y = .int z := by
          cases e : cl[j]? with
          | none => rw [e] at hj; cases hj
          | some z => rw [e] at hj; exact ⟨z, rfl, (Option.some.inj hj).symm⟩
        refine ⟨rfl, ?_⟩
        refine ⟨_, rfl, _, rfl, _, rfl, d, _, rfl, get_true ((s2.trans s3) _ _ hd) _, _, rfl, ?_⟩
        rw [some_true]
        have more : leftM hs (cl.take (j + 1)) = if (!decide (-z ∈ hs)) = true then leftM hs (cl.take j) ++ [z] else leftM hs (cl.take j) := by
          unfold leftM
          rw [take_more hz, List.filter_append]
          by_cases c : -z ∈ hs
          · rw [decide_eq_true c, show [z].filter (fun z => !decide (-z ∈ hs)) = [] by simp [c]]
            exact List.append_nil _
          · rw [decide_eq_false c, show [z].filter (fun z => !decide (-z ∈ hs)) = [z] by simp [c]]
            rfl
        rw [more]
        refine ite2 (fun c => ?_) (fun c => ?_)
        · rw [if_pos (show (!decide (-z ∈ hs)) = true from c)]
          refine ⟨_, rfl, _, hD, ?_, fun c o e => ?_, ?_⟩
          · rw [List.length_map]
            exact Nat.lt_of_le_of_lt (Nat.le_trans (List.length_filter_le _ _) (by rw [List.length_take]; omega : (cl.take j).length ≤ 1000)) (by decide)
          · rw [upd_ne (ne_of_none e nD)]
            exact s3 _ _ e
          · rw [upd_same, List.map_append]
            rfl
        · rw [if_neg (show ¬ (!decide (-z ∈ hs)) = true from c)]
          exact ⟨s3, hD⟩
      · rintro H3 ⟨s3, hD⟩
        rw [List.length_map, List.take_length] at hD
        have s23 := s2.trans s3
        have ht3 := s3 _ _ ht2
        have at0 := ask_take (hs := hs) R 0 (none, none) k cl hcl hne
        rw [Nat.zero_add] at at0
        refine ⟨_, rfl, D, _, rfl, .inl (SqL.of hD), rfl, _, rfl, ite2 (fun c => ?_) (fun c => ?_)⟩
        · have e0 : leftM hs cl = [] := by
            have h := V.int.inj (of_decide_eq_true c)
            rw [List.length_map] at h
            exact List.eq_nil_of_length_eq_zero (by omega)
          refine ⟨_, rfl, len2, fun t1 nt1 => ?_⟩
          have s4 := same_new (u := .tup [V.int (k : Nat), .non]) nt1
          refine q _ t1 (s23.trans s4) ?_
          have e9 : askM hs 0 R (none, none) = (some k, none) := by
            rw [at0]
            exact if_pos e0
          rw [e9]
          exact upd_same
        have e0 : leftM hs cl ≠ [] := fun z => c (by rw [z]; rfl)
        have hne' : ∀ c ∈ R.take (k + 1), leftM hs c ≠ [] := fun c hc => by
          rw [take_more hcl] at hc
          rcases List.mem_append.mp hc with h | h
          · exact hne c h
          · rw [List.mem_singleton.mp h]
            exact e0
        have stp : askM hs 0 (R.take (k + 1)) (none, none) = nextA hs k cl (askM hs 0 (R.take k) (none, none)) := by
          have lk := (List.getElem?_eq_some_iff.mp hcl).1
          have := ask_take (hs := hs) (R.take (k + 1)) 0 (none, none) k cl (by rw [List.getElem?_take, if_pos (Nat.lt_succ_self k)]; exact hcl) fun x hx => hne x (by rw [List.take_take, Nat.min_eq_left (Nat.le_succ k)] at hx; exact hx)
          rw [List.take_take, Nat.min_eq_left (Nat.le_succ k), List.drop_eq_nil_of_le (by rw [List.length_take]; omega), Nat.zero_add] at this
          rw [this]
          show (if leftM hs cl = [] then _ else askM hs (k + 1) [] _) = _
          rw [if_neg e0]
          rfl
        refine ⟨_, rfl, D, _, rfl, .inl (SqL.of hD), rfl, _, rfl, ite2 (fun c1 => ?_) (fun c1 => ?_)⟩
        · obtain ⟨z, ez⟩ : ∃ z, leftM hs cl = [z] := by
            have h := V.int.inj (of_decide_eq_true c1)
            rw [List.length_map] at h
            exact List.length_eq_one_iff.mp (by omega)
          rw [ez] at hD
          refine ⟨_, rfl, D, _, 0, _, rfl, rfl, SqL.of hD, at_of (j := 0) rfl rfl, _, rfl, d, _, rfl, get_true (s23 _ _ hd) _, _, rfl, ?_⟩
          rw [some_true]
          by_cases m : z ∈ hs
          · refine goF (by rw [decide_eq_true m]; rfl) ⟨_, _, _, t, rfl, s23, hne', ?_⟩
            have e9 : nextA hs k cl (askM hs 0 (R.take k) (none, none)) = askM hs 0 (R.take k) (none, none) := by
              unfold nextA
              rw [ez]
              exact if_pos m
            rw [stp, e9]
            exact ht3
          · refine goT (by rw [decide_eq_false m]; rfl) ⟨_, rfl, _, rfl, D, _, 0, _, rfl, rfl, SqL.of hD, at_of (j := 0) rfl rfl, len2, fun t1 nt1 => ?_⟩
            have s4 := same_new (u := .tup [V.int (k : Nat), .int z]) nt1
            refine ⟨_, _, _, t1, rfl, s23.trans s4, hne', ?_⟩
            have e9 : nextA hs k cl (askM hs 0 (R.take k) (none, none)) = (some k, some z) := by
              unfold nextA
              rw [ez]
              exact if_neg m
            rw [stp, e9]
            exact upd_same
        · refine ⟨_, _, _, t, rfl, s23, hne', ?_⟩
          rw [stp]
          have e2 : nextA hs k cl (askM hs 0 (R.take k) (none, none)) = askM hs 0 (R.take k) (none, none) := by
            unfold nextA
            split
            · rename_i z ez
              rw [ez] at c1
              exact absurd rfl c1
            · rfl
          rw [e2]
          exact ht3
    · rintro σ H1 ⟨x3, x4, x6, t, rfl, s1, hne, ht⟩
      rw [au.len, List.take_length] at ht
      exact ⟨_, rfl, q H1 t s1 ht⟩
end
end Ta
namespace Tb
open PySem PySem.Spec PyProof.Rows L2 Pen Dat Ki Fi Gr No Lf Cm Cn Abk Tr Ta
/-! ## k28: units -/
theorem ask_unit {hs : List Int} : ∀ (R : CRow) (n : Nat) (a : Ask) (k : Option Nat) (z : Int), askM hs n R a = (k, some z) → (∀ k' z', a = (k', some z') → ∃ i cl, k' = some i ∧ i < n ∧ leftM hs cl = [z'] ∧ ¬ z' ∈ hs) →
    (a = (k, some z)) ∨ ∃ i cl, k = some (n + i) ∧ R[i]? = some cl ∧ leftM hs cl = [z] ∧ ¬ z ∈ hs
  | [], n, a, k, z, h, _ => .inl h
  | c :: R, n, a, k, z, h, ha => by
    have h : (if leftM hs c = [] then (some n, none) else askM hs (n + 1) R (nextA hs n c a)) = (k, some z) := h
    by_cases e : leftM hs c = []
    · rw [if_pos e] at h
      cases h
    rw [if_neg e] at h
    have cs : nextA hs n c a = a ∨ ∃ y, leftM hs c = [y] ∧ ¬ y ∈ hs ∧ nextA hs n c a = (some n, some y) := by
      unfold nextA
      split
      · rename_i y ey
        by_cases m : y ∈ hs
        · exact .inl (if_pos m)
        · exact .inr ⟨y, ey, m, if_neg m⟩
      · exact .inl rfl
    rcases cs with q | ⟨y, ey, ym, q⟩
    · rw [q] at h
      rcases ask_unit R (n + 1) a k z h (fun k' z' e => by
        obtain ⟨i, cl, e1, e2, e3⟩ := ha k' z' e
        exact ⟨i, cl, e1, by omega, e3⟩) with w | ⟨i, cl, w1, w2⟩
      · exact .inl w
      · exact .inr ⟨i + 1, cl, by rw [w1]; exact congrArg some (by omega), w2⟩
    · rw [q] at h
      rcases ask_unit R (n + 1) (some n, some y) k z h (fun k' z' e => by
        cases e
        exact ⟨n, c, rfl, Nat.lt_succ_self n, ey, ym⟩) with w | ⟨i, cl, w1, w2⟩
      · cases w
        exact .inr ⟨0, c, rfl, rfl, ey, ym⟩
      · exact .inr ⟨i + 1, cl, by rw [w1]; exact congrArg some (by omega), w2⟩
theorem ask_some {hs : List Int} {R : CRow} {k : Option Nat} {z : Int} (h : askM hs 0 R (none, none) = (k, some z)) : ∃ i cl, k = some i ∧ R[i]? = some cl ∧ leftM hs cl = [z] ∧ ¬ z ∈ hs ∧ z ∈ cl ∧ ¬ -z ∈ hs := by
  rcases ask_unit R 0 (none, none) k z h (fun k' z' e => by cases e) with w | ⟨i, cl, w1, w2, w3, w4⟩
  · cases w
  · have m : z ∈ leftM hs cl := by
      rw [w3]
      exact List.mem_singleton.mpr rfl
    obtain ⟨m1, m2⟩ := List.mem_filter.mp m
    exact ⟨i, cl, by rw [w1, Nat.zero_add], w2, w3, w4, m1, fun y => by rw [decide_eq_true y] at m2; cases m2⟩
/-- numbers that are true: one of each variable from 1 to m -/
structure TOk (m : Nat) (hs : List Int) : Prop where
  nd : (hs.map Int.natAbs).Nodup
  ok : ∀ z ∈ hs, z ≠ 0 ∧ z.natAbs ≤ m
theorem TOk.snoc {m : Nat} {hs : List Int} {z : Int} (h : TOk m hs) (z0 : z ≠ 0) (zm : z.natAbs ≤ m) (n1 : ¬ z ∈ hs) (n2 : ¬ -z ∈ hs) : TOk m (hs ++ [z]) := by
  refine ⟨?_, fun y hy => ?_⟩
  · rw [List.map_append]
    refine nd_snoc h.nd fun mm => ?_
    obtain ⟨y, hy, e⟩ := List.mem_map.mp mm
    rcases Int.natAbs_eq_natAbs_iff.mp e with w | w
    · exact n1 (by rw [← w]; exact hy)
    · exact n2 (by rw [← w]; exact hy)
  · rcases List.mem_append.mp hy with w | w
    · exact h.ok y w
    · rw [List.mem_singleton.mp w]
      exact ⟨z0, zm⟩
theorem nd_len : ∀ (m : Nat) {l : List Nat}, l.Nodup → (∀ x ∈ l, 1 ≤ x ∧ x ≤ m) → l.length ≤ m
  | 0, [], _, _ => Nat.le_refl _
  | 0, x :: l, _, h => by
    have := h x List.mem_cons_self
    omega
  | m + 1, l, nd, h => by
    have e1 : (l.filter fun x => decide (x ≠ m + 1)).length ≤ m := nd_len m (nd.filter _) fun x hx => by
      obtain ⟨a, b⟩ := List.mem_filter.mp hx
      have := h x a
      have := of_decide_eq_true b
      omega
    have e2 : ∀ {l : List Nat}, l.Nodup → l.length ≤ (l.filter fun x => decide (x ≠ m + 1)).length + 1 := by
      intro l
      induction l with
      | nil => intro _; exact Nat.zero_le _
      | cons x r ih =>
        intro nd
        obtain ⟨n1, n2⟩ := List.nodup_cons.mp nd
        by_cases c : x = m + 1
        · have : r.filter (fun x => decide (x ≠ m + 1)) = r := List.filter_eq_self.mpr fun y hy => decide_eq_true fun e => n1 (by rw [c, ← e]; exact hy)
          rw [List.filter_cons_of_neg (by simp [c]), this]
          exact Nat.le_refl _
        · rw [List.filter_cons_of_pos (by simp [c])]
          have := ih n2
          show r.length + 1 ≤ _ + 1 + 1
          omega
    have := e2 nd
    omega
theorem TOk.len {m : Nat} {hs : List Int} (h : TOk m hs) : hs.length ≤ m := by
  have := nd_len m h.nd fun x hx => by
    obtain ⟨z, hz, rfl⟩ := List.mem_map.mp hx
    have := h.ok z hz
    omega
  rwa [List.length_map] at this
theorem TOk.nodup {m : Nat} {hs : List Int} (h : TOk m hs) : hs.Nodup := by
  have := h.nd
  exact (List.pairwise_map.mp this).imp fun h e => h (congrArg Int.natAbs e)
/-- what units does to the true numbers and the last level -/
inductive Units (R : CRow) : List Int → Level → List Int → Level → Option Nat → Prop
  | stop (hs : List Int) (l : Level) (n : Option Nat) : askM hs 0 R (none, none) = (n, none) → Units R hs l hs l n
  | step (hs : List Int) (l : Level) (n : Option Nat) (z : Int) (hs' : List Int) (l' : Level) (n' : Option Nat) : askM hs 0 R (none, none) = (n, some z) → Units R (hs ++ [z]) (l ++ [(z, n)]) hs' l' n' → Units R hs l hs' l' n'
def muU (m : Nat) : Option HO → Nat
  | some (.dK kvs) => m - kvs.length
  | _ => 0
theorem init_use {K : PySem.W.Frag} {H : Hp} {q0 : Addr} {xs : List V} {R : VK} (hq : SqT K H q0 xs) (hl : 1 ≤ xs.length) (k : ∀ t H', Same H H' → SqT K H' t xs.dropLast → R (.ref t) H') : L2.rSlA K (.ref q0) none (some (-1)) H R := by
  have ix : HT.sIx xs.length xs.length (some (-1)) = xs.length - 1 := by
    show ((-1 : Int) + (xs.length : Int)).toNat = _
    omega
  refine ⟨q0, xs, rfl, hq, fun hw => ?_, fun _ p np => ?_⟩
  · have e := hw.2
    rw [ix] at e
    omega
  · refine k p _ (same_new np) (SqT.of ?_)
    rw [upd_same]
    unfold cutV
    rw [ix, List.dropLast_eq_take]
    rfl
theorem at_end {us : List V} {y : V} : atI (us ++ [y]) (-1) = some y := by
  unfold atI
  have e : ixN (us ++ [y]).length (-1) = some us.length := by
    unfold ixN
    rw [List.length_append, show [y].length = 1 from rfl, if_neg (by decide), if_pos (by omega)]
    exact congrArg some (by omega)
  rw [e]
  show (us ++ [y])[us.length]? = _
  rw [List.getElem?_append_right (Nat.le_refl _), Nat.sub_self]
  rfl
theorem all2_snoc {α : Type} {Rl : V → α → Prop} {us : List V} {xs : List α} {x : α} (h : All2 Rl us (xs ++ [x])) : ∃ vs v, us = vs ++ [v] ∧ All2 Rl vs xs ∧ Rl v x := by
  have l := h.len
  rw [List.length_append, show [x].length = 1 from rfl] at l
  have hx : (xs ++ [x])[xs.length]? = some x := by
    rw [List.getElem?_append_right (Nat.le_refl _), Nat.sub_self]
    rfl
  obtain ⟨v, hv, r⟩ := h.get' hx
  refine ⟨us.take xs.length, v, ?_, ?_, r⟩
  · have e1 := List.take_append_drop xs.length us
    obtain ⟨lt, e⟩ := List.getElem?_eq_some_iff.mp hv
    rw [List.drop_eq_getElem_cons lt, e, List.drop_eq_nil_of_le (by omega)] at e1
    exact e1.symm
  · have := h.take xs.length
    rw [List.take_append_of_le_length (Nat.le_refl _), List.take_length] at this
    exact this
def spUnits (K : PySem.W.Frag) : Sp := fun vs H Q _ => ∃ (m : Nat) (r t : Addr) (us : List V) (R : CRow) (tr : Trail) (l : Level), vs = [.int (m : Nat), .ref r, .ref t] ∧ m ≤ 100 ∧ SqT K H r us ∧ All2 (ClAt K H) us R ∧ (∀ cl ∈ R, cl.length ≤ 1000 ∧ ∀ z ∈ cl, z ≠ 0 ∧ z.natAbs ≤ m) ∧
  TrAt K H t (tr ++ [l]) ∧ tr.length ≤ 1000 ∧ TOk m (litsM (tr ++ [l])) ∧ l.length ≤ 1000 ∧
  ∀ (H' : Hp) (p t' : Addr) (hs' : List Int) (l' : Level) (n' : Option Nat), Same H H' → Units R (litsM (tr ++ [l])) l hs' l' n' → TOk m hs' → H' p = some (.tup [.ref t', rV n']) → TrAt K H' t' (tr ++ [l']) → Q (.ref p) H'
section
variable {P : Program} {w : World} {K : PySem.W.Frag} {mg : Str → Option Value} {base : Heap} {f : Addr} {fd : FuncData}
abbrev nUnits : List Str := ["many", "row", "trail", "true", "level", "n", "literal"]
theorem scUnits : FnScope nUnits ["many", "row", "trail"] (defScope sUnits) := ⟨rfl, rfl, rfl, by decide +kernel, rfl, by decide +kernel, by decide +kernel⟩
theorem ok_units (F : FnP K "units" sUnits f fd) (T : Tr.Tx mg)
    {fT fW : Addr} {dT dW : FuncData}
    (GT : FnOk P w K mg base CX0 1 fT dT ["trail"] (spTrue K)) (gT : mg "true_literals" = some (.ref fT)) (kT : PySem.W.keepIn K (.ref fT) = true) (bT : Binds K dT ["trail"] [])
    (GW : FnOk P w K mg base CX0 1 fW dW ["row", "true"] (spAsked K)) (gW : mg "what_is_asked" = some (.ref fW)) (kW : PySem.W.keepIn K (.ref fW) = true) (bW : Binds K dW ["row", "true"] [])
    : FnOk P w K mg base CX0 2 f fd ["many", "row", "trail"] (spUnits K) := by
  refine F.ok scUnits (fun vs H Q E h => ?_) (fun cdv A outer s H vs Q E hr h => ?_)
  · obtain ⟨m, r, t, us, R, tr, l, rfl, _⟩ := h
    rfl
  · obtain ⟨m, r, t, us, R, tr, l, rfl, m1, hr1, au, cz, ⟨ts, ht, aT⟩, tl, tok, ll, q⟩ := h
    have hu := hu_of hr
    obtain ⟨vs, v, rfl, aV, lv⟩ := all2_snoc aT
    obtain ⟨a, es, rfl, ha, ae⟩ := lv
    have vl := aV.len
    have el := ae.len
    refine ⟨_, PSs.nox (pss_cons (ps_set (i := 3) scUnits.nd rfl (Or.inl rfl) (pe_call GT (hr.mono (by decide)) (by rfl) gT kT bT .nil pass0 (pa_cons (pv 2) pa_nil)))
      (pss_cons (ps_set (i := 4) scUnits.nd rfl (Or.inl rfl) (pe_callTy call_list_of (by rfl) T.list (by decide +kernel) (pa_cons (pe_ix (r := L2.rIxT K) (by exact ix_tup) (pv 2) (pe_un un_neg pe_int) (fun _ _ => rfl)) pa_nil)))
      (pss_cons (ps_asg (pe_call GW (hr.mono (by decide)) (by rfl) gW kW bW .nil pass0 (pa_cons (pv 1) (pa_cons (pv 3) pa_nil))) (pg_tup rfl (pgs_cons (pg_name (i := 5) scUnits.nd rfl (Or.inl rfl)) (pgs_cons (pg_name (i := 6) scUnits.nd rfl (Or.inl rfl)) pgs_nil))))
      (pss_cons (ps_while PassesOwn.never (pt_cmpR op_notN (pv 6) pe_non (nomark _))
        (pss_cons (ps_dput hu (pv 3) (pv 6) pe_bl rfl)
        (pss_cons (ps_expr (pe_bm PySem.F.plainAttrs_list PySem.F.slot_list_append PySem.F.type_list_append mt_append (pv 4) (pa_cons (pe_tup (pa_cons (pv 6) (pa_cons (pv 5) pa_nil))) pa_nil)))
        (pss_one (ps_asg (pe_call GW (hr.mono (by decide)) (by rfl) gW kW bW .nil pass0 (pa_cons (pv 1) (pa_cons (pv 3) pa_nil))) (pg_tup rfl (pgs_cons (pg_name (i := 5) scUnits.nd rfl (Or.inl rfl)) (pgs_cons (pg_name (i := 6) scUnits.nd rfl (Or.inl rfl)) pgs_nil))))))))
      (pss_one (ps_ret (pe_tup (pa_cons (pe_tup (StX.pa_star (pe_slice sl_tupA (pv 2) po_none (po_some (pe_un un_neg pe_int))) (pa_cons (pe_callTy (T := "tuple") (r := rTupOf K) (by exact call_tuple_of) (by rfl) T.tuple (by decide +kernel) (pa_cons (pv 4) pa_nil)) pa_nil))) (pa_cons (pv 5) pa_nil))))))))), ?_⟩
    refine ⟨_, rfl, t, _, rfl, ⟨_, ht, aT⟩, tok.nodup, Nat.le_trans tok.len (by omega), fun H1 d s1 nd hd => ?_⟩
    refine ⟨_, rfl, _, rfl, t, _, _, _, rfl, rfl, seqT_same s1 ht, at_end, a, es, rfl, .inr (seqT_same s1 ha), fun L nL => ?_⟩
    have sL := same_new (u := .lst es) nL
    have s2 := s1.trans sL
    have dL : d ≠ L := ne_of_none hd nL
    have nLH : H L = none := by
      cases e : H L with
      | none => rfl
      | some o =>
        rw [s1 _ _ e] at nL
        cases nL
    refine ⟨_, rfl, _, rfl, r, d, us, R, _, rfl, seqT_same s2 hr1, au.imp fun _ _ h => h.firm (Firm.of s2), fun cl h => (cz cl h).1, sL _ _ hd, fun H2 t1 s3 ht1 => ⟨t1, _, rfl, SqT.of ht1, rfl, _, _, rfl, _, _, rfl, rfl, ?_⟩⟩
    refine while_by (fun σ H' => ∃ (hs : List Int) (lv : Level) (ws : List V) (k : Option Nat) (z : Option Int), σ = [some (.int (m : Nat)), some (.ref r), some (.ref t), some (.ref d), some (.ref L), some (rV k), some (zV z)] ∧ askM hs 0 R (none, none) = (k, z) ∧ Same H H' ∧ H' d = some (trueD hs) ∧ H' L = some (.lst ws) ∧
        All2 (EnAt K H') ws lv ∧ lv.length ≤ 1000 + hs.length ∧ TOk m hs ∧ ∀ hs' l' n', Units R hs lv hs' l' n' → Units R (litsM (tr ++ [l])) l hs' l' n')
      (fun _ H' => muU m (H' d)) ⟨litsM (tr ++ [l]), l, es, _, _, rfl, rfl, s2.trans s3, s3 _ _ (sL _ _ hd), s3 _ _ upd_same, ae.imp fun _ _ h => h.firm (Firm.of (s2.trans s3)), by omega, tok, fun _ _ _ h => h⟩ ?_ ?_
    · rintro σ H3 ⟨hs, lv, ws, k, z, rfl, ea, s4, hd3, hL3, aw, lvl, tk, hU⟩
      have wl := aw.len
      cases z with
      | none =>
        refine ⟨_, rfl, rfl, _, rfl, ?_⟩
        refine iteF ⟨_, rfl, _, rfl, _, rfl, init_use (seqT_same s4 ht) (by rw [List.length_append]; show 1 ≤ vs.length + 1; omega) fun t2 H4 s5 h5 => ⟨t2, _, rfl, .inl h5, _, rfl, L, ws, rfl, .inl ⟨SqL.of (s5 _ _ hL3), fun t3 nt3 => ?_⟩⟩⟩
        have s6 := same_new (u := .tup ws) nt3
        rw [List.dropLast_concat]
        refine ⟨Nat.le_trans (by rw [List.length_append]; show vs.length + 1 ≤ 1001; omega) (by decide), fun t4 nt4 => ⟨_, rfl, len2, fun p1 np1 => ?_⟩⟩
        have s7 := same_new (u := .tup (vs ++ [V.ref t3])) nt4
        have s8 := same_new (u := .tup [V.ref t4, rV k]) np1
        have s48 := s4.trans (s5.trans (s6.trans (s7.trans s8)))
        have s38 := s5.trans (s6.trans (s7.trans s8))
        exact q _ p1 t4 hs lv k s48 (hU _ _ _ (.stop hs lv k ea)) tk upd_same ⟨_, SqT.of (s8 _ _ upd_same), (aV.imp fun _ _ h => h.firm (Firm.of s48)).append (.cons ⟨t3, ws, rfl, SqT.of ((s7.trans s8) _ _ upd_same), aw.imp fun _ _ h => h.firm (Firm.of s38)⟩ .nil)⟩
      | some z =>
        obtain ⟨i, cl, rfl, hcl, hz1, zn, zc, nzn⟩ := ask_some ea
        obtain ⟨z0, zm⟩ := (cz cl (List.mem_of_getElem? hcl)).2 z zc
        refine ⟨_, rfl, rfl, _, rfl, ?_⟩
        have tl := tk.len
        have ins : insT hs z = hs ++ [z] := if_neg zn
        refine iteT ⟨_, rfl, _, rfl, d, _, rfl, dput_true hd3 z (Nat.lt_of_le_of_lt (by omega : hs.length ≤ 100) (by decide)), ?_⟩
        rw [ins]
        have f5 : Firm H3 (upd H3 d (trueD (hs ++ [z]))) := Firm.upd hd3 rfl
        have s5 : Same H (upd H3 d (trueD (hs ++ [z]))) := fun b o e => by
          rw [upd_ne (ne_of_none e nd)]
          exact s4 _ _ e
        have hd5 : upd H3 d (trueD (hs ++ [z])) d = some (trueD (hs ++ [z])) := upd_same
        have hL5 : upd H3 d (trueD (hs ++ [z])) L = some (.lst ws) := by
          rw [upd_ne dL.symm]
          exact hL3
        have aw5 := aw.imp fun _ _ h => h.firm f5
        generalize upd H3 d (trueD (hs ++ [z])) = H5 at s5 hd5 hL5 aw5 ⊢
        refine ⟨_, rfl, .inl ⟨rfl, _, SqL.of hL5⟩, _, rfl, _, rfl, len2, fun e1 ne1 => ?_⟩
        have s6 := same_new (u := .tup [zV (some z), rV (some i)]) ne1
        refine ⟨L, ws, _, rfl, rfl, s6 _ _ hL5, Nat.lt_of_le_of_lt (by omega : ws.length ≤ 2000) (by decide), ?_⟩
        have f7 : Firm H5 (upd (upd H5 e1 (.tup [zV (some z), rV (some i)])) L (.lst (ws ++ [.ref e1]))) := (Firm.of s6).trans (Firm.upd (s6 _ _ hL5) rfl)
        have s7 : Same H (upd (upd H5 e1 (.tup [zV (some z), rV (some i)])) L (.lst (ws ++ [.ref e1]))) := fun b o e => by
          rw [upd_ne (ne_of_none e nLH)]
          exact s6 _ _ (s5 _ _ e)
        have hd7 : upd (upd H5 e1 (.tup [zV (some z), rV (some i)])) L (.lst (ws ++ [.ref e1])) d = some (trueD (hs ++ [z])) := by
          rw [upd_ne dL]
          exact s6 _ _ hd5
        have hL7 : upd (upd H5 e1 (.tup [zV (some z), rV (some i)])) L (.lst (ws ++ [.ref e1])) L = some (.lst (ws ++ [.ref e1])) := upd_same
        have he7 : SqT K (upd (upd H5 e1 (.tup [zV (some z), rV (some i)])) L (.lst (ws ++ [.ref e1]))) e1 [.int z, rV (some i)] := firm_seq (Firm.upd (s6 _ _ hL5) rfl) (SqT.of upd_same)
        have aw7 := (aw5.imp fun _ _ h => h.firm f7).snoc (x := (z, some i)) ⟨e1, rfl, he7⟩
        generalize upd (upd H5 e1 _) L _ = H7 at s7 hd7 hL7 aw7 ⊢
        refine ⟨_, rfl, _, rfl, r, d, us, R, _, rfl, seqT_same s7 hr1, au.imp fun _ _ h => h.firm (Firm.of s7), fun cl h => (cz cl h).1, hd7, fun H8 t2 s8 ht2 => ⟨t2, _, rfl, SqT.of ht2, rfl, _, _, rfl, _, _, rfl, rfl, ?_⟩⟩
        refine ⟨⟨hs ++ [z], lv ++ [(z, some i)], ws ++ [.ref e1], _, _, rfl, rfl, s7.trans s8, s8 _ _ hd7, s8 _ _ hL7, aw7.imp fun _ _ h => h.firm (Firm.of s8), ?_, tk.snoc z0 zm zn nzn, fun hs' l' n' h => hU _ _ _ (.step hs lv (some i) z hs' l' n' ea h)⟩, ?_⟩
        · rw [List.length_append, List.length_append]
          show lv.length + 1 ≤ 1000 + (hs.length + 1)
          omega
        · have tk' := (tk.snoc z0 zm zn nzn).len
          rw [List.length_append] at tk'
          have tk' : hs.length + 1 ≤ m := tk'
          show muU m (H8 d) < muU m (H3 d)
          rw [s8 _ _ hd7, hd3]
          show m - ((hs ++ [z]).map _).length < m - (hs.map _).length
          rw [List.length_map, List.length_map, List.length_append]
          show m - (hs.length + 1) < m - hs.length
          omega
    · rintro σ H3 Q1 Q2 hq ⟨v1, e1, e2, k, ek, hQ⟩
      exact ⟨v1, e1, e2, k, ek, hq _ _ hQ⟩
end
end Tb
namespace Tc
open PySem PySem.Spec PyProof.Rows L2 Pen Dat Ki Fi Gr No Lf Cm Cn Abk Tr Ta Tb
/-! ## k28: learnt -/
theorem len3 : 3 ≤ sizeLine := by decide
/-- the last level but the last that holds some of hs -/
def lvM (hs : List Int) (tr : Trail) : Nat → Nat
  | 0 => 0
  | k + 1 => if ((tr[k]?).map fun l => heldM hs l) = some [] then lvM hs tr k else if tr[k]?.isSome then k else lvM hs tr k
/-- one step resolves well: what resolve_in asks, and what is told behind it -/
structure Good (hs cl : List Int) (x : Int) : Prop where
  x0 : x ≠ 0
  nx : -x ∈ hs
  xn : ¬ x ∈ hs
  xc : x ∈ cl
  ok1 : ∀ y ∈ cl, y ≠ x → ¬ -y ∈ hs
  ok2 : ∀ y ∈ cl, y ≠ x → ∀ z ∈ cl, z ≠ x → z ≠ -y
  ok3 : ∀ y ∈ cl, y ≠ x → y ≠ -x
structure Done (hs cl : List Int) (x : Int) (hs' : List Int) : Prop where
  nd : hs'.Nodup
  mem : ∀ z, z ∈ hs' ↔ (z ∈ hs ∧ z ≠ -x) ∨ (z ∈ cl ∧ z ≠ x)
def asks (hs : List Int) (l : Level) (e : Tr.Entry) : Bool := decide (-e.1 ∈ hs) && decide (1 < (heldM hs l).length)
/-- Iv: what holds of the numbers held behind so many entries from the back -/
structure Runs (R : CRow) (l : Level) (c0 : List Int) (Iv : Nat → List Int → Prop) : Prop where
  start : Iv 0 c0
  size : ∀ j hs, Iv j hs → hs.Nodup ∧ hs.length ≤ 500
  keep : ∀ j hs e, Iv j hs → l.reverse[j]? = some e → asks hs l e = false → Iv (j + 1) hs
  go : ∀ j hs e, Iv j hs → l.reverse[j]? = some e → asks hs l e = true → ∃ i cl, e.2 = some i ∧ R[i]? = some cl ∧ Good hs cl e.1 ∧ ∀ hs', Done hs cl e.1 hs' → Iv (j + 1) hs'
theorem all2_rev {α : Type} {Rl : V → α → Prop} : ∀ {vs : List V} {xs : List α}, All2 Rl vs xs → All2 Rl vs.reverse xs.reverse
  | _, _, .nil => .nil
  | _, _, .cons h t => by
    rw [List.reverse_cons, List.reverse_cons]
    exact (all2_rev t).snoc h
/-- the steps of a line, and what they lead to -/
inductive Steps (R : CRow) (c0 : List Int) : List (Nat × Nat) → List Int → Prop
  | nil : Steps R c0 [] c0
  | snoc (ps : List (Nat × Nat)) (hs cl hs' : List Int) (x : Int) (i : Nat) : Steps R c0 ps hs → R[i]? = some cl → Good hs cl x → Done hs cl x hs' → Steps R c0 (ps ++ [(x.natAbs, i)]) hs'
def StAt (K : PySem.W.Frag) (H : Hp) (v : V) (p : Nat × Nat) : Prop := ∃ a, v = .ref a ∧ SqT K H a [.int (p.1 : Nat), .int (p.2 : Nat)]
theorem StAt.firm {K : PySem.W.Frag} {H H' : Hp} {v : V} {p : Nat × Nat} (s : Firm H H') (h : StAt K H v p) : StAt K H' v p := let ⟨a, q, h⟩ := h; ⟨a, q, firm_seq s h⟩
/-- the line that learnt tells -/
def LnAt (K : PySem.W.Frag) (H : Hp) (y : Addr) (n : Nat) (ps : List (Nat × Nat)) : Prop := (ps = [] ∧ H y = some (.tup [.str "given", .int (n : Nat)])) ∨ (ps ≠ [] ∧ ∃ t vs, H y = some (.tup [.str "chain", .int (n : Nat), .ref t]) ∧ H t = some (.tup vs) ∧ All2 (StAt K H) vs ps)
theorem LnAt.firm {K : PySem.W.Frag} {H H' : Hp} {y : Addr} {n : Nat} {ps : List (Nat × Nat)} (s : Firm H H') (h : LnAt K H y n ps) : LnAt K H' y n ps := by
  rcases h with ⟨e, h⟩ | ⟨e, t, vs, h1, h2, h3⟩
  · exact .inl ⟨e, s _ _ h rfl⟩
  · exact .inr ⟨e, t, vs, s _ _ h1 rfl, s _ _ h2 rfl, h3.imp fun _ _ h => h.firm s⟩
def spLearnt (K : PySem.W.Frag) : Sp := fun vs H Q _ => ∃ (m : Nat) (r t : Addr) (n : Nat) (us : List V) (R : CRow) (tr : Trail) (l : Level) (c0 : List Int) (Iv : Nat → List Int → Prop), vs = [.int (m : Nat), .ref r, .ref t, .int (n : Nat)] ∧ SqT K H r us ∧ All2 (ClAt K H) us R ∧
  (∀ cl ∈ R, cl.length ≤ 500) ∧ TrAt K H t (tr ++ [l]) ∧ tr.length ≤ 1000 ∧ (∀ x ∈ tr, x.length ≤ 1000) ∧ l.length ≤ 1000 ∧ R[n]? = some c0 ∧ c0.Nodup ∧ Runs R l c0 Iv ∧
  ∀ (H' : Hp) (p y c : Addr) (hs : List Int) (ps : List (Nat × Nat)), Same H H' → Iv l.length hs → Steps R c0 ps hs → LnAt K H' y n ps → H' p = some (.tup [.ref y, .ref c, .int (lvM hs tr tr.length : Nat)]) → H' c = some (.tup ((byAbs hs).map V.int)) → Q (.ref p) H'
section
variable {P : Program} {w : World} {K : PySem.W.Frag} {mg : Str → Option Value} {base : Heap} {f : Addr} {fd : FuncData}
abbrev nLearnt : List Str := ["many", "row", "trail", "n", "literal", "held", "steps", "reason", "level", "at", "entries", "line"]
theorem scLearnt : FnScope nLearnt ["many", "row", "trail", "n"] (defScope sLearnt) := ⟨rfl, rfl, rfl, by decide +kernel, rfl, by decide +kernel, by decide +kernel⟩
theorem ok_learnt (F : FnP K "learnt" sLearnt f fd) (T : Tr.Tx mg)
    {fH fR fC : Addr} {dH dR dC : FuncData}
    (GH : FnOk P w K mg base CX0 1 fH dH ["held", "level"] (spHeldIn K)) (gH : mg "held_in" = some (.ref fH)) (kH : PySem.W.keepIn K (.ref fH) = true) (bH : Binds K dH ["held", "level"] [])
    (GR : FnOk P w K mg base CX0 1 fR dR ["held", "clause", "variable"] (spRes K)) (gR : mg "resolve_in" = some (.ref fR)) (kR : PySem.W.keepIn K (.ref fR) = true) (bR : Binds K dR ["held", "clause", "variable"] [])
    (GC : FnOk P w K mg base CX0 1 fC dC ["held"] (spCW)) (gC : mg "clause_with" = some (.ref fC)) (kC : PySem.W.keepIn K (.ref fC) = true) (bC : Binds K dC ["held"] [])
    : FnOk P w K mg base CX0 2 f fd ["many", "row", "trail", "n"] (spLearnt K) := by
  refine F.ok scLearnt (fun vs H Q E h => ?_) (fun cdv A outer s H vs Q E hr h => ?_)
  · obtain ⟨m, r, t, n, us, R, tr, l, c0, Iv, rfl, _⟩ := h
    rfl
  · obtain ⟨m, r, t, n, us, R, tr, l, c0, Iv, rfl, hr1, au, cz, ⟨ts, ht, aT⟩, tl, tz, ll, hc0, nd0, RU, q⟩ := h
    have hu := hu_of hr
    obtain ⟨vs, v, rfl, aV, lv⟩ := all2_snoc aT
    obtain ⟨la, es, rfl, hla, ae⟩ := lv
    have vl := aV.len
    have el := ae.len
    obtain ⟨y0, hy0, a0, rfl, ha0⟩ := au.get' hc0
    have hat0 : atI us ((n : Nat) : Int) = some (.ref a0) := at_of (j := n) rfl hy0
    have c0l := cz c0 (List.mem_of_getElem? hc0)
    refine ⟨_, PSs.nox (pss_cons (Dk.ps_setDc (i := 5) (own := [("literal", 4)]) (g := gName 4) (tt := tYes) rfl scLearnt.nd rfl rfl (Dt.sw_dict rfl rfl rfl (by decide +kernel)) (pi_tup (pe_ix (r := L2.rIxT K) (by exact ix_tup) (pv 1) (pv 3) (fun _ _ => rfl))) (blkOk_by (N := nLearnt) (sc := defScope sLearnt) (by decide +kernel)) (fun _ _ _ _ _ => pg_name (i := 4) scLearnt.nd rfl (Or.inl rfl)) (fun _ _ _ _ _ => pts_nil) (fun _ _ _ _ _ => (pv 4)) (fun _ _ _ _ _ => pe_bl))
      (pss_cons (ps_set (i := 6) scLearnt.nd rfl (Or.inl rfl) (pe_lst pa_nil))
      (C8.pss_cut (ps_for PassesOwn.never rfl (pi_tup (Rvt.pe_revT (pe_ix (r := L2.rIxT K) (by exact ix_tup) (pv 2) (pe_un un_neg pe_int) (fun _ _ => rfl)))) (pg_tup rfl (pgs_cons (pg_name (i := 4) scLearnt.nd rfl (Or.inl rfl)) (pgs_cons (pg_name (i := 7) scLearnt.nd rfl (Or.inl rfl)) pgs_nil)))
        (pss_one (ps_if (PW.pt (pw_and (pt_cmp (pc_din hu (pe_un un_neg (pv 4)) (pv 5))) (pw_and1 (pt_cmpR op_gt (pe_callB call_len_seq (by rfl) T.len PySem.boot_len (pa_cons (pe_call GH (hr.mono (by decide)) (by rfl) gH kH bH .nil pass0 (pa_cons (pv 5) (pa_cons (pe_ix (r := L2.rIxT K) (by exact ix_tup) (pv 2) (pe_un un_neg pe_int) (fun _ _ => rfl)) pa_nil))) pa_nil)) pe_int (nomark _)))))
          (pss_cons (ps_expr (pe_call GR (hr.mono (by decide)) (by rfl) gR kR bR .nil pass0 (pa_cons (pv 5) (pa_cons (pe_ix (r := L2.rIxT K) (by exact ix_tup) (pv 1) (pv 7) (fun _ _ => rfl)) (pa_cons (pe_callB call_abs (by rfl) T.abs (by decide +kernel) (pa_cons (pv 4) pa_nil)) pa_nil)))))
          (pss_one (ps_expr (pe_bm PySem.F.plainAttrs_list PySem.F.slot_list_append PySem.F.type_list_append mt_append (pv 6) (pa_cons (pe_tup (pa_cons (pe_callB call_abs (by rfl) T.abs (by decide +kernel) (pa_cons (pv 4) pa_nil)) (pa_cons (pv 7) pa_nil))) pa_nil)))))
          pss_nil)))
      (pss_cons (ps_set (i := 8) scLearnt.nd rfl (Or.inl rfl) pe_int)
      (C8.pss_cut (ps_for PassesOwn.never rfl (En.pi_enT (by rfl) T.enumerate (pa_cons (pe_slice sl_tupA (pv 2) po_none (po_some (pe_un un_neg pe_int))) pa_nil)) (pg_tup rfl (pgs_cons (pg_name (i := 9) scLearnt.nd rfl (Or.inl rfl)) (pgs_cons (pg_name (i := 10) scLearnt.nd rfl (Or.inl rfl)) pgs_nil)))
        (pss_one (ps_if (pt_truth (pe_call GH (hr.mono (by decide)) (by rfl) gH kH bH .nil pass0 (pa_cons (pv 5) (pa_cons (pv 10) pa_nil))) (by intro _; rfl))
          (pss_one (ps_set (i := 8) scLearnt.nd rfl (Or.inl rfl) (pv 9)))
          pss_nil)))
      (pss_cons (ps_set (i := 11) scLearnt.nd rfl (Or.inl rfl) (pe_ifExp (pt_truth (pv 6) (by intro _; rfl)) (pe_tup (pa_cons pe_str (pa_cons (pv 3) (pa_cons (pe_callTy (T := "tuple") (r := rTupOf K) (by exact call_tuple_of) (by rfl) T.tuple (by decide +kernel) (pa_cons (pv 6) pa_nil)) pa_nil)))) (pe_tup (pa_cons pe_str (pa_cons (pv 3) pa_nil)))))
      (pss_one (ps_ret (pe_tup (pa_cons (pv 11) (pa_cons (pe_call GC (hr.mono (by decide)) (by rfl) gC kC bC .nil pass0 (pa_cons (pv 5) pa_nil)) (pa_cons (pv 8) pa_nil)))))))))))), ?_⟩
    refine ⟨_, rfl, _, rfl, r, us, _, _, rfl, rfl, hr1, hat0, a0, rfl, ⟨_, ha0⟩, fun D nD => ?_⟩
    refine dc_tup (K := K) (a := a0) (xs := c0.map V.int) (fun j H1 => Same H H1 ∧ H1 D = some (trueD (c0.take j))) ⟨same_new nD, upd_same⟩ (fun j H1 _ ⟨s1, _⟩ => seqT_same s1 ha0) ?_ ?_
    · rintro j y H1 hj ⟨s1, hD⟩
      rw [List.getElem?_map] at hj
      obtain ⟨z, hz, rfl⟩ : ∃ z, c0[j]? = some z ∧ y = .int z := by
        cases e : c0[j]? with
        | none => rw [e] at hj; cases hj
        | some z => rw [e] at hj; exact ⟨z, rfl, (Option.some.inj hj).symm⟩
      have zn : ¬ z ∈ c0.take j := by
        obtain ⟨lt, e⟩ := List.getElem?_eq_some_iff.mp hz
        have e1 := List.take_append_drop j c0
        rw [List.drop_eq_getElem_cons lt, e] at e1
        rw [← e1] at nd0
        exact fun mm => (List.nodup_append.mp nd0).2.2 _ mm _ List.mem_cons_self rfl
      refine ⟨rfl, yes_of ⟨_, rfl, _, .inl z, rfl, hD, Nat.lt_of_le_of_lt (by rw [List.length_map, List.length_take]; omega : _ ≤ 500) (by decide), fun c o e => ?_, ?_⟩⟩
      · rw [upd_ne (ne_of_none e nD)]
        exact s1 _ _ e
      · rw [upd_same, put_true, take_more hz]
        unfold insT
        rw [if_neg zn]
        rfl
    rintro H1 ⟨s1, hD⟩
    rw [List.length_map, List.take_length] at hD
    refine ⟨len0, fun S nS => ?_⟩
    have sS := same_new (u := .lst []) nS
    have s02 := s1.trans sS
    have hD2 := sS _ _ hD
    have hS2 := upd_same (H := H1) (a := S) (o := .lst [])
    have DS : D ≠ S := ne_of_none hD nS
    have nSH : H S = none := by
      cases e : H S with
      | none => rfl
      | some o =>
        rw [s1 _ _ e] at nS
        cases nS
    generalize upd H1 S _ = H2 at s02 hD2 hS2 ⊢
    clear sS s1 hD nS
    refine ⟨fun σ H' => ∃ (x4 x7 : Option V) (hs : List Int) (st : List V) (ps : List (Nat × Nat)), σ = [some (.int (m : Nat)), some (.ref r), some (.ref t), some (.int (n : Nat)), x4, some (.ref D), some (.ref S), x7, none, none, none, none] ∧ Same H H' ∧ H' D = some (trueD hs) ∧ H' S = some (.lst st) ∧ st.length ≤ l.length ∧ Iv l.length hs ∧ All2 (StAt K H') st ps ∧ Steps R c0 ps hs, ?_, ?_⟩
    · refine ⟨_, rfl, _, rfl, t, _, _, _, rfl, rfl, seqT_same s02 ht, at_end, la, es, rfl, seqT_same s02 hla, fun rv nrv => ⟨rv, rfl, ⟨_, SqT.of upd_same⟩, ?_⟩⟩
      have srv := same_new (u := .tup es.reverse) nrv
      have hrv := upd_same (H := H2) (a := rv) (o := .tup es.reverse)
      have hD3 := srv _ _ hD2
      have hS3 := srv _ _ hS2
      have s03 := s02.trans srv
      have rvD : rv ≠ D := (ne_of_none hD2 nrv).symm
      have rvS : rv ≠ S := (ne_of_none hS2 nrv).symm
      generalize upd H2 rv _ = H3 at hrv hD3 hS3 s03 ⊢
      have rl : es.reverse.length = l.length := by rw [List.length_reverse, el]
      have ar : All2 (EnAt K H) es.reverse l.reverse := all2_rev ae
      refine for_tup (K := K) (a := rv) (xs := es.reverse)
        (fun j σ H' => ∃ (x4 x7 : Option V) (hs : List Int) (st : List V) (ps : List (Nat × Nat)), σ = [some (.int (m : Nat)), some (.ref r), some (.ref t), some (.int (n : Nat)), x4, some (.ref D), some (.ref S), x7, none, none, none, none] ∧ Same H H' ∧ SqT K H' rv es.reverse ∧ H' D = some (trueD hs) ∧ H' S = some (.lst st) ∧ st.length ≤ j ∧ Iv j hs ∧ All2 (StAt K H') st ps ∧ Steps R c0 ps hs)
        ⟨_, _, c0, [], [], rfl, s03, SqT.of hrv, hD3, hS3, Nat.le_refl _, RU.start, .nil, .nil⟩ (fun j σ H' _ ⟨_, _, _, _, _, _, _, h, _⟩ => h) ?_ ?_
      · rintro j y σ H4 hj ⟨x4, x7, hs, st, ps, rfl, s4, hrv4, hD4, hS4, stl, iv, aS, sts⟩
        obtain ⟨e, he, b, rfl, hb⟩ := ar.get hj
        have jl := (List.getElem?_eq_some_iff.mp he).1
        rw [List.length_reverse] at jl
        obtain ⟨hnd, hsz⟩ := RU.size j hs iv
        refine ⟨b, _, rfl, seqT_same s4 hb, rfl, _, _, rfl, _, _, rfl, rfl, ?_⟩
        refine ⟨_, rfl, _, rfl, _, rfl, D, _, rfl, get_true hD4 _, _, rfl, ?_⟩
        rw [some_true]
        refine ite2 (fun c => ?_) (fun c => ?_)
        · refine ⟨_, rfl, _, rfl, _, rfl, t, _, _, _, rfl, rfl, seqT_same s4 ht, at_end, D, .ref la, hs, l, rfl, hD4, ⟨la, es, rfl, seqT_same s4 hla, ae.imp fun _ _ h => h.firm (Firm.of s4)⟩, ll, fun H5 r5 s5 hr5 => ?_⟩
          have s05 := s4.trans s5
          refine ⟨r5, _, rfl, .inl (SqL.of hr5), _, _, rfl, rfl, _, rfl, ite2 (fun c2 => ?_) (fun c2 => ?_)⟩
          · have c2 := of_decide_eq_true c2
            rw [List.length_map] at c2
            have ak : asks hs l e = true := by
              unfold asks
              rw [c, Bool.true_and]
              exact decide_eq_true (by omega)
            obtain ⟨i, cl, e2, hcl, gd, nx⟩ := RU.go j hs e iv he ak
            obtain ⟨yc, hyc, ac, rfl, hac⟩ := au.get' hcl
            have hatc : atI us ((i : Nat) : Int) = some (.ref ac) := at_of (j := i) rfl hyc
            have cll := cz cl (List.mem_of_getElem? hcl)
            obtain ⟨x, rs⟩ := e
            obtain rfl : rs = some i := e2
            have eabs : (if x < 0 then -x else x) = ((x.natAbs : Nat) : Int) := by
              split <;> omega
            refine ⟨_, rfl, _, rfl, _, rfl, r, us, _, _, rfl, rfl, seqT_same s05 hr1, hatc, _, rfl, _, rfl, ?_⟩
            have hD5 := s5 _ _ hD4
            refine ⟨D, ac, hs, cl, x, by rw [eabs]; rfl, hD5, seqT_same s05 hac, hnd, by omega, gd.x0, gd.nx, gd.xn, gd.xc, gd.ok1, gd.ok2, gd.ok3, fun H6 hs' k6 h6 n6 l6 m6 => ?_⟩
            have f6 : Firm H5 H6 := Firm.but k6 hD5 rfl
            have s06 : Same H H6 := fun b o e => k6 b o (s05 b o e) (ne_of_none e nD)
            have hrv6 := firm_seq f6 (seqT_same s5 hrv4)
            have hS6 := k6 _ _ (s5 _ _ hS4) DS.symm
            refine ⟨_, rfl, .inl ⟨rfl, _, SqL.of hS6⟩, _, rfl, _, rfl, _, rfl, len2, fun e1 ne1 => ?_⟩
            have s7 := same_new (u := .tup [V.int (if x < 0 then -x else x), rV (some i)]) ne1
            refine ⟨S, st, _, rfl, rfl, s7 _ _ hS6, Nat.lt_of_le_of_lt (by omega : st.length ≤ 1000) (by decide), _, _, hs', st ++ [.ref e1], ps ++ [(x.natAbs, i)], rfl, fun b o e => ?_, firm_seq (Firm.upd (s7 _ _ hS6) rfl) (seqT_same s7 hrv6), ?_, upd_same, by rw [List.length_append]; show st.length + 1 ≤ j + 1; omega, nx hs' ⟨n6, m6⟩, (aS.imp fun _ _ h => h.firm (((Firm.of s5).trans f6).trans ((Firm.of s7).trans (Firm.upd (s7 _ _ hS6) rfl)))).snoc ⟨e1, rfl, firm_seq (Firm.upd (s7 _ _ hS6) rfl) (SqT.of (by rw [upd_same, eabs]; rfl))⟩, .snoc ps hs cl hs' x i sts hcl gd ⟨n6, m6⟩⟩
            · rw [upd_ne (ne_of_none e nSH)]
              exact s7 _ _ (s06 _ _ e)
            · rw [upd_ne DS]
              exact s7 _ _ h6
          · refine ⟨_, _, hs, st, ps, rfl, s05, seqT_same s5 hrv4, s5 _ _ hD4, s5 _ _ hS4, by omega, RU.keep j hs e iv he ?_, aS.imp fun _ _ h => h.firm (Firm.of s5), sts⟩
            have c2 := of_decide_eq_false (Bool.eq_false_iff.mpr c2)
            rw [List.length_map] at c2
            unfold asks
            rw [c, Bool.true_and]
            exact decide_eq_false (by omega)
        · refine iteF ⟨_, _, hs, st, ps, rfl, s4, hrv4, hD4, hS4, by omega, RU.keep j hs e iv he ?_, aS, sts⟩
          unfold asks
          rw [Bool.eq_false_iff.mpr c, Bool.false_and]
      · rintro σ H4 ⟨x4, x7, hs, st, ps, rfl, s4, hrv4, hD4, hS4, stl, iv, aS, sts⟩
        rw [rl] at iv stl
        exact ⟨_, _, hs, st, ps, rfl, s4, hD4, hS4, stl, iv, aS, sts⟩
    rintro σ H3 ⟨x4, x7, hs, st, ps, rfl, s3, hD3, hS3, stl, iv, aS, sts⟩
    obtain ⟨hnd, hsz⟩ := RU.size _ hs iv
    refine ⟨fun σ H' => ∃ (x9 x10 : Option V), σ = [some (.int (m : Nat)), some (.ref r), some (.ref t), some (.int (n : Nat)), x4, some (.ref D), some (.ref S), x7, some (.int (lvM hs tr tr.length : Nat)), x9, x10, none] ∧ Same H3 H', ?_, ?_⟩
    · refine ⟨_, rfl, _, rfl, _, rfl, init_use (seqT_same s3 ht) (by rw [List.length_append]; show 1 ≤ vs.length + 1; omega) fun t2 H4 s4 h4 => ⟨t2, _, rfl, h4, ?_⟩⟩
      rw [List.dropLast_concat] at h4
      refine En.for_enT (K := K) (a := t2) (xs := vs)
        (fun j σ H' => ∃ (x9 x10 : Option V), σ = [some (.int (m : Nat)), some (.ref r), some (.ref t), some (.int (n : Nat)), x4, some (.ref D), some (.ref S), x7, some (.int (lvM hs tr j : Nat)), x9, x10, none] ∧ Same H4 H')
        ⟨_, _, rfl, Same.refl _⟩ (fun j σ H' _ ⟨_, _, _, s⟩ => seqT_same s h4) ?_ ?_
      · rintro j y σ H5 T1 hy ⟨x9, x10, rfl, s5⟩ nT
        obtain ⟨x, hx, a, us', rfl, ha, ax⟩ := aV.get hy
        have sT := same_new (u := .tup [.int (j : Nat), .ref a]) nT
        have s05 := s3.trans (s4.trans (s5.trans sT))
        have s35 := s4.trans (s5.trans sT)
        refine ⟨T1, _, rfl, SqT.of upd_same, rfl, _, _, rfl, _, _, rfl, rfl, ?_⟩
        refine ⟨_, rfl, _, rfl, D, .ref a, hs, x, rfl, s35 _ _ hD3, ⟨a, us', rfl, seqT_same s05 ha, ax.imp fun _ _ h => h.firm (Firm.of s05)⟩, tz x (List.mem_of_getElem? hx), fun H6 r6 s6 hr6 => ⟨_, .inl ⟨_, SqL.of hr6, rfl⟩, ?_⟩⟩
        have s46 := s5.trans (sT.trans s6)
        cases e : heldM hs x with
        | nil =>
          refine iteF ⟨some (.int (j : Nat)), some (.ref a), ?_, s46⟩
          have e1 : lvM hs tr (j + 1) = lvM hs tr j := by
            show (if ((tr[j]?).map fun l => heldM hs l) = some [] then lvM hs tr j else if tr[j]?.isSome then j else lvM hs tr j) = _
            rw [hx]
            exact if_pos (congrArg some e)
          rw [e1]
          rfl
        | cons z zs =>
          refine iteT ⟨_, rfl, some (.int (j : Nat)), some (.ref a), ?_, s46⟩
          have e1 : lvM hs tr (j + 1) = j := by
            show (if ((tr[j]?).map fun l => heldM hs l) = some [] then lvM hs tr j else if tr[j]?.isSome then j else lvM hs tr j) = _
            rw [hx, if_neg (by show ¬ some (heldM hs x) = some []; rw [e]; simp)]
            exact if_pos rfl
          rw [e1]
          rfl
      · rintro σ H5 ⟨x9, x10, rfl, s5⟩
        rw [vl]
        exact ⟨_, _, rfl, s4.trans s5⟩
    rintro σ H4 ⟨x9, x10, rfl, s4⟩
    have s04 := s3.trans s4
    have hD4 := s4 _ _ hD3
    have hS4 := s4 _ _ hS3
    refine ⟨_, rfl, _, .inl ⟨st, SqL.of hS4, rfl⟩, ?_⟩
    cases st with
    | nil =>
      refine iteF ⟨_, rfl, len2, fun y ny => ?_⟩
      have s5 := same_new (u := .tup [V.str "given", .int (n : Nat)]) ny
      refine ⟨_, rfl, _, rfl, D, hs, rfl, s5 _ _ hD4, by omega, fun H6 c s6 hc => ⟨_, rfl, len3, fun p np => ?_⟩⟩
      have s7 := same_new (u := .tup [V.ref y, .ref c, .int (lvM hs tr tr.length : Nat)]) np
      cases aS
      exact q _ p y c hs [] (s04.trans (s5.trans (s6.trans s7))) iv sts (.inl ⟨rfl, (s6.trans s7) _ _ upd_same⟩) upd_same (s7 _ _ hc)
    | cons z zs =>
      refine iteT ⟨_, rfl, _, rfl, S, _, rfl, .inl ⟨SqL.of hS4, fun t5 nt5 => ⟨len3, fun y ny => ?_⟩⟩⟩
      have s5 := same_new (u := .tup (z :: zs)) nt5
      have s6 := same_new (u := .tup [V.str "chain", .int (n : Nat), .ref t5]) ny
      refine ⟨_, rfl, _, rfl, D, hs, rfl, (s5.trans s6) _ _ hD4, by omega, fun H6 c s7 hc => ⟨_, rfl, len3, fun p np => ?_⟩⟩
      have s8 := same_new (u := .tup [V.ref y, .ref c, .int (lvM hs tr tr.length : Nat)]) np
      refine q _ p y c hs ps (s04.trans (s5.trans (s6.trans (s7.trans s8)))) iv sts (.inr ⟨(fun e => by rw [e] at aS; cases aS), t5, _, (s7.trans s8) _ _ upd_same, (s6.trans (s7.trans s8)) _ _ upd_same, aS.imp fun _ _ h => h.firm (Firm.of (s4.trans (s5.trans (s6.trans (s7.trans s8)))))⟩) upd_same (s8 _ _ hc)
end
end Tc
namespace Td
open PySem PySem.Spec PyProof.Rows L2 Pen Dat Ki Fi Gr No Lf Cm Cn Abk Tr Ta Tb
/-! ## k28: the law's own rank, power, literals -/
def spLits (K : PySem.W.Frag) : Sp := fun vs H Q _ => ∃ (t : Addr) (tr : Trail), vs = [.ref t] ∧ TrAt K H t tr ∧ (litsM tr).length ≤ 1000 ∧ ∀ (H' : Hp) (l : Addr), Same H H' → H' l = some (.lst ((litsM tr).map V.int)) → Q (.ref l) H'
section
variable {P : Program} {w : World} {K : PySem.W.Frag} {mg : Str → Option Value} {base : Heap} {f : Addr} {fd : FuncData}
abbrev nLLits : List Str := ["_law_trail", "_law_found", "_law_level", "_law_entry"]
theorem scLLits : FnScope nLLits ["_law_trail"] (defScope sLits) := ⟨rfl, rfl, rfl, by decide +kernel, rfl, by decide +kernel, by decide +kernel⟩
theorem ok_llits (F : FnP K "_law_literals" sLits f fd) (T : Tr.Tx mg) : FnOk P w K mg base CX0 1 f fd ["_law_trail"] (spLits K) := by
  refine F.ok scLLits (fun vs H Q E h => ?_) (fun cdv A outer s H vs Q E hr h => ?_)
  · obtain ⟨t, tr, rfl, _⟩ := h
    rfl
  · obtain ⟨t, tr, rfl, ⟨us, ht, au⟩, hl', q⟩ := h
    refine ⟨_, PSs.nox (pss_cons (ps_set (i := 1) scLLits.nd rfl (Or.inl rfl) (pe_lst pa_nil))
      (pss_cons (ps_for PassesOwn.never rfl (pi_tup (pv 0)) (pg_name (i := 2) scLLits.nd rfl (Or.inl rfl))
        (pss_one (ps_set (i := 1) scLLits.nd rfl (Or.inl rfl) (pe_op op_cat (pv 1) (pe_lc (own := [("_law_entry", 3)]) (g := gName 3) (tt := tYes) rfl scLLits.nd (pi_tup (pv 2)) (blkOk_by (N := nLLits) (sc := defScope sLits) (by decide +kernel)) (fun _ _ _ _ _ => pg_name (i := 3) scLLits.nd rfl (Or.inl rfl)) (fun _ _ _ _ _ => pts_nil) (fun _ _ _ _ _ => (pe_ix (r := L2.rIxT K) (by exact ix_tup) (pv 3) pe_int (fun _ _ => rfl))))))))
      (pss_one (ps_ret (pv 1))))), ?_⟩
    refine ⟨len0, fun L0 n0 => ?_⟩
    have s0 := same_new (u := .lst []) n0
    refine ⟨_, rfl, t, rfl, ⟨_, seqT_same s0 ht⟩, for_tup (K := K) (a := t) (xs := us)
      (fun i σ H' => ∃ (x2 : Option V) (L : Addr), σ = [some (.ref t), some (.ref L), x2, none] ∧ Same H H' ∧ H' L = some (.lst ((litsM (tr.take i)).map V.int))) ⟨_, L0, rfl, s0, upd_same⟩ (fun i σ H' _ ⟨_, _, _, s, _⟩ => seqT_same s ht) ?_ ?_⟩
    · rintro i y σ H1 hy ⟨x2, L, rfl, s1, hL⟩
      obtain ⟨l, hl, a, vs, rfl, ha, av⟩ := au.get hy
      have vl := av.len
      have et : litsM tr = litsM (tr.take i) ++ (l.map Prod.fst ++ litsM (tr.drop (i + 1))) := by
        obtain ⟨lt, e⟩ := List.getElem?_eq_some_iff.mp hl
        have e1 := List.take_append_drop i tr
        rw [List.drop_eq_getElem_cons lt, e] at e1
        unfold litsM
        rw [← List.map_append, ← List.map_append, ← List.flatten_cons, ← List.flatten_append, e1]
      have zz : (litsM (tr.take i)).length + l.length ≤ 1000 := by
        have := congrArg List.length et
        rw [List.length_append, List.length_append, List.length_map] at this
        omega
      refine ⟨_, rfl, _, rfl, a, rfl, ⟨_, seqT_same s1 ha⟩, fun D nD => ?_⟩
      refine lc_tup (K := K) (a := a) (xs := vs) (fun j H2 => Same H1 H2 ∧ H2 D = some (.lst (((l.take j).map Prod.fst).map V.int))) ⟨same_new nD, upd_same⟩ (fun j H2 _ ⟨s2, _⟩ => seqT_same (s1.trans s2) ha) ?_ ?_
      · rintro j z H2 hj ⟨s2, hD⟩
        obtain ⟨e, he, b, rfl, hb⟩ := av.get hj
        refine ⟨rfl, yes_of ?_⟩
        refine ⟨_, rfl, b, _, 0, _, rfl, rfl, seqT_same (s1.trans s2) hb, at_of (j := 0) rfl rfl, _, hD, ?_, fun c o e => ?_, ?_⟩
        · rw [List.length_map, List.length_map, List.length_take]
          exact Nat.lt_of_le_of_lt (by omega : min j l.length ≤ 1000) (by decide)
        · rw [upd_ne (ne_of_none e nD)]
          exact s2 _ _ e
        · rw [upd_same, take_more he, List.map_append, List.map_append]
          rfl
      · rintro H2 ⟨s2, hD⟩
        rw [vl, List.take_length] at hD
        refine ⟨L, D, _, _, rfl, rfl, s2 _ _ hL, hD, Nat.le_trans (by rw [List.length_map, List.length_map, List.length_map]; exact zz) (by decide), fun L2 n2 => ?_⟩
        have s3 := same_new (u := .lst ((litsM (tr.take i)).map V.int ++ (l.map Prod.fst).map V.int)) n2
        refine ⟨some (.ref a), L2, rfl, s1.trans (s2.trans s3), ?_⟩
        rw [upd_same, take_more hl]
        unfold litsM
        rw [List.flatten_append, List.map_append, List.map_append]
        show some (HO.lst (_ ++ _)) = some (HO.lst (_ ++ ((l ++ []).map Prod.fst).map V.int))
        rw [List.append_nil]
    · rintro σ H1 ⟨x2, L, rfl, s1, hL⟩
      rw [au.len, List.take_length] at hL
      exact ⟨_, rfl, q H1 L s1 hL⟩
end
end Td
namespace Te
open PySem PySem.Spec PyProof.Rows L2 Pen Dat Ki Fi Gr No Lf Cm Cn Abk Tr Ta Tb
/-! ## k28: which bits fit a clause -/
def fitB (as : List Int) (z : Int) : Bool := decide (as.getD (z.natAbs - 1) 0 = if z > 0 then 1 else 0)
theorem sh_list1 : ∀ k : Nat, SeqAt.shaped (.list (List.replicate k (.int 1))) = true := fun k => by
  have : PyData.canLayAll0 (List.replicate k (.int 1)) = true ∧ PyData.depthAll (List.replicate k (.int 1)) = 0 := by
    induction k with
    | zero => exact ⟨rfl, rfl⟩
    | succ k ih =>
      rw [List.replicate_succ]
      refine ⟨?_, ?_⟩
      · show ((PyData.int 1).canLay0 && PyData.canLayAll0 (List.replicate k (.int 1))) = true
        rw [ih.1]
        rfl
      · show max (PyData.int 1).depth (PyData.depthAll (List.replicate k (.int 1))) = 0
        rw [ih.2]
        rfl
  show (PyData.canLayAll0 _ && decide (PyData.depthAll _ + 1 ≤ 64)) = true
  rw [this.1, this.2]
  rfl
theorem dp_ones (K : PySem.W.Frag) (H : Hp) : ∀ k : Nat, DpAll K H (List.replicate k (V.int 1)) (List.replicate k (.int 1))
  | 0 => .nil
  | k + 1 => by
    rw [List.replicate_succ, List.replicate_succ]
    exact .cons (.int 1) (dp_ones K H k)
theorem ones_nil (k : Nat) : PyData.eqv (.list (List.replicate k (.int 1))) (.list []) = decide (k = 0) := by
  cases k with
  | zero => rfl
  | succ k => simp [List.replicate_succ, PyData.eqv, PyData.eqvAll]
section
variable {P : Program} {w : World} {K : PySem.W.Frag} {mg : Str → Option Value} {base : Heap} {f : Addr} {fd : FuncData}
end
end Te
namespace Tg
open PySem PySem.Spec PyProof.Rows L2 Pen Dat Ki Fi Gr No Lf Cm Cn Abk Tr Ta Tb Te
/-! ## k28: drawn clauses, drawn rows -/
theorem lay_int : ∀ r : List Int, PyData.canLayAll0 (r.map .int) = true ∧ PyData.depthAll (r.map .int) = 0
  | [] => ⟨rfl, rfl⟩
  | x :: r => by
    obtain ⟨a, b⟩ := lay_int r
    refine ⟨?_, ?_⟩
    · show ((PyData.int x).canLay0 && PyData.canLayAll0 (r.map .int)) = true
      rw [a]
      rfl
    · show max (PyData.int x).depth (PyData.depthAll (r.map .int)) = 0
      rw [b]
      rfl
theorem sh_ints (r : List Int) : SeqAt.shaped (.list (r.map .int)) = true := by
  obtain ⟨a, b⟩ := lay_int r
  show (PyData.canLayAll0 (r.map .int) && decide (PyData.depthAll (r.map .int) + 1 ≤ 64)) = true
  rw [a, b]
  rfl
theorem lst_nilI (r : List Int) : PyData.eqv (.list (r.map .int)) (.list []) = decide (r = []) := by
  cases r with
  | nil => rfl
  | cons x r => simp [PyData.eqv, PyData.eqvAll]
def spDC : Sp := fun vs H Q _ => ∃ (p c : Addr) (k : Nat) (m mo : Int), vs = [.ref p, .int m, .int mo] ∧ PenC H p c k ∧ k ≤ 100000000 ∧ 1 ≤ m ∧ m ≤ 6 ∧
  ∀ (H' : Hp) (t : Addr) (cl : List Int), PenC H' p c (k + 13) → But p H H' → H' t = some (.tup (cl.map V.int)) → (cl.length : Int) ≤ m → (∀ z ∈ cl, z ≠ 0 ∧ (z.natAbs : Int) ≤ m) → (cl.map Int.natAbs).Pairwise (· < ·) → cl ≠ [] → Q (.ref t) H'
section
variable {P : Program} {w : World} {K : PySem.W.Frag} {mg : Str → Option Value} {base : Heap} {f : Addr} {fd : FuncData}
abbrev nLDC : List Str := ["_law_pen_here", "_law_many", "_law_most", "_law_variable", "_law_some"]
theorem scLDC : FnScope nLDC ["_law_pen_here", "_law_many", "_law_most"] (defScope sLDrawnClause) := ⟨rfl, rfl, rfl, by decide +kernel, rfl, by decide +kernel, by decide +kernel⟩
theorem ok_dc (F : FnP K "_law_drawn_clause" sLDrawnClause f fd) (T : Tr.Tx mg)
    {fD fK : Addr} {dD dK : FuncData}
    (GD : FnOk P w K mg base CX0 1 fD dD ["_law_pen_here", "_law_many"] (spDraw)) (gD : mg "_law_draw" = some (.ref fD)) (kD : PySem.W.keepIn K (.ref fD) = true) (bD : Binds K dD ["_law_pen_here", "_law_many"] [])
    (GK : FnOk P w K mg base CX0 2 fK dK ["_law_pen_here", "_law_some"] (spPick K)) (gK : mg "_law_pick" = some (.ref fK)) (kK : PySem.W.keepIn K (.ref fK) = true) (bK : Binds K dK ["_law_pen_here", "_law_some"] [])
    : FnOk P w K mg base CX0 3 f fd ["_law_pen_here", "_law_many", "_law_most"] spDC := by
  refine F.ok scLDC (fun vs H Q E h => ?_) (fun cdv A outer s H vs Q E hr h => ?_)
  · obtain ⟨p, c, k, m, mo, rfl, _⟩ := h
    rfl
  · obtain ⟨p, c, k, m, mo, rfl, hP, hk, m1, m4, q⟩ := h
    refine ⟨_, PSs.nox (pss_cons (ps_setLc (i := 4) (own := [("_law_variable", 3)]) (g := gName 3) (by rfl) scLDC.nd rfl rfl (sw_true rfl rfl rfl (by decide +kernel)) (pi_range2 (by rfl) T.range (pa_cons pe_int (pa_cons (pe_op op_add (pv 1) pe_int) pa_nil))) (blkOk_by (N := nLDC) (sc := defScope sLDrawnClause) (by decide +kernel)) (fun _ _ _ _ _ => pg_name (i := 3) scLDC.nd rfl (Or.inl rfl)) (fun _ _ _ _ _ => pts_one (pt_cmpR op_lt (pe_call GD (hr.mono (by decide)) (by rfl) gD kD bD .nil pass0 (pa_cons (pv 0) (pa_cons (pv 1) pa_nil))) (pv 2) (nomark _))) (fun _ _ _ _ _ => (pv 3)))
      (C8.pss_cut (ps_set (i := 4) scLDC.nd rfl (Or.inl rfl) (pe_ifExp (pt_cmpR (op_neD hr.units) (pv 4) (pe_lst pa_nil) (nomark _)) (pv 4) (pe_lst (pa_cons (pe_op op_add pe_int (pe_call GD (hr.mono (by decide)) (by rfl) gD kD bD .nil pass0 (pa_cons (pv 0) (pa_cons (pv 1) pa_nil)))) pa_nil))))
      (pss_one (ps_ret (pe_callTy (T := "tuple") (r := rTupOf K) (by exact call_tuple_of) (by rfl) T.tuple (by decide +kernel) (pa_cons (pe_lc (own := [("_law_variable", 3)]) (g := gName 3) (tt := tYes) rfl scLDC.nd (pi_list (pv 4)) (blkOk_by (N := nLDC) (sc := defScope sLDrawnClause) (by decide +kernel)) (fun _ _ _ _ _ => pg_name (i := 3) scLDC.nd rfl (Or.inl rfl)) (fun _ _ _ _ _ => pts_nil) (fun _ _ _ _ _ => (pe_op op_mul (pv 3) (pe_call GK (hr.mono (by decide)) (by rfl) gK kK bK .nil pass0 (pa_cons (pv 0) (pa_cons (pe_lst (pa_cons pe_int (pa_cons (pe_un un_neg pe_int) pa_nil))) pa_nil)))))) pa_nil)))))), ?_⟩
    refine ⟨_, rfl, _, _, rfl, rfl, 1, m + 1, rfl, ⟨by decide, by decide, by omega, by omega⟩, fun D nD => ?_⟩
    obtain ⟨Dp, Dc⟩ := hP.free nD
    have en : (m + 1 - 1).toNat = m.toNat := by omega
    rw [en]
    refine lc_range (lo := 1) (n := m.toNat) (fun j H' => PenC H' p c (k + j) ∧ But p H H' ∧ ∃ xs : List Int, H' D = some (.lst (xs.map V.int)) ∧ xs.length ≤ j ∧ (∀ z ∈ xs, 1 ≤ z ∧ z ≤ m ∧ z ≤ j) ∧ xs.Pairwise (· < ·)) ⟨hP.same (same_new nD), But.of_same (same_new nD), [], upd_same, Nat.le_refl _, (fun z h => by cases h), List.Pairwise.nil⟩ ?_ ?_
    · rintro j H1 hj ⟨P1, B1, xs, h1, l1, a1, d1'⟩
      refine ⟨rfl, ?_⟩
      refine ⟨_, rfl, _, rfl, p, c, k + j, m, rfl, P1, by omega, by omega, by omega, fun d H2 d0 d1 P2 B2 => ?_⟩
      have h2 := B2 _ _ h1 Dp
      refine ⟨_, rfl, _, _, rfl, rfl, _, rfl, ite2 (fun _ => ?_) (fun _ => ?_)⟩
      · refine ⟨_, rfl, _, h2, ?_, P2.upd Dp Dc, fun b o e ne => ?_, xs ++ [1 + (j : Int)], ?_, ?_, fun z hz => ?_, List.pairwise_append.mpr ⟨d1', List.pairwise_singleton _ _, fun u hu v hv => by rw [List.mem_singleton.mp hv]; have := (a1 u hu).2.2; omega⟩⟩
        · rw [List.length_map]
          exact Nat.lt_of_lt_of_le (by omega : xs.length < 10) (by decide)
        · rw [upd_ne (ne_of_none e nD)]
          exact B2 _ _ (B1 _ _ e ne) ne
        · rw [upd_same, List.map_append]
          rfl
        · rw [List.length_append]
          show xs.length + 1 ≤ j + 1
          omega
        · rcases List.mem_append.mp hz with h | h
          · have := a1 z h
            omega
          · rw [List.mem_singleton.mp h]
            omega
      · exact ⟨P2, B1.trans B2, xs, h2, by omega, fun z hz => (by have := a1 z hz; omega), d1'⟩
    rintro H1 ⟨P1, B1, xs, h1, l1, a1, nx⟩
    have m0 : (m.toNat : Int) = m := by omega
    refine ⟨fun σ H' => ∃ (D2 : Addr) (ys : List Int), σ = [some (.ref p), some (.int m), some (.int mo), none, some (.ref D2)] ∧ PenC H' p c (k + 7) ∧ But p H H' ∧ H' D2 = some (.lst (ys.map V.int)) ∧ D2 ≠ p ∧ (ys.length : Int) ≤ m ∧ (∀ z ∈ ys, 1 ≤ z ∧ z ≤ m) ∧ ys.Pairwise (· < ·) ∧ ys ≠ [], ?_, ?_⟩
    · refine ⟨_, rfl, (by show 0 ≤ sizeLine; decide), fun D0 n0 => ?_⟩
      have h1' := same_new (u := .lst []) n0 _ _ h1
      refine ⟨_, _, .lst (SqL.of h1') (ints_dp _), .lst (SqL.of upd_same) .nil, sh_ints _, by decide +kernel, _, rfl, ?_⟩
      rw [lst_nilI]
      have P2 := P1.same (same_new (u := .lst []) n0)
      have B2 : But p H (upd H1 D0 (.lst [])) := B1.trans (But.of_same (same_new n0))
      refine ite2 (fun cc => ?_) (fun _ => ?_)
      · exact ⟨_, rfl, D, xs, rfl, P2.more (by omega), B2, h1', Dp, by omega, (fun z hz => by have := a1 z hz; omega), nx, fun e => by rw [e] at cc; cases cc⟩
      · refine ⟨_, rfl, _, rfl, p, c, _, m, rfl, P2, by omega, by omega, by omega, fun d H3 d0 d1 P3 B3 => ⟨_, _, rfl, rfl, (by show 1 ≤ sizeLine; decide), fun D3 n3 => ?_⟩⟩
        have s3 := same_new (u := .lst [V.int (1 + d)]) n3
        refine ⟨D3, [1 + d], rfl, (P3.same s3).more (by omega), B2.trans (B3.trans (But.of_same s3)), upd_same, (P3.free n3).1, by show ((1 : Nat) : Int) ≤ m; omega, fun z hz => ?_, by simp, List.cons_ne_nil _ _⟩
        rw [List.mem_singleton.mp hz]
        omega
    clear P1 B1 h1 l1 a1 nD Dp Dc
    rintro σ H1 ⟨D2, ys, rfl, P1, B1, h1, ne, l1, a1, ny, yne⟩
    refine ⟨_, rfl, D2, rfl, ⟨_, SqL.of h1⟩, fun D nD => ?_⟩
    obtain ⟨Dp, Dc⟩ := P1.free nD
    refine lc_list (K := K) (a := D2) (xs := ys.map V.int) (fun j H' => PenC H' p c (k + 7 + j) ∧ But p H1 H' ∧ ∃ xs : List Int, H' D = some (.lst (xs.map V.int)) ∧ xs.length = j ∧ (∀ z ∈ xs, z ≠ 0 ∧ (z.natAbs : Int) ≤ m) ∧ xs.map Int.natAbs = (ys.take j).map Int.natAbs) ⟨P1.same (same_new nD), But.of_same (same_new nD), [], upd_same, rfl, (fun z h => by cases h), rfl⟩ (fun j H' _ ⟨_, B, _⟩ => SqL.of (B _ _ h1 ne)) ?_ ?_
    · rintro j y H2 hj ⟨P2, B2, xs, h2, l2, a2, e2⟩
      rw [List.getElem?_map] at hj
      obtain ⟨z, hz, rfl⟩ : ∃ z, ys[j]? = some z ∧ y = .int z := by
        cases e : ys[j]? with
        | none => rw [e] at hj; cases hj
        | some z => rw [e] at hj; exact ⟨z, rfl, (Option.some.inj hj).symm⟩
      have hj2 := (List.getElem?_eq_some_iff.mp hz).1
      obtain ⟨z1, z2⟩ := a1 z (List.mem_of_getElem? hz)
      refine ⟨rfl, yes_of ?_⟩
      refine ⟨_, rfl, _, rfl, _, rfl, (by show 2 ≤ sizeLine; decide), fun L nL => ?_⟩
      have sL := same_new (u := .lst [V.int 1, V.int (-1)]) nL
      refine ⟨p, c, L, _, [V.int 1, V.int (-1)], rfl, P2.same sL, by omega, (P2.free nL).1, SqL.of upd_same, (by show 0 < 2; decide), (by show 2 ≤ 1000; decide), fun v e H3 hv P3 B3 => ?_⟩
      obtain ⟨x, rfl, hx⟩ : ∃ x : Int, v = .int x ∧ (x = 1 ∨ x = -1) := by
        match e, hv with
        | 0, hv => exact ⟨1, (Option.some.inj hv).symm, .inl rfl⟩
        | 1, hv => exact ⟨-1, (Option.some.inj hv).symm, .inr rfl⟩
        | e + 2, hv => cases hv
      have h3 := B3 _ _ (sL _ _ h2) Dp
      refine ⟨z, x, rfl, rfl, .inl ⟨by omega, by omega⟩, _, h3, ?_, P3.upd Dp Dc, fun b o e ne => ?_, xs ++ [z * x], ?_, by rw [List.length_append, l2]; rfl, fun y hy => ?_, ?_⟩
      · rw [List.length_map]
        exact Nat.lt_of_lt_of_le (by omega : xs.length < 10) (by decide)
      · rw [upd_ne (ne_of_none e nD)]
        exact B3 _ _ (sL _ _ (B2 _ _ e ne)) ne
      · rw [upd_same, List.map_append]
        rfl
      · rcases List.mem_append.mp hy with h | h
        · exact a2 y h
        · rw [List.mem_singleton.mp h]
          rcases hx with rfl | rfl <;> omega
      · rw [take_more hz, List.map_append, List.map_append, e2]
        show _ ++ [(z * x).natAbs] = _ ++ [z.natAbs]
        rcases hx with rfl | rfl
        · rw [Int.mul_one]
        · rw [show z * -1 = -z by omega, Int.natAbs_neg]
    · rintro H2 ⟨P2, B2, xs, h2, l2, a2, e2⟩
      rw [List.length_map] at l2 P2
      refine ⟨D, _, rfl, .inl ⟨SqL.of h2, fun t nt => ?_⟩⟩
      have st := same_new (u := .tup (xs.map V.int)) nt
      rw [List.length_map, List.take_length] at e2
      refine q _ t xs ((P2.same st).more (by omega)) (B1.trans (B2.trans (But.of_same st))) upd_same (by omega) a2 ?_ (fun e => yne (List.eq_nil_of_length_eq_zero (by rw [← l2, e]; rfl)))
      rw [e2]
      refine List.pairwise_map.mpr (ny.imp_of_mem fun {u v} hu hv h => ?_)
      have := a1 u hu
      have := a1 v hv
      omega
end
end Tg
namespace Th
open PySem PySem.Spec PyProof.Rows L2 Pen Dat Ki Fi Gr No Lf Cm Cn Abk Tr Ta Tb Te Tg
/-! ## k28: drawn rows of clauses -/
theorem len4 : 4 ≤ sizeLine := by decide
/-- a clause: unlike variables from 1 to m -/
structure COk (m : Nat) (cl : List Int) : Prop where
  up : (cl.map Int.natAbs).Pairwise (· < ·)
  ok : ∀ z ∈ cl, z ≠ 0 ∧ z.natAbs ≤ m
  ne : cl ≠ []
theorem COk.nd {m : Nat} {cl : List Int} (h : COk m cl) : (cl.map Int.natAbs).Nodup := h.up.imp fun h e => by omega
def spDR (K : PySem.W.Frag) : Sp := fun vs H Q _ => ∃ (p c : Addr) (k m n : Nat), vs = [.ref p, .int (m : Nat), .int (n : Nat)] ∧ PenC H p c k ∧ k ≤ 1000000 ∧ 1 ≤ m ∧ m ≤ 6 ∧ n ≤ 20 ∧
  ∀ (H' : Hp) (t : Addr) (us : List V) (R : CRow), PenC H' p c (k + 280) → But p H H' → H' t = some (.tup us) → All2 (Tu K H') us R → R.length = n → (∀ cl ∈ R, COk m cl) → Q (.ref t) H'
section
variable {P : Program} {w : World} {K : PySem.W.Frag} {mg : Str → Option Value} {base : Heap} {f : Addr} {fd : FuncData}
abbrev nLDR : List Str := ["_law_pen_here", "_law_many", "_law_rows", "_law_k"]
theorem scLDR : FnScope nLDR ["_law_pen_here", "_law_many", "_law_rows"] (defScope sLDrawnRow) := ⟨rfl, rfl, rfl, by decide +kernel, rfl, by decide +kernel, by decide +kernel⟩
theorem ok_dr (F : FnP K "_law_drawn_row" sLDrawnRow f fd) (T : Tr.Tx mg)
    {fL fK : Addr} {dL dK : FuncData}
    (GL : FnOk P w K mg base CX0 3 fL dL ["_law_pen_here", "_law_many", "_law_most"] (spDC)) (gL : mg "_law_drawn_clause" = some (.ref fL)) (kL : PySem.W.keepIn K (.ref fL) = true) (bL : Binds K dL ["_law_pen_here", "_law_many", "_law_most"] [])
    (GK : FnOk P w K mg base CX0 2 fK dK ["_law_pen_here", "_law_some"] (spPick K)) (gK : mg "_law_pick" = some (.ref fK)) (kK : PySem.W.keepIn K (.ref fK) = true) (bK : Binds K dK ["_law_pen_here", "_law_some"] [])
    : FnOk P w K mg base CX0 4 f fd ["_law_pen_here", "_law_many", "_law_rows"] (spDR K) := by
  refine F.ok scLDR (fun vs H Q E h => ?_) (fun cdv A outer s H vs Q E hr h => ?_)
  · obtain ⟨p, c, k, m, n, rfl, _⟩ := h
    rfl
  · obtain ⟨p, c, k, m, n, rfl, hP, hk, m1, m6, n20, q⟩ := h
    refine ⟨_, PSs.nox (pss_one (ps_ret (pe_callTy (T := "tuple") (r := rTupOf K) (by exact call_tuple_of) (by rfl) T.tuple (by decide +kernel) (pa_cons (pe_lc (own := [("_law_k", 3)]) (g := gName 3) (tt := tYes) rfl scLDR.nd (pi_range1 (by rfl) T.range (pa_cons (pv 2) pa_nil)) (blkOk_by (N := nLDR) (sc := defScope sLDrawnRow) (by decide +kernel)) (fun _ _ _ _ _ => pg_name (i := 3) scLDR.nd rfl (Or.inl rfl)) (fun _ _ _ _ _ => pts_nil) (fun _ _ _ _ _ => (pe_call GL (hr.mono (by decide)) (by rfl) gL kL bL .nil pass0 (pa_cons (pv 0) (pa_cons (pv 1) (pa_cons (pe_call GK (hr.mono (by decide)) (by rfl) gK kK bK .nil pass0 (pa_cons (pv 0) (pa_cons (pe_lst (pa_cons pe_int (pa_cons pe_int (pa_cons pe_int (pa_cons pe_int pa_nil))))) pa_nil))) pa_nil)))))) pa_nil)))), ?_⟩
    refine ⟨_, rfl, (n : Nat), rfl, by omega, by omega, fun D nD => ?_⟩
    obtain ⟨Dp, Dc⟩ := hP.free nD
    refine lc_range (lo := 0) (n := ((n : Nat) : Int).toNat) (fun j H' => PenC H' p c (k + 14 * j) ∧ But p H H' ∧ ∃ us R, H' D = some (.lst us) ∧ All2 (Tu K H') us R ∧ R.length = j ∧ ∀ cl ∈ R, COk m cl) ⟨hP.same (same_new nD), But.of_same (same_new nD), [], [], upd_same, .nil, rfl, fun cl h => by cases h⟩ ?_ ?_
    · rintro j H1 hj ⟨P1, B1, us, R, h1, a1, l1, c1⟩
      have hj : j < n := hj
      refine ⟨rfl, yes_of ?_⟩
      refine ⟨_, rfl, _, rfl, _, rfl, len4, fun L nL => ?_⟩
      have sL := same_new (u := .lst [V.int 1, V.int 2, V.int 2, V.int 3]) nL
      refine ⟨p, c, L, _, [V.int 1, V.int 2, V.int 2, V.int 3], rfl, P1.same sL, by omega, (P1.free nL).1, SqL.of upd_same, (by show 0 < 4; decide), (by show 4 ≤ 1000; decide), fun v e H3 hv P3 B3 => ?_⟩
      obtain ⟨x, rfl⟩ : ∃ x : Int, v = .int x := by
        match e, hv with
        | 0, hv => exact ⟨1, (Option.some.inj hv).symm⟩
        | 1, hv => exact ⟨2, (Option.some.inj hv).symm⟩
        | 2, hv => exact ⟨2, (Option.some.inj hv).symm⟩
        | 3, hv => exact ⟨3, (Option.some.inj hv).symm⟩
        | e + 4, hv => cases hv
      have f3 := (Firm.of sL).trans (Firm.pen B3 (P1.same sL))
      have h3 := B3 _ _ (sL _ _ h1) Dp
      refine ⟨p, c, _, (m : Nat), x, rfl, P3, by omega, by omega, by omega, fun H4 t cl P4 B4 ht cll clz cln cne => ?_⟩
      have f4 := Firm.pen B4 P3
      have h4 := B4 _ _ h3 Dp
      have ul := a1.len
      have f5 : Firm H4 (upd H4 D (.lst (us ++ [.ref t]))) := Firm.upd h4 rfl
      refine ⟨us, h4, Nat.lt_of_le_of_lt (by omega : us.length ≤ 100) (by decide), (P4.upd Dp Dc).more (by omega), fun b o e ne => ?_, us ++ [.ref t], R ++ [cl], upd_same, (a1.imp fun _ _ h => h.firm (f3.trans (f4.trans f5))).snoc ⟨t, rfl, f5 _ _ ht rfl⟩, by rw [List.length_append, l1]; rfl, fun y hy => ?_⟩
      · rw [upd_ne (ne_of_none e nD)]
        exact B4 _ _ (B3 _ _ (sL _ _ (B1 _ _ e ne)) ne) ne
      · rcases List.mem_append.mp hy with h | h
        · exact c1 y h
        · rw [List.mem_singleton.mp h]
          exact ⟨cln, fun z hz => ⟨(clz z hz).1, by have := (clz z hz).2; omega⟩, cne⟩
    · rintro H1 ⟨P1, B1, us, R, h1, a1, l1, c1⟩
      refine ⟨D, _, rfl, .inl ⟨SqL.of h1, fun t nt => ?_⟩⟩
      have st := same_new (u := .tup us) nt
      exact q _ t us R ((P1.same st).more (by show k + 14 * n ≤ _; omega)) (B1.trans (But.of_same st)) upd_same (a1.imp fun _ _ h => h.firm (Firm.of st)) l1 c1
end
end Th
namespace Sm
open PySem PySem.Spec PyProof.Rows L2 Pen Dat Ki Fi Gr No Lf Cm Cn Tr Ta Tb
/-! ## k28: what units keeps -/
/-- each entry with a reason is told by a row, by numbers before it; ps stand before all -/
def Whys (R : CRow) : List Int → Level → Prop
  | _, [] => True
  | ps, e :: l => (∀ i, e.2 = some i → ∃ cl, R[i]? = some cl ∧ e.1 ∈ cl ∧ ∀ y ∈ cl, y ≠ e.1 → -y ∈ ps) ∧ Whys R (ps ++ [e.1]) l
theorem whys_snoc {R : CRow} {e : Tr.Entry} : ∀ (l : Level) (ps : List Int), Whys R ps l → (∀ i, e.2 = some i → ∃ cl, R[i]? = some cl ∧ e.1 ∈ cl ∧ ∀ y ∈ cl, y ≠ e.1 → -y ∈ ps ++ l.map Prod.fst) → Whys R ps (l ++ [e])
  | [], ps, _, h => by
    refine ⟨fun i hi => ?_, True.intro⟩
    obtain ⟨cl, h1, h2, h3⟩ := h i hi
    refine ⟨cl, h1, h2, fun y hy ne => ?_⟩
    have := h3 y hy ne
    rw [List.map_nil, List.append_nil] at this
    exact this
  | x :: l, ps, w, h => by
    refine ⟨w.1, whys_snoc l (ps ++ [x.1]) w.2 fun i hi => ?_⟩
    obtain ⟨cl, h1, h2, h3⟩ := h i hi
    refine ⟨cl, h1, h2, fun y hy ne => ?_⟩
    have := h3 y hy ne
    rw [List.map_cons] at this
    rw [List.append_assoc]
    exact this
/-- a row more at the end changes no reason -/
theorem whys_more {R : CRow} {c : List Int} : ∀ (l : Level) (ps : List Int), Whys R ps l → Whys (R ++ [c]) ps l
  | [], _, _ => True.intro
  | e :: l, ps, w => by
    refine ⟨fun i hi => ?_, whys_more l _ w.2⟩
    obtain ⟨cl, h1, h2⟩ := w.1 i hi
    obtain ⟨lt, _⟩ := List.getElem?_eq_some_iff.mp h1
    exact ⟨cl, by rw [List.getElem?_append_left lt]; exact h1, h2⟩
theorem left_one {hs cl : List Int} {z : Int} (h : leftM hs cl = [z]) {y : Int} (hy : y ∈ cl) (ne : y ≠ z) : -y ∈ hs := by
  by_cases c : -y ∈ hs
  · exact c
  · have m : y ∈ leftM hs cl := List.mem_filter.mpr ⟨hy, by rw [decide_eq_false c]; rfl⟩
    rw [h] at m
    exact absurd (List.mem_singleton.mp m) ne
theorem left_nil {hs cl : List Int} (h : leftM hs cl = []) {y : Int} (hy : y ∈ cl) : -y ∈ hs := by
  by_cases c : -y ∈ hs
  · exact c
  · have m : y ∈ leftM hs cl := List.mem_filter.mpr ⟨hy, by rw [decide_eq_false c]; rfl⟩
    rw [h] at m
    cases m
/-- what units keeps: the level grows by entries with reasons -/
theorem units_keep {R : CRow} {hs hs' : List Int} {l l' : Level} {n : Option Nat} (u : Units R hs l hs' l' n) : ∀ ps, hs = ps ++ l.map Prod.fst → Whys R ps l → Whys R ps l' ∧ hs' = ps ++ l'.map Prod.fst ∧ (∃ more : Level, l' = l ++ more ∧ ∀ e ∈ more, e.2.isSome = true) ∧ askM hs' 0 R (none, none) = (n, none) := by
  induction u with
  | stop hs l n h => exact fun ps e w => ⟨w, e, ⟨[], by rw [List.append_nil], fun e he => by cases he⟩, h⟩
  | step hs l n z hs' l' n' h u ih =>
    intro ps e w
    obtain ⟨i, cl, hi, h1, h2, h3, h4, h5⟩ := ask_some h
    obtain ⟨w', e', ⟨more, e2, hm⟩, hz⟩ := ih ps (by rw [e, List.map_append, List.append_assoc]; rfl) (whys_snoc l ps w fun j hj => by
      have : j = i := by
        rw [hi] at hj
        exact (Option.some.inj hj).symm
      rw [this]
      exact ⟨cl, h1, h4, fun y hy ne => by rw [← e]; exact left_one h2 hy ne⟩)
    refine ⟨w', e', ⟨(z, n) :: more, by rw [e2, List.append_assoc]; rfl, fun x hx => ?_⟩, hz⟩
    rcases List.mem_cons.mp hx with r | r
    · rw [r, hi]
      rfl
    · exact hm x r
/-- what is told at the end: a row that is false -/
theorem ask_none {hs : List Int} : ∀ (R : CRow) (n : Nat) (a : Ask) (k : Nat), askM hs n R a = (some k, none) → (∃ i cl, k = n + i ∧ R[i]? = some cl ∧ leftM hs cl = []) ∨ a = (some k, none)
  | [], n, a, k, h => Or.inr h
  | c :: R, n, a, k, h => by
    have h' : (if leftM hs c = [] then (some n, none) else askM hs (n + 1) R (nextA hs n c a)) = (some k, none) := h
    by_cases e : leftM hs c = []
    · rw [if_pos e] at h'
      have := Option.some.inj (Prod.mk.inj h').1
      exact Or.inl ⟨0, c, by omega, rfl, e⟩
    · rw [if_neg e] at h'
      rcases ask_none R (n + 1) _ k h' with ⟨i, cl, h1, h2, h3⟩ | w
      · exact Or.inl ⟨i + 1, cl, by omega, h2, h3⟩
      · unfold nextA at w
        split at w
        · split at w
          · exact Or.inr w
          · cases (Prod.mk.inj w).2
        · exact Or.inr w
end Sm
namespace Sn
open PySem PySem.Spec PyProof.Rows L2 Pen Dat Ki Fi Gr No Lf Cm Cn Tr Ta Tb Tc Sm
/-! ## k28: what rows of clauses ask of assignments -/
def litT (as : List Int) (z : Int) : Prop := as.getD (z.natAbs - 1) 0 = if z > 0 then 1 else 0
theorem sat_iff {as cl : List Int} : satB as cl = true ↔ ∃ z ∈ cl, litT as z := by
  unfold satB litT
  rw [List.any_eq_true]
  constructor
  · rintro ⟨z, h1, h2⟩
    exact ⟨z, h1, of_decide_eq_true h2⟩
  · rintro ⟨z, h1, h2⟩
    exact ⟨z, h1, decide_eq_true h2⟩
theorem lit_not {as : List Int} {z : Int} (z0 : z ≠ 0) (h : litT as z) : ¬ litT as (-z) := by
  intro g
  unfold litT at h g
  rw [Int.natAbs_neg] at g
  rw [h] at g
  by_cases c : z > 0
  · rw [if_pos c, if_neg (by omega)] at g
    cases g
  · rw [if_neg c, if_pos (by omega)] at g
    cases g
/-- a clause that each of the assignments keeps -/
def Kept (M : List Int → Prop) (cl : List Int) : Prop := ∀ as, M as → satB as cl = true
theorem res_keep {M : List Int → Prop} {hs cl hs' : List Int} {x : Int} (h : Kept M hs) (c : Kept M cl) (x0 : x ≠ 0) (d : Done hs cl x hs') : Kept M hs' := by
  intro as ha
  obtain ⟨z, h1, h2⟩ := sat_iff.mp (h as ha)
  obtain ⟨y, c1, c2⟩ := sat_iff.mp (c as ha)
  refine sat_iff.mpr ?_
  by_cases e : z = -x
  · by_cases f : y = x
    · rw [e] at h2
      rw [f] at c2
      exact absurd h2 (lit_not x0 c2)
    · exact ⟨y, (d.mem y).mpr (Or.inr ⟨c1, f⟩), c2⟩
  · exact ⟨z, (d.mem z).mpr (Or.inl ⟨h1, e⟩), h2⟩
/-- a clause whose opposites are all true isn't kept -/
theorem not_kept {as hs cl : List Int} (ht : ∀ z ∈ hs, litT as z) (h0 : ∀ z ∈ cl, z ≠ 0) (h : ∀ z ∈ cl, -z ∈ hs) : ¬ satB as cl = true := by
  intro s
  obtain ⟨z, h1, h2⟩ := sat_iff.mp s
  exact lit_not (h0 z h1) h2 (ht _ (h z h1))
/-- entries with reasons are true wherever the rows are kept and what stands before is true -/
theorem whys_true {R : CRow} {as : List Int} (k : ∀ cl ∈ R, satB as cl = true ∧ ∀ z ∈ cl, z ≠ 0) : ∀ (l : Level) (ps : List Int), Whys R ps l → (∀ e ∈ l, e.2.isSome = true) → (∀ z ∈ ps, litT as z) → ∀ z ∈ ps ++ l.map Prod.fst, litT as z
  | [], ps, _, _, h => fun z hz => by
    rw [List.map_nil, List.append_nil] at hz
    exact h z hz
  | e :: l, ps, w, s, h => by
    obtain ⟨i, hi⟩ := Option.isSome_iff_exists.mp (s e List.mem_cons_self)
    obtain ⟨cl, h1, h2, h3⟩ := w.1 i hi
    obtain ⟨k1, k0⟩ := k cl (List.mem_of_getElem? h1)
    have he : litT as e.1 := by
      obtain ⟨y, y1, y2⟩ := sat_iff.mp k1
      by_cases c : y = e.1
      · rw [← c]
        exact y2
      · exact absurd (h _ (h3 y y1 c)) (lit_not (k0 y y1) y2)
    intro z hz
    refine whys_true k l (ps ++ [e.1]) w.2 (fun x hx => s x (List.mem_cons_of_mem _ hx)) (fun x hx => ?_) z (by
      rw [List.append_assoc]
      exact hz)
    rcases List.mem_append.mp hx with m | m
    · exact h x m
    · rw [List.mem_singleton.mp m]
      exact he
/-- a false clause where every entry has its reason: no assignment keeps the rows -/
theorem none_kept {R : CRow} {l : Level} {cl as : List Int} (w : Whys R [] l) (s : ∀ e ∈ l, e.2.isSome = true) (hc : cl ∈ R) (h : leftM (l.map Prod.fst) cl = []) (h0 : ∀ c ∈ R, ∀ z ∈ c, z ≠ 0) : ¬ ∀ c ∈ R, satB as c = true := by
  intro k
  have ht := whys_true (as := as) (fun c hc => ⟨k c hc, h0 c hc⟩) l [] w s fun z hz => by cases hz
  exact not_kept (fun z hz => ht z (by rw [List.nil_append]; exact hz)) (h0 cl hc) (fun z hz => left_nil h hz) (k cl hc)
end Sn
namespace So
open PySem PySem.Spec PyProof.Rows L2 Pen Dat Ki Fi Gr No Lf Cm Cn Tr Ta Tb Tc Sm Sn
/-! ## k28: learnt's Iv -/
theorem apart {m : Nat} {A B : List Int} (h : TOk m (A ++ B)) {x y : Int} (hx : x ∈ A) (hy : y ∈ B) : x.natAbs ≠ y.natAbs := by
  have := h.nd
  rw [List.map_append, List.nodup_append] at this
  exact this.2.2 _ (List.mem_map.mpr ⟨x, hx, rfl⟩) _ (List.mem_map.mpr ⟨y, hy, rfl⟩)
theorem nd_inj {α β : Type} {f : α → β} : ∀ {l : List α}, (l.map f).Nodup → ∀ {x y : α}, x ∈ l → y ∈ l → f x = f y → x = y
  | [], _, _, _, hx, _, _ => by cases hx
  | a :: l, h, x, y, hx, hy, e => by
    rw [List.map_cons, List.nodup_cons] at h
    rcases List.mem_cons.mp hx with p | p <;> rcases List.mem_cons.mp hy with q | q
    · rw [p, q]
    · exact absurd (List.mem_map.mpr ⟨y, q, by rw [← e, p]⟩) h.1
    · exact absurd (List.mem_map.mpr ⟨x, p, by rw [e, q]⟩) h.1
    · exact nd_inj h.2 p q e
theorem no_both {m : Nat} {T : List Int} (h : TOk m T) {x : Int} (hx : x ∈ T) : ¬ -x ∈ T := fun g => by
  have e := nd_inj h.nd hx g (by rw [Int.natAbs_neg])
  have := (h.ok x hx).1
  omega
theorem whys_at {R : CRow} {e : Tr.Entry} : ∀ (pre post : Level) (ps : List Int), Whys R ps (pre ++ e :: post) → ∀ i, e.2 = some i → ∃ cl, R[i]? = some cl ∧ e.1 ∈ cl ∧ ∀ y ∈ cl, y ≠ e.1 → -y ∈ ps ++ pre.map Prod.fst
  | [], post, ps, w, i, hi => by
    obtain ⟨cl, h1, h2, h3⟩ := w.1 i hi
    exact ⟨cl, h1, h2, fun y hy ne => by rw [List.map_nil, List.append_nil]; exact h3 y hy ne⟩
  | x :: pre, post, ps, w, i, hi => by
    obtain ⟨cl, h1, h2, h3⟩ := whys_at pre post (ps ++ [x.1]) w.2 i hi
    refine ⟨cl, h1, h2, fun y hy ne => ?_⟩
    have := h3 y hy ne
    rw [List.append_assoc] at this
    exact this
/-- what holds of the numbers held behind j entries from the back -/
structure Iv (M : List Int → Prop) (ps : List Int) (l : Level) (j : Nat) (hs : List Int) : Prop where
  nd : hs.Nodup
  op : ∀ z ∈ hs, -z ∈ ps ++ l.map Prod.fst
  kp : Kept M hs
  ex : ∃ z ∈ hs, -z ∈ l.map Prod.fst
  one : (∃ e ∈ l.reverse.take j, -e.1 ∈ hs) → (heldM hs l).length ≤ 1
theorem split_rev {l : Level} {j : Nat} {e : Tr.Entry} (h : l.reverse[j]? = some e) : ∃ pre post, l = pre ++ e :: post ∧ post.reverse = l.reverse.take j ∧ l.reverse.take (j + 1) = l.reverse.take j ++ [e] := by
  obtain ⟨lt, he⟩ := List.getElem?_eq_some_iff.mp h
  refine ⟨(l.reverse.drop (j + 1)).reverse, (l.reverse.take j).reverse, ?_, List.reverse_reverse _, ?_⟩
  · have e1 := List.take_append_drop j l.reverse
    rw [List.drop_eq_getElem_cons lt, he] at e1
    have e2 := congrArg List.reverse e1
    rw [List.reverse_reverse, List.reverse_append, List.reverse_cons, List.append_assoc] at e2
    exact e2.symm
  · rw [List.take_succ, h]
    rfl
theorem iv_keep {M : List Int → Prop} {ps : List Int} {l : Level} {j : Nat} {hs : List Int} {e : Tr.Entry} (v : Iv M ps l j hs) (he : l.reverse[j]? = some e) (a : asks hs l e = false) : Iv M ps l (j + 1) hs := by
  refine ⟨v.nd, v.op, v.kp, v.ex, fun ⟨x, hx, hh⟩ => ?_⟩
  obtain ⟨_, _, _, _, ht⟩ := split_rev he
  rw [ht] at hx
  rcases List.mem_append.mp hx with m | m
  · exact v.one ⟨x, m, hh⟩
  · rw [List.mem_singleton.mp m] at hh
    unfold asks at a
    rw [decide_eq_true hh, Bool.true_and] at a
    have := of_decide_eq_false a
    omega
theorem held_mem {hs : List Int} {l : Level} {z : Int} : z ∈ heldM hs l ↔ z ∈ hs ∧ -z ∈ l.map Prod.fst := by
  unfold heldM
  rw [List.mem_map]
  constructor
  · rintro ⟨e, h1, h2⟩
    obtain ⟨m1, m2⟩ := List.mem_filter.mp h1
    refine ⟨?_, List.mem_map.mpr ⟨e, m1, by omega⟩⟩
    rw [← h2]
    exact of_decide_eq_true m2
  · rintro ⟨h1, h2⟩
    obtain ⟨e, m, he⟩ := List.mem_map.mp h2
    refine ⟨e, List.mem_filter.mpr ⟨m, decide_eq_true ?_⟩, by omega⟩
    rw [he, Int.neg_neg]
    exact h1
theorem nd_map {α β : Type} {f : α → β} : ∀ {l : List α}, l.Nodup → (∀ x ∈ l, ∀ y ∈ l, f x = f y → x = y) → (l.map f).Nodup
  | [], _, _ => List.nodup_nil
  | a :: l, h, i => by
    rw [List.nodup_cons] at h
    rw [List.map_cons, List.nodup_cons]
    refine ⟨fun m => ?_, nd_map h.2 fun x hx y hy e => i x (List.mem_cons_of_mem _ hx) y (List.mem_cons_of_mem _ hy) e⟩
    obtain ⟨y, hy, e⟩ := List.mem_map.mp m
    exact h.1 (by rw [i a List.mem_cons_self y (List.mem_cons_of_mem _ hy) e.symm]; exact hy)
theorem iv_go {M : List Int → Prop} {R : CRow} {m : Nat} {ps : List Int} {e0 : Tr.Entry} {rest : Level} {j : Nat} {hs : List Int} {e : Tr.Entry} (t : TOk m (ps ++ (e0 :: rest).map Prod.fst)) (w : Whys R ps (e0 :: rest)) (s : ∀ x ∈ rest, x.2.isSome = true) (kr : ∀ cl ∈ R, Kept M cl)
    (v : Iv M ps (e0 :: rest) j hs) (he : (e0 :: rest).reverse[j]? = some e) (a : asks hs (e0 :: rest) e = true) : ∃ i cl, e.2 = some i ∧ R[i]? = some cl ∧ Good hs cl e.1 ∧ ∀ hs', Done hs cl e.1 hs' → Iv M ps (e0 :: rest) (j + 1) hs' := by
  obtain ⟨pre, post, hl, hp, ht⟩ := split_rev he
  obtain ⟨a1, a2⟩ := (Bool.and_eq_true _ _).mp a
  have a1 := of_decide_eq_true a1
  have a2 := of_decide_eq_true a2
  have npost : ∀ x ∈ post, ¬ -x.1 ∈ hs := fun x hx hh => by
    have := v.one ⟨x, by rw [← hp]; exact List.mem_reverse.mpr hx, hh⟩
    omega
  have t' : TOk m ((ps ++ pre.map Prod.fst) ++ (e.1 :: post.map Prod.fst)) := by
    rw [hl, List.map_append, List.map_cons, ← List.append_assoc] at t
    exact t
  have t2 : TOk m ((ps ++ pre.map Prod.fst ++ [e.1]) ++ post.map Prod.fst) := by
    rw [List.append_assoc]
    exact t'
  have hpre : ∃ x ∈ pre, -x.1 ∈ hs := by
    refine Classical.byContradiction fun no => ?_
    have z1 : pre.filter (fun x => decide (-x.1 ∈ hs)) = [] := List.filter_eq_nil_iff.mpr fun x hx g => no ⟨x, hx, of_decide_eq_true g⟩
    have z2 : post.filter (fun x => decide (-x.1 ∈ hs)) = [] := List.filter_eq_nil_iff.mpr fun x hx g => npost x hx (of_decide_eq_true g)
    unfold heldM at a2
    rw [hl, List.filter_append, z1, List.filter_cons, z2, decide_eq_true a1] at a2
    rw [if_pos rfl, List.nil_append] at a2
    exact Nat.lt_irrefl 1 a2
  obtain ⟨q, hq, hqs⟩ := hpre
  have hi : ∃ i, e.2 = some i := by
    cases pre with
    | nil => cases hq
    | cons b pre' =>
      rw [List.cons_append] at hl
      have hr : rest = pre' ++ e :: post := (List.cons.inj hl).2
      exact Option.isSome_iff_exists.mp (s e (by rw [hr]; exact List.mem_append_right _ List.mem_cons_self))
  obtain ⟨i, hi⟩ := hi
  rw [hl] at w
  obtain ⟨cl, h1, h2, h3⟩ := whys_at pre post ps w i hi
  have inT : ∀ y, y ∈ ps ++ pre.map Prod.fst → y ∈ ps ++ (e0 :: rest).map Prod.fst := fun y hy => by
    rw [hl, List.map_append, ← List.append_assoc]
    exact List.mem_append_left _ hy
  have eT : e.1 ∈ ps ++ (e0 :: rest).map Prod.fst := by
    rw [hl, List.map_append, List.map_cons]
    exact List.mem_append_right _ (List.mem_append_right _ List.mem_cons_self)
  have x0 := (t.ok _ eT).1
  have ne : ∀ y ∈ ps ++ pre.map Prod.fst, y.natAbs ≠ e.1.natAbs := fun y hy => apart t' hy List.mem_cons_self
  refine ⟨i, cl, hi, h1, ⟨x0, a1, fun g => no_both t eT (v.op _ g), h2, fun y hy n g => ?_, fun y hy n z hz n' g => ?_, fun y hy n g => ?_⟩, fun hs' d => ?_⟩
  · have g1 := v.op _ g
    exact no_both t (inT _ (h3 y hy n)) g1
  · have g1 := inT _ (h3 y hy n)
    have g2 := inT _ (h3 z hz n')
    rw [g] at g2
    exact no_both t g1 g2
  · have g1 := ne _ (h3 y hy n)
    rw [g] at g1
    exact g1 (by rw [Int.neg_neg])
  · refine ⟨d.nd, fun z hz => ?_, res_keep v.kp (kr cl (List.mem_of_getElem? h1)) x0 d, ?_, fun ⟨y, hy, hh⟩ => ?_⟩
    · rcases (d.mem z).mp hz with g | g
      · exact v.op z g.1
      · exact inT _ (h3 z g.1 g.2)
    · refine ⟨-q.1, (d.mem _).mpr (Or.inl ⟨hqs, fun g => ?_⟩), ?_⟩
      · have := ne q.1 (List.mem_append_right _ (List.mem_map.mpr ⟨q, hq, rfl⟩))
        omega
      · rw [Int.neg_neg, hl, List.map_append]
        exact List.mem_append_left _ (List.mem_map.mpr ⟨q, hq, rfl⟩)
    · exfalso
      rw [ht] at hy
      rcases List.mem_append.mp hy with g | g
      · rw [← hp] at g
        have g := List.mem_reverse.mp g
        rcases (d.mem _).mp hh with r | r
        · exact npost y g r.1
        · have r1 := h3 _ r.1 r.2
          rw [Int.neg_neg] at r1
          exact apart t2 (List.mem_append_left _ r1) (List.mem_map.mpr ⟨y, g, rfl⟩) rfl
      · rw [List.mem_singleton.mp g] at hh
        rcases (d.mem _).mp hh with r | r
        · exact r.2 rfl
        · have r1 := h3 _ r.1 r.2
          rw [Int.neg_neg] at r1
          exact ne _ r1 rfl
theorem iv_start {M : List Int → Prop} {R : CRow} {ps c0 : List Int} {l : Level} (kr : ∀ cl ∈ R, Kept M cl) (hc : c0 ∈ R) (nd : c0.Nodup) (f : leftM (ps ++ l.map Prod.fst) c0 = []) (n0 : leftM ps c0 ≠ []) : Iv M ps l 0 c0 := by
  refine ⟨nd, fun z hz => left_nil f hz, kr c0 hc, ?_, fun ⟨e, he, _⟩ => by cases he⟩
  obtain ⟨z, hz⟩ := List.exists_mem_of_ne_nil _ n0
  obtain ⟨h1, h2⟩ := List.mem_filter.mp hz
  refine ⟨z, h1, ?_⟩
  rcases List.mem_append.mp (left_nil f h1) with g | g
  · rw [decide_eq_true g] at h2
    cases h2
  · exact g
/-- at the end just one number held is false by the last level -/
theorem iv_one {M : List Int → Prop} {ps : List Int} {l : Level} {hs : List Int} (v : Iv M ps l l.length hs) : ∃ z, z ∈ hs ∧ -z ∈ l.map Prod.fst ∧ ∀ y ∈ hs, -y ∈ l.map Prod.fst → y = z := by
  obtain ⟨z, h1, h2⟩ := v.ex
  refine ⟨z, h1, h2, fun y g1 g2 => ?_⟩
  obtain ⟨e, m, he⟩ := List.mem_map.mp h2
  have le := v.one ⟨e, by
    rw [List.take_of_length_le (by rw [List.length_reverse]; exact Nat.le_refl _)]
    exact List.mem_reverse.mpr m, by rw [he, Int.neg_neg]; exact h1⟩
  have a := held_mem.mpr ⟨h1, h2⟩
  have b := held_mem.mpr ⟨g1, g2⟩
  cases hh : heldM hs l with
  | nil =>
    rw [hh] at a
    cases a
  | cons w ws =>
    rw [hh] at le a b
    have : ws = [] := List.eq_nil_of_length_eq_zero (by rw [List.length_cons] at le; omega)
    rw [this] at a b
    rw [List.mem_singleton.mp a, List.mem_singleton.mp b]
theorem iv_size {M : List Int → Prop} {m : Nat} {ps : List Int} {l : Level} {j : Nat} {hs : List Int} (t : TOk m (ps ++ l.map Prod.fst)) (v : Iv M ps l j hs) : TOk m hs ∧ hs.length ≤ m := by
  have k : TOk m hs := by
    refine ⟨?_, fun z hz => ?_⟩
    · refine nd_map v.nd fun x hx y hy e => ?_
      have := nd_inj t.nd (v.op x hx) (v.op y hy) (by rw [Int.natAbs_neg, Int.natAbs_neg]; exact e)
      omega
    · have := t.ok _ (v.op z hz)
      rw [Int.natAbs_neg] at this
      exact ⟨by omega, this.2⟩
  exact ⟨k, k.len⟩
theorem iv_runs {M : List Int → Prop} {R : CRow} {m : Nat} {ps c0 : List Int} {e0 : Tr.Entry} {rest : Level} (m5 : m ≤ 500) (t : TOk m (ps ++ (e0 :: rest).map Prod.fst)) (w : Whys R ps (e0 :: rest)) (s : ∀ x ∈ rest, x.2.isSome = true) (kr : ∀ cl ∈ R, Kept M cl) (hc : c0 ∈ R) (nd : c0.Nodup) (f : leftM (ps ++ (e0 :: rest).map Prod.fst) c0 = []) (n0 : leftM ps c0 ≠ []) :
    Runs R (e0 :: rest) c0 (Iv M ps (e0 :: rest)) := by
  refine ⟨iv_start kr hc nd f n0, fun j hs v => ⟨v.nd, Nat.le_trans (iv_size t v).2 m5⟩, fun j hs e v he a => iv_keep v he a, fun j hs e v he a => ?_⟩
  exact iv_go t w s kr v he a
/-- the level that learnt tells: behind it and ahead of the last no number held is false -/
theorem lv_le {hs : List Int} {tr : Trail} : ∀ k, lvM hs tr k ≤ k
  | 0 => Nat.le_refl 0
  | k + 1 => by
    have := lv_le (hs := hs) (tr := tr) k
    unfold lvM
    split
    · omega
    · split
      · omega
      · omega
theorem lv_lt {hs : List Int} {tr : Trail} : ∀ k, 0 < k → lvM hs tr k < k
  | 0, h => by omega
  | k + 1, _ => by
    have := lv_le (hs := hs) (tr := tr) k
    unfold lvM
    split
    · omega
    · split
      · omega
      · omega
theorem lv_none {hs : List Int} {tr : Trail} : ∀ k i l, i < k → lvM hs tr k < i → tr[i]? = some l → heldM hs l = []
  | 0, _, _, h, _, _ => by omega
  | k + 1, i, l, h, g, hl => by
    unfold lvM at g
    by_cases c : (tr[k]?).map (fun l => heldM hs l) = some []
    · rw [if_pos c] at g
      rcases Nat.lt_or_ge i k with w | w
      · exact lv_none k i l w g hl
      · obtain rfl : i = k := by omega
        rw [hl] at c
        exact Option.some.inj c
    · rw [if_neg c] at g
      by_cases d : (tr[k]?).isSome = true
      · rw [if_pos d] at g
        omega
      · rw [if_neg d] at g
        rcases Nat.lt_or_ge i k with w | w
        · exact lv_none k i l w g hl
        · obtain rfl : i = k := by omega
          rw [hl] at d
          exact absurd rfl d
end So
namespace Spm
open PySem PySem.Spec PyProof.Rows L2 Pen Dat Ki Fi Gr No Lf Cm Cn Tr Ta Tb Tc Sm Sn So
/-! ## k28: the state of a search -/
structure Lev (R : CRow) (ps : List Int) (k : Nat) (l : Level) : Prop where
  why : Whys R ps l
  zero : k = 0 → ∀ e ∈ l, e.2.isSome = true
  more : 0 < k → ∃ e0 rest, l = e0 :: rest ∧ e0.2 = none ∧ ∀ x ∈ rest, x.2.isSome = true
/-- ts: the levels ahead of the last one, l -/
structure StM (M : List Int → Prop) (m : Nat) (R : CRow) (ts : Trail) (l : Level) : Prop where
  tok : TOk m (litsM (ts ++ [l]))
  kr : ∀ cl ∈ R, Kept M cl
  tk : ∀ cl ∈ R, TOk m cl
  lev : ∀ k x, (ts ++ [l])[k]? = some x → Lev R (litsM ((ts ++ [l]).take k)) k x
  nf : ∀ cl ∈ R, leftM (litsM ts) cl ≠ []
theorem lits_snoc (ts : Trail) (l : Level) : litsM (ts ++ [l]) = litsM ts ++ l.map Prod.fst := by
  unfold litsM
  rw [List.flatten_append, List.map_append]
  show _ ++ (List.map Prod.fst (l ++ [])) = _
  rw [List.append_nil]
theorem take_last (ts : Trail) (l : Level) : (ts ++ [l]).take ts.length = ts := by
  rw [List.take_append_of_le_length (Nat.le_refl _), List.take_length]
theorem at_last (ts : Trail) (l : Level) : (ts ++ [l])[ts.length]? = some l := by
  rw [List.getElem?_append_right (Nat.le_refl _), Nat.sub_self]
  rfl
theorem at_ahead {ts : Trail} {l l' : Level} {k : Nat} (h : k < ts.length) : (ts ++ [l'])[k]? = (ts ++ [l])[k]? ∧ (ts ++ [l']).take k = (ts ++ [l]).take k := by
  refine ⟨by rw [List.getElem?_append_left h, List.getElem?_append_left h], ?_⟩
  rw [List.take_append_of_le_length (Nat.le_of_lt h), List.take_append_of_le_length (Nat.le_of_lt h)]
theorem StM.last {M : List Int → Prop} {m : Nat} {R : CRow} {ts : Trail} {l : Level} (s : StM M m R ts l) : Lev R (litsM ts) ts.length l := by
  have := s.lev ts.length l (at_last ts l)
  rw [take_last] at this
  exact this
/-- units keeps the state -/
theorem StM.units {M : List Int → Prop} {m : Nat} {R : CRow} {ts : Trail} {l l' : Level} {hs' : List Int} {n : Option Nat} (s : StM M m R ts l) (u : Units R (litsM (ts ++ [l])) l hs' l' n) (t : TOk m hs') :
    StM M m R ts l' ∧ hs' = litsM (ts ++ [l']) ∧ (∃ more, l' = l ++ more) ∧ askM hs' 0 R (none, none) = (n, none) := by
  have la := s.last
  obtain ⟨w, e, ⟨more, e2, hm⟩, hz⟩ := units_keep u (litsM ts) (lits_snoc ts l) la.why
  have e3 : hs' = litsM (ts ++ [l']) := by rw [lits_snoc, e]
  refine ⟨⟨by rw [← e3]; exact t, s.kr, s.tk, fun k x hx => ?_, s.nf⟩, e3, ⟨more, e2⟩, hz⟩
  rcases Nat.lt_or_ge k ts.length with lt | ge
  · obtain ⟨a1, a2⟩ := at_ahead (l := l) (l' := l') lt
    rw [a2]
    rw [a1] at hx
    exact s.lev k x hx
  · have kl : k = ts.length := by
      obtain ⟨lt2, _⟩ := List.getElem?_eq_some_iff.mp hx
      rw [List.length_append, show [l'].length = 1 from rfl] at lt2
      omega
    subst kl
    rw [at_last] at hx
    obtain rfl := Option.some.inj hx
    rw [take_last]
    refine ⟨w, fun k0 y hy => ?_, fun kp => ?_⟩
    · rw [e2] at hy
      rcases List.mem_append.mp hy with g | g
      · exact la.zero k0 y g
      · exact hm y g
    · obtain ⟨e0, rest, h1, h0, h2⟩ := la.more kp
      refine ⟨e0, rest ++ more, by rw [e2, h1]; rfl, h0, fun y hy => ?_⟩
      rcases List.mem_append.mp hy with g | g
      · exact h2 y g
      · exact hm y g
/-- a decision -/
theorem StM.decide {M : List Int → Prop} {m : Nat} {R : CRow} {ts : Trail} {l : Level} {z : Int} (s : StM M m R ts l) (z0 : z ≠ 0) (zm : z.natAbs ≤ m) (n1 : ¬ z ∈ litsM (ts ++ [l])) (n2 : ¬ -z ∈ litsM (ts ++ [l])) (nf : ∀ cl ∈ R, leftM (litsM (ts ++ [l])) cl ≠ []) :
    StM M m R (ts ++ [l]) [(z, none)] := by
  refine ⟨by rw [lits_snoc]; exact s.tok.snoc z0 zm n1 n2, s.kr, s.tk, fun k x hx => ?_, nf⟩
  rcases Nat.lt_or_ge k (ts ++ [l]).length with lt | ge
  · rw [List.getElem?_append_left lt] at hx
    rw [List.take_append_of_le_length (Nat.le_of_lt lt)]
    exact s.lev k x hx
  · have kl : k = (ts ++ [l]).length := by
      obtain ⟨lt2, _⟩ := List.getElem?_eq_some_iff.mp hx
      rw [List.length_append (bs := [_]), show [[(z, (none : Option Nat))]].length = 1 from rfl] at lt2
      omega
    subst kl
    rw [at_last] at hx
    obtain rfl := Option.some.inj hx
    refine ⟨⟨fun i hi => (by cases hi), True.intro⟩, fun k0 => ?_, fun _ => ⟨_, [], rfl, rfl, fun x hx => by cases hx⟩⟩
    rw [List.length_append, show [l].length = 1 from rfl] at k0
    omega
/-- there are at most m levels behind the first -/
theorem StM.levels {M : List Int → Prop} {m : Nat} {R : CRow} {ts : Trail} {l : Level} (s : StM M m R ts l) : ts.length ≤ m := by
  have h : ∀ (xs : Trail), (∀ x ∈ xs, x ≠ []) → xs.length ≤ (litsM xs).length := by
    intro xs
    induction xs with
    | nil => exact fun _ => Nat.le_refl 0
    | cons x xs ih =>
      intro h
      have h1 := ih fun y hy => h y (List.mem_cons_of_mem _ hy)
      have h2 : 0 < x.length := List.length_pos_iff.mpr (h x List.mem_cons_self)
      unfold litsM at h1 ⊢
      rw [List.flatten_cons, List.map_append, List.length_append, List.length_map, List.length_cons]
      omega
  have t := s.tok.len
  cases ts with
  | nil => exact Nat.zero_le m
  | cons x xs =>
    have := h (xs ++ [l]) fun y hy => by
      obtain ⟨i, hi⟩ := List.mem_iff_getElem?.mp hy
      obtain ⟨e0, rest, e, _⟩ := (s.lev (i + 1) y (by rw [List.cons_append, List.getElem?_cons_succ]; exact hi)).more (Nat.succ_pos i)
      rw [e]
      exact List.cons_ne_nil _ _
    have e : (litsM (x :: xs ++ [l])).length = x.length + (litsM (xs ++ [l])).length := by
      unfold litsM
      rw [List.cons_append, List.flatten_cons, List.map_append, List.length_append, List.length_map]
    rw [List.length_append, show [l].length = 1 from rfl] at this
    rw [List.length_cons]
    omega
end Spm
namespace Sqm
open PySem PySem.Spec PyProof.Rows L2 Pen Dat Ki Fi Gr No Lf Cm Cn Tr Ta Tb Tc Sm Sn So Spm
/-! ## k28: gone back -/
theorem lits_take {tr : Trail} {k : Nat} {l : Level} (h : tr[k]? = some l) : litsM (tr.take (k + 1)) = litsM (tr.take k) ++ l.map Prod.fst := by
  rw [List.take_succ, h]
  exact lits_snoc _ _
theorem lits_pre {tr : Trail} (k : Nat) : litsM tr = litsM (tr.take k) ++ litsM (tr.drop k) := by
  unfold litsM
  rw [← List.map_append, ← List.flatten_append, List.take_append_drop]
theorem left_mono {hs gs cl : List Int} (h : ∀ z ∈ gs, z ∈ hs) (n : leftM hs cl ≠ []) : leftM gs cl ≠ [] := by
  obtain ⟨z, hz⟩ := List.exists_mem_of_ne_nil _ n
  obtain ⟨h1, h2⟩ := List.mem_filter.mp hz
  refine List.ne_nil_of_mem (List.mem_filter.mpr ⟨h1, ?_⟩ : z ∈ leftM gs cl)
  by_cases c : -z ∈ gs
  · rw [decide_eq_true (h _ c)] at h2
    cases h2
  · rw [decide_eq_false c]
    rfl
/-- where the opposites of what is held stand: up to the level told, but for those of the last -/
theorem lv_up {hs : List Int} {ts : Trail} {l0 : Level} (h0 : ts[lvM hs ts ts.length]? = some l0) {y : Int} (hy : y ∈ hs) (ht : -y ∈ litsM ts) : -y ∈ litsM (ts.take (lvM hs ts ts.length)) ++ l0.map Prod.fst := by
  rw [← lits_take h0]
  rw [lits_pre (lvM hs ts ts.length + 1)] at ht
  rcases List.mem_append.mp ht with g | g
  · exact g
  · exfalso
    obtain ⟨e, m1, m2⟩ := List.mem_map.mp g
    obtain ⟨x, x1, x2⟩ := List.mem_flatten.mp m1
    obtain ⟨i, hi⟩ := List.mem_iff_getElem?.mp x1
    rw [List.getElem?_drop] at hi
    obtain ⟨lt, _⟩ := List.getElem?_eq_some_iff.mp hi
    have e0 := lv_none (hs := hs) ts.length (lvM hs ts ts.length + 1 + i) x lt (by omega) hi
    have : y ∈ heldM hs x := held_mem.mpr ⟨hy, List.mem_map.mpr ⟨e, x2, m2⟩⟩
    rw [e0] at this
    cases this
/-- gone back: cl is the clause learnt, in what order so ever -/
theorem StM.back {M : List Int → Prop} {m : Nat} {R : CRow} {ts : Trail} {l l0 : Level} {hs cl : List Int} {z : Int} (s : StM M m R ts l) (v : Iv M (litsM ts) l l.length hs) (hcl : ∀ y, y ∈ cl ↔ y ∈ hs) (tc : TOk m cl) (hz : z ∈ hs) (zl : -z ∈ l.map Prod.fst) (zo : ∀ y ∈ hs, -y ∈ l.map Prod.fst → y = z)
    (h0 : ts[lvM hs ts ts.length]? = some l0) : StM M m (R ++ [cl]) (ts.take (lvM hs ts ts.length)) (l0 ++ [(z, some R.length)]) := by
  have tk := s.tok
  rw [lits_snoc] at tk
  obtain ⟨lt, _⟩ := List.getElem?_eq_some_iff.mp h0
  have sub : ∀ y ∈ litsM (ts.take (lvM hs ts ts.length)), y ∈ litsM ts := fun y hy => by
    rw [lits_pre (lvM hs ts ts.length)]
    exact List.mem_append_left _ hy
  have zn : ∀ y ∈ litsM ts, y.natAbs ≠ (-z).natAbs := fun y hy => apart tk hy zl
  have z9 := tk.ok (-z) (List.mem_append_right _ zl)
  have t1 : TOk m (litsM (ts.take (lvM hs ts ts.length)) ++ l0.map Prod.fst) := by
    rw [← lits_take h0]
    rw [lits_pre (lvM hs ts ts.length + 1), List.append_assoc] at tk
    refine ⟨?_, fun y hy => tk.ok y (List.mem_append_left _ hy)⟩
    have := tk.nd
    rw [List.map_append] at this
    exact (List.nodup_append.mp this).1
  have inT : ∀ y ∈ litsM (ts.take (lvM hs ts ts.length)) ++ l0.map Prod.fst, y ∈ litsM ts := fun y hy => by
    rw [← lits_take h0] at hy
    rw [lits_pre (lvM hs ts ts.length + 1)]
    exact List.mem_append_left _ hy
  have why : ∀ y ∈ cl, y ≠ z → -y ∈ litsM (ts.take (lvM hs ts ts.length)) ++ l0.map Prod.fst := fun y hy ne => by
    have hy := (hcl y).mp hy
    refine lv_up h0 hy ?_
    rcases List.mem_append.mp (v.op y hy) with g | g
    · exact g
    · exact absurd (zo y hy g) ne
  have la := s.lev _ l0 (by rw [List.getElem?_append_left lt]; exact h0)
  rw [List.take_append_of_le_length (Nat.le_of_lt lt)] at la
  have tl : (ts.take (lvM hs ts ts.length)).length = lvM hs ts ts.length := by
    rw [List.length_take]
    omega
  refine ⟨?_, fun c hc => ?_, fun c hc => ?_, fun k x hx => ?_, fun c hc => ?_⟩
  · rw [lits_snoc, List.map_append, ← List.append_assoc]
    refine t1.snoc (by omega) (by rw [Int.natAbs_neg] at z9; exact z9.2) (fun g => zn z (inT _ g) (by rw [Int.natAbs_neg])) fun g => zn _ (inT _ g) rfl
  · rcases List.mem_append.mp hc with g | g
    · exact s.kr c g
    · rw [List.mem_singleton.mp g]
      intro as ha
      obtain ⟨y, y1, y2⟩ := sat_iff.mp (v.kp as ha)
      exact sat_iff.mpr ⟨y, (hcl y).mpr y1, y2⟩
  · rcases List.mem_append.mp hc with g | g
    · exact s.tk c g
    · rw [List.mem_singleton.mp g]
      exact tc
  · rcases Nat.lt_or_ge k (lvM hs ts ts.length) with h | h
    · rw [List.getElem?_append_left (by omega), List.getElem?_take_of_lt h] at hx
      have r := s.lev k x (by rw [List.getElem?_append_left (by omega)]; exact hx)
      rw [List.take_append_of_le_length (by omega)] at r
      rw [List.take_append_of_le_length (by omega), List.take_take, Nat.min_eq_left (Nat.le_of_lt h)]
      exact ⟨whys_more _ _ r.why, r.zero, r.more⟩
    · have kl : k = (ts.take (lvM hs ts ts.length)).length := by
        obtain ⟨lt2, _⟩ := List.getElem?_eq_some_iff.mp hx
        rw [List.length_append, show [l0 ++ [(z, some R.length)]].length = 1 from rfl] at lt2
        omega
      subst kl
      rw [at_last] at hx
      obtain rfl := Option.some.inj hx
      rw [take_last]
      refine ⟨whys_snoc _ _ (whys_more _ _ la.why) fun i hi => ?_, fun k0 y hy => ?_, fun kp => ?_⟩
      · have hi := Option.some.inj hi
        subst hi
        exact ⟨cl, by rw [List.getElem?_append_right (Nat.le_refl _), Nat.sub_self]; rfl, (hcl z).mpr hz, why⟩
      · rcases List.mem_append.mp hy with g | g
        · exact la.zero (by omega) y g
        · rw [List.mem_singleton.mp g]
          rfl
      · obtain ⟨e0, rest, e1, e0n, e2⟩ := la.more (by omega)
        refine ⟨e0, rest ++ [(z, some R.length)], by rw [e1]; rfl, e0n, fun y hy => ?_⟩
        rcases List.mem_append.mp hy with g | g
        · exact e2 y g
        · rw [List.mem_singleton.mp g]
          rfl
  · rcases List.mem_append.mp hc with g | g
    · exact left_mono sub (s.nf c g)
    · rw [List.mem_singleton.mp g]
      refine List.ne_nil_of_mem (List.mem_filter.mpr ⟨(hcl z).mpr hz, ?_⟩ : z ∈ leftM _ cl)
      rw [decide_eq_false fun g => zn _ (sub _ g) rfl]
      rfl
end Sqm
namespace Tj
open PySem PySem.Spec PyProof.Rows L2 Pen Dat Ki Fi Gr No Lf Cm Cn Abk Tr Ta Tb
/-! ## k27: which values are trails -/
structure Tx (mg : Str → Option Value) : Prop where
  isinstance : mg "isinstance" = none
  int : mg "int" = none
  bool : mg "bool" = none
  tuple : mg "tuple" = none
  list : mg "list" = none
  len : mg "len" = none
  all : mg "all" = none
  abs : mg "abs" = none
  range : mg "range" = none
  enumerate : mg "enumerate" = none
  sorted : mg "sorted" = none
  set : mg "set" = none
def isTupD : PyData → Bool
  | .tuple _ => true
  | _ => false
def litB (m : Nat) : PyData → Bool
  | .int z => (decide (-(m : Int) ≤ z) && decide (z ≤ m)) && !decide (z = 0)
  | _ => false
def reasonB (hs cl : List Int) (z : Int) : Bool := decide (z ∈ cl) && cl.all fun o => decide (o = z) || decide (-o ∈ hs)
def whyB (R : CRow) (hs : List Int) (z : Int) : PyData → Bool
  | .int i => (decide (0 ≤ i) && decide (i ≤ (R.length : Int) - 1)) && reasonB hs (R.getD i.toNat []) z
  | _ => false
def isNonD : PyData → Bool
  | .none => true
  | _ => false
def zOf : PyData → Int
  | .tuple (.int z :: _) => z
  | _ => 0
def entB (m : Nat) (R : CRow) (hs : List Int) (dec : Bool) : PyData → Bool
  | .tuple [.int z, r] => litB m (.int z) && (!decide (z ∈ hs) && (!decide (-z ∈ hs) && if dec then isNonD r else whyB R hs z r))
  | _ => false
def lvlB (m : Nat) (R : CRow) (up : Bool) : List Int → Bool → List PyData → Option (List Int)
  | hs, _, [] => some hs
  | hs, fst, e :: es => if entB m R hs (up && fst) e then lvlB m R up (hs ++ [zOf e]) false es else none
def trlB (m : Nat) (R : CRow) : List Int → Bool → List PyData → Option (List Int)
  | hs, _, [] => some hs
  | hs, up, d :: ds => if isTupD d && !(up && decide ((rowsD d).length = 0)) then (lvlB m R up hs true (rowsD d)).bind fun hs' => trlB m R hs' true ds else none
def trailB (m : Nat) (R : CRow) (d : PyData) : Bool := isTupD d && (!decide ((rowsD d).length = 0) && (trlB m R [] false (rowsD d)).isSome)
theorem lvl_split {m : Nat} {R : CRow} {up : Bool} : ∀ (as bs : List PyData) (hs : List Int) (f : Bool), lvlB m R up hs f (as ++ bs) = (lvlB m R up hs f as).bind fun hs' => lvlB m R up hs' (f && decide (as.length = 0)) bs
  | [], bs, hs, f => by
    show lvlB m R up hs f bs = lvlB m R up hs (f && true) bs
    rw [Bool.and_true]
  | a :: as, bs, hs, f => by
    show (if entB m R hs (up && f) a then lvlB m R up (hs ++ [zOf a]) false (as ++ bs) else none) = (if entB m R hs (up && f) a then lvlB m R up (hs ++ [zOf a]) false as else none).bind fun hs' => lvlB m R up hs' (f && false) bs
    split
    · rw [lvl_split as bs, Bool.and_false]
      rfl
    · rfl
theorem trl_split {m : Nat} {R : CRow} : ∀ (as bs : List PyData) (hs : List Int) (f : Bool), trlB m R hs f (as ++ bs) = (trlB m R hs f as).bind fun hs' => trlB m R hs' (f || !decide (as.length = 0)) bs
  | [], bs, hs, f => by
    show trlB m R hs f bs = trlB m R hs (f || false) bs
    rw [Bool.or_false]
  | a :: as, bs, hs, f => by
    show (if isTupD a && !(f && decide ((rowsD a).length = 0)) then (lvlB m R f hs true (rowsD a)).bind fun hs' => trlB m R hs' true (as ++ bs) else none) = (if isTupD a && !(f && decide ((rowsD a).length = 0)) then (lvlB m R f hs true (rowsD a)).bind fun hs' => trlB m R hs' true as else none).bind fun hs' => trlB m R hs' (f || true) bs
    split
    · cases lvlB m R f hs true (rowsD a) with
      | none => rfl
      | some h2 =>
        show trlB m R h2 true (as ++ bs) = (trlB m R h2 true as).bind fun hs' => trlB m R hs' (f || true) bs
        rw [trl_split as bs, Bool.or_true]
        rfl
    · rfl
section
variable {K : PySem.W.Frag} {H H' : Hp} {v : V} {d : PyData}
theorem kit_tup (h : Dp K H v d) : PySem.W.kitOne K (.type (clsD d)) (.type "tuple") = some (isTupD d) := by
  cases h with
  | non => exact kit_ty (a := "NoneType") (b := "tuple") (r := false) (by decide +kernel)
  | bl _ => exact kit_ty (a := "bool") (b := "tuple") (r := false) (by decide +kernel)
  | int _ => exact kit_ty (a := "int") (b := "tuple") (r := false) (by decide +kernel)
  | str _ => exact kit_ty (a := "str") (b := "tuple") (r := false) (by decide +kernel)
  | lst _ _ => exact kit_ty (a := "list") (b := "tuple") (r := false) (by decide +kernel)
  | tup _ _ => exact kit_ty (a := "tuple") (b := "tuple") (r := true) (by decide +kernel)
/-- a tuple, and what stands in it -/
theorem tup_of (h : Dp K H v d) (t : isTupD d = true) : ∃ a xs, v = .ref a ∧ SqT K H a xs ∧ DpAll K H xs (rowsD d) ∧ d = .tuple (rowsD d) := by
  cases h with
  | tup hs ha => exact ⟨_, _, rfl, hs, ha, rfl⟩
  | non => cases t
  | bl _ => cases t
  | int _ => cases t
  | str _ => cases t
  | lst _ _ => cases t
theorem two_of {xs : List V} {ds : List PyData} (h : DpAll K H xs ds) (l : xs.length = 2) : ∃ x y dx dy, xs = [x, y] ∧ ds = [dx, dy] ∧ Dp K H x dx ∧ Dp K H y dy := by
  cases h with
  | nil => cases l
  | cons a t =>
    cases t with
    | nil => cases l
    | cons b t =>
      cases t with
      | nil => exact ⟨_, _, _, _, rfl, rfl, a, b⟩
      | cons c t => cases l
theorem ent_not {m : Nat} {R : CRow} {hs : List Int} {dec : Bool} {d : PyData} (t : isTupD d = false) : entB m R hs dec d = false := by
  cases d with
  | tuple ds => cases t
  | none => rfl
  | bool _ => rfl
  | int _ => rfl
  | str _ => rfl
  | list _ => rfl
  | dict _ => rfl
theorem ent_len {m : Nat} {R : CRow} {hs : List Int} {dec : Bool} {d : PyData} (t : (rowsD d).length ≠ 2) : entB m R hs dec d = false := by
  unfold entB
  split
  · exact absurd rfl t
  · rfl
theorem ent_lit {m : Nat} {R : CRow} {hs : List Int} {dec : Bool} {dx dy : PyData} (t : litB m dx = false) : entB m R hs dec (.tuple [dx, dy]) = false := by
  cases dx with
  | int z =>
    show (litB m (.int z) && _) = false
    rw [t]
    rfl
  | tuple ds => rfl
  | none => rfl
  | bool _ => rfl
  | str _ => rfl
  | list _ => rfl
  | dict _ => rfl
theorem lit_int {m : Nat} {d : PyData} (t : litB m d = true) : ∃ z, d = .int z := by
  cases d with
  | int z => exact ⟨z, rfl⟩
  | tuple ds => cases t
  | none => cases t
  | bool _ => cases t
  | str _ => cases t
  | list _ => cases t
  | dict _ => cases t
theorem and_flat {ta tb : TE} {σ : L2.St} {H : Hp} {Q : VK} {c b : Bool} (ha : ∀ R : VK, R (.bl c) H → ta σ H R) (hb : ∀ R : VK, R (.bl b) H → tb σ H R) (q : Q (.bl (c && b)) H) : tAndV ta tb σ H Q := by
  refine ha _ ⟨_, rfl, ?_⟩
  cases c with
  | false => exact iteF q
  | true => exact iteT (hb _ q)
theorem ent_two {m : Nat} {R : CRow} {hs : List Int} {dec : Bool} {d : PyData} (t : entB m R hs dec d = true) : ∃ z r, d = .tuple [.int z, r] ∧ ¬ z ∈ hs := by
  unfold entB at t
  split at t
  · rename_i z r
    refine ⟨z, r, rfl, fun h => ?_⟩
    rw [decide_eq_true h] at t
    have := ((Bool.and_eq_true _ _).mp t).2
    cases this
  · cases t
theorem neF {v : V} : (!decide (v = v)) = false := by
  rw [decide_eq_true rfl]
  rfl
theorem neT {v u : V} (h : v ≠ u) : (!decide (v = u)) = true := by
  rw [decide_eq_false h]
  rfl
theorem in_ints (z : Int) : ∀ xs : List Int, inV (.int z) (xs.map V.int) = decide (z ∈ xs)
  | [] => (decide_eq_false (List.not_mem_nil)).symm
  | x :: r => by
    show (eqV (.int x) (.int z) || inV (.int z) (r.map V.int)) = _
    have e : eqV (.int x) (.int z) = decide (x = z) := rfl
    rw [in_ints z r, e]
    by_cases c : x = z
    · rw [decide_eq_true c, decide_eq_true (show z ∈ x :: r by rw [c]; exact List.mem_cons_self)]
      rfl
    · rw [decide_eq_false c, Bool.false_or]
      refine decide_eq_decide.mpr ⟨fun h => List.mem_cons_of_mem _ h, fun h => (List.mem_cons.mp h).resolve_left fun q => c q.symm⟩
theorem all_flat (xs : List Int) : (xs.map V.int).all flatV = true := by
  rw [List.all_map]
  exact List.all_eq_true.mpr fun _ _ => rfl
end
def spIL (K : PySem.W.Frag) : Sp := fun vs H Q _ => ∃ (m : Nat) (v : V) (d : PyData), vs = [.int (m : Nat), v] ∧ Dp K H v d ∧ Q (.bl (litB m d)) H
def spIR (K : PySem.W.Frag) : Sp := fun vs H Q _ => ∃ (c D : Addr) (cl hs : List Int) (z : Int), vs = [.ref c, .int z, .ref D] ∧ SqT K H c (cl.map V.int) ∧ H D = some (trueD hs) ∧ cl.length ≤ 1000 ∧ ∀ H', Same H H' → Q (.bl (reasonB hs cl z)) H'
def spIE (K : PySem.W.Frag) : Sp := fun vs H Q _ => ∃ (m : Nat) (r D : Addr) (v : V) (dec : Bool) (us : List V) (R : CRow) (hs : List Int) (d : PyData), vs = [.int (m : Nat), .ref r, .ref D, v, .bl dec] ∧ SqL K H r us ∧ All2 (ClAt K H) us R ∧ (∀ cl ∈ R, cl.length ≤ 1000) ∧ H D = some (trueD hs) ∧ Dp K H v d ∧
  ∀ H', Same H H' → Q (.bl (entB m R hs dec d)) H'
def spIT (K : PySem.W.Frag) : Sp := fun vs H Q _ => ∃ (m : Nat) (r : Addr) (v : V) (us : List V) (R : CRow) (d : PyData), vs = [.int (m : Nat), .ref r, v] ∧ SqL K H r us ∧ All2 (ClAt K H) us R ∧ (∀ cl ∈ R, cl.length ≤ 1000) ∧ Dp K H v d ∧ (rowsD d).length ≤ 1000 ∧ (∀ e ∈ rowsD d, (rowsD e).length ≤ 1000) ∧
  ∀ H', Same H H' → Q (.bl (trailB m R d)) H'
section
variable {P : Program} {w : World} {K : PySem.W.Frag} {mg : Str → Option Value} {base : Heap} {f : Addr} {fd : FuncData}
abbrev nIL : List Str := ["many", "value"]
theorem scIL : FnScope nIL ["many", "value"] (defScope sIsLiteral) := ⟨rfl, rfl, rfl, by decide +kernel, rfl, by decide +kernel, by decide +kernel⟩
abbrev nIR : List Str := ["clause", "literal", "ahead", "other"]
theorem scIR : FnScope nIR ["clause", "literal", "ahead"] (defScope sIsReason) := ⟨rfl, rfl, rfl, by decide +kernel, rfl, by decide +kernel, by decide +kernel⟩
theorem ok_il (F : FnP K "is_literal" sIsLiteral f fd) (T : Tj.Tx mg)
    {fB : Addr} {dB : FuncData}
    (GB : FnOk P w K mg base CX0 1 fB dB ["value", "least", "most"] (spBetween K)) (gB : mg "is_between" = some (.ref fB)) (kB : PySem.W.keepIn K (.ref fB) = true) (bB : Binds K dB ["value", "least", "most"] [])
    : FnOk P w K mg base CX0 2 f fd ["many", "value"] (spIL K) := by
  refine F.ok scIL (fun vs H Q E h => ?_) (fun cdv A outer s H vs Q E hr h => ?_)
  · obtain ⟨m, v, d, rfl, _⟩ := h
    rfl
  · obtain ⟨m, v, d, rfl, hd, q⟩ := h
    refine ⟨_, PSs.nox (pss_one (ps_ret (pe_and (pe_call GB (hr.mono (by decide)) (by rfl) gB kB bB .nil pass0 (pa_cons (pv 1) (pa_cons (pe_un un_neg (pv 0)) (pa_cons (pv 0) pa_nil)))) (pe_one (pe_cmpR op_ne (pv 1) pe_int (nomark _)))))), ?_⟩
    refine ⟨_, rfl, _, rfl, _, rfl, _, rfl, v, -(m : Int), (m : Int), d, rfl, hd, ?_⟩
    refine ⟨_, rfl, ?_⟩
    cases hd with
    | non => exact iteF q
    | bl b => exact iteF q
    | str x => exact iteF q
    | lst _ _ => exact iteF q
    | tup _ _ => exact iteF q
    | int i =>
      refine ite2 (fun c => ?_) (fun c => ?_)
      · have e : litB m (.int i) = !decide (V.int i = V.int 0) := by
          have c : (decide (-(m : Int) ≤ i) && decide (i ≤ m)) = true := c
          have e2 : decide (V.int i = V.int 0) = decide (i = 0) := decide_eq_decide.mpr ⟨V.int.inj, fun h => congrArg V.int h⟩
          show ((decide (-(m : Int) ≤ i) && decide (i ≤ m)) && !decide (i = 0)) = _
          rw [c, e2]
          rfl
        rw [e] at q
        exact ⟨_, rfl, rfl, q⟩
      · have e : litB m (.int i) = false := by
          have c : (decide (-(m : Int) ≤ i) && decide (i ≤ m)) = false := Bool.eq_false_iff.mpr c
          show ((decide (-(m : Int) ≤ i) && decide (i ≤ m)) && !decide (i = 0)) = _
          rw [c]
          rfl
        rw [e] at q
        exact q
theorem ok_ir (F : FnP K "is_reason" sIsReason f fd) (T : Tj.Tx mg) : FnOk P w K mg base CX0 1 f fd ["clause", "literal", "ahead"] (spIR K) := by
  refine F.ok scIR (fun vs H Q E h => ?_) (fun cdv A outer s H vs Q E hr h => ?_)
  · obtain ⟨c, D, cl, hs, z, rfl, _⟩ := h
    rfl
  · obtain ⟨c, D, cl, hs, z, rfl, hc, hD, hl, q⟩ := h
    have hu := hu_of hr
    refine ⟨_, PSs.nox (pss_one (ps_ret (pe_and (pe_cmpR (r := rIn K false) (by exact op_in_seq) (pv 1) (pv 0) (by rfl)) (pe_one (pe_callB (cr_all rfl) (by rfl) T.all (by decide +kernel) (pa_cons (pe_lc (own := [("other", 3)]) (g := gName 3) (tt := tYes) rfl scIR.nd (pi_tup (pv 0)) (blkOk_by (N := nIR) (sc := defScope sIsReason) (by decide +kernel)) (fun _ _ _ _ _ => pg_name (i := 3) scIR.nd rfl (Or.inl rfl)) (fun _ _ _ _ _ => pts_nil) (fun _ _ _ _ _ => (pe_or (pe_cmpR op_eq (pv 3) (pv 1) (nomark _)) (pe_one (pe_cmp (pc_din hu (pe_un un_neg (pv 3)) (pv 2)) rfl))))) pa_nil)))))), ?_⟩
    refine ⟨_, rfl, _, rfl, c, _, rfl, .inr hc, rfl, all_flat _, ?_⟩
    refine ⟨_, rfl, ?_⟩
    have e1 : (if false = true then !inV (V.int z) (cl.map V.int) else inV (V.int z) (cl.map V.int)) = decide (z ∈ cl) := in_ints z cl
    rw [e1]
    refine ite2 (fun c1 => ?_) (fun c1 => ?_)
    · refine ⟨_, rfl, c, rfl, ⟨_, hc⟩, fun L nL => ?_⟩
      refine lc_tup (K := K) (a := c) (xs := cl.map V.int) (fun i H1 => Same H H1 ∧ H1 L = some (.lst (((cl.take i).map fun o => decide (o = z) || decide (-o ∈ hs)).map V.bl))) ⟨same_new nL, upd_same⟩ (fun i H1 _ ⟨s1, _⟩ => seqT_same s1 hc) ?_ ?_
      · rintro i y H1 hi ⟨s1, hL⟩
        rw [List.getElem?_map] at hi
        obtain ⟨o, ho, rfl⟩ : ∃ o, cl[i]? = some o ∧ y = .int o := by
          cases e : cl[i]? with
          | none => rw [e] at hi; cases hi
          | some o => rw [e] at hi; exact ⟨o, rfl, (Option.some.inj hi).symm⟩
        have il := (List.getElem?_eq_some_iff.mp ho).1
        have fin : ∀ b, b = (decide (o = z) || decide (-o ∈ hs)) → ∃ acc, H1 L = some (.lst acc) ∧ acc.length < sizeLine ∧ Same H (upd H1 L (.lst (acc ++ [.bl b]))) ∧ upd H1 L (.lst (acc ++ [.bl b])) L = some (.lst (((cl.take (i + 1)).map fun o => decide (o = z) || decide (-o ∈ hs)).map V.bl)) := fun b e => by
          refine ⟨_, hL, ?_, fun c o e => ?_, ?_⟩
          · rw [List.length_map, List.length_map, List.length_take]
            exact Nat.lt_of_le_of_lt (by omega : min i cl.length ≤ 1000) (by decide)
          · rw [upd_ne (ne_of_none e nL)]
            exact s1 _ _ e
          · rw [upd_same, take_more ho, List.map_append, List.map_append, e]
            rfl
        refine ⟨rfl, yes_of ?_⟩
        have eo : decide (V.int o = V.int z) = decide (o = z) := decide_eq_decide.mpr ⟨V.int.inj, fun h => congrArg V.int h⟩
        refine ⟨_, rfl, _, rfl, rfl, _, rfl, ?_⟩
        rw [eo]
        refine ite2 (fun c2 => ?_) (fun c2 => ?_)
        · exact fin true (by rw [c2]; rfl)
        · refine ⟨_, rfl, _, rfl, _, rfl, D, _, rfl, get_true (s1 _ _ hD) _, ?_⟩
          rw [some_true]
          exact fin _ (by rw [Bool.eq_false_iff.mpr c2]; rfl)
      · rintro H1 ⟨s1, hL⟩
        rw [List.length_map, List.take_length] at hL
        refine ⟨L, _, rfl, SqL.of hL, ?_⟩
        have e : reasonB hs cl z = ((cl.map fun o => decide (o = z) || decide (-o ∈ hs)).all id) := by
          unfold reasonB
          rw [c1, List.all_map]
          rfl
        rw [← e]
        exact q _ s1
    · have e : reasonB hs cl z = false := by
        unfold reasonB
        rw [Bool.eq_false_iff.mpr c1]
        rfl
      rw [← e]
      exact q _ (Same.refl _)
abbrev nIE : List Str := ["many", "row", "ahead", "entry", "decides", "literal", "reason"]
theorem scIE : FnScope nIE ["many", "row", "ahead", "entry", "decides"] (defScope sIsEntry) := ⟨rfl, rfl, rfl, by decide +kernel, rfl, by decide +kernel, by decide +kernel⟩
theorem ok_ie (F : FnP K "is_entry" sIsEntry f fd) (T : Tj.Tx mg)
    {fIL fB fIR : Addr} {dIL dB dIR : FuncData}
    (GIL : FnOk P w K mg base CX0 2 fIL dIL ["many", "value"] (spIL K)) (gIL : mg "is_literal" = some (.ref fIL)) (kIL : PySem.W.keepIn K (.ref fIL) = true) (bIL : Binds K dIL ["many", "value"] [])
    (GB : FnOk P w K mg base CX0 1 fB dB ["value", "least", "most"] (spBetween K)) (gB : mg "is_between" = some (.ref fB)) (kB : PySem.W.keepIn K (.ref fB) = true) (bB : Binds K dB ["value", "least", "most"] [])
    (GIR : FnOk P w K mg base CX0 1 fIR dIR ["clause", "literal", "ahead"] (spIR K)) (gIR : mg "is_reason" = some (.ref fIR)) (kIR : PySem.W.keepIn K (.ref fIR) = true) (bIR : Binds K dIR ["clause", "literal", "ahead"] [])
    : FnOk P w K mg base CX0 3 f fd ["many", "row", "ahead", "entry", "decides"] (spIE K) := by
  refine F.ok scIE (fun vs H Q E h => ?_) (fun cdv A outer s H vs Q E hr h => ?_)
  · obtain ⟨m, r, D, v, dec, us, R, hs, d, rfl, _⟩ := h
    rfl
  · obtain ⟨m, r, D, v, dec, us, R, hs, d, rfl, hR, au, cz, hD, hd, q⟩ := h
    have hu := hu_of hr
    have ul := au.len
    refine ⟨_, PSs.nox (pss_cons (ps_if (PW.pt (pw_or (pt_not (pt_val (pe_callB call_isi (by rfl) T.isinstance (by decide +kernel) (pa_cons (pv 3) (pa_cons (pe_bltn (v := .ty "tuple") (by rfl) T.tuple (by decide +kernel) rfl) pa_nil))))) (pw_or1 (pt_cmpR op_ne (pe_callB call_len_seq (by rfl) T.len PySem.boot_len (pa_cons (pv 3) pa_nil)) pe_int (nomark _)))))
        (pss_one (ps_ret pe_bl))
        pss_nil)
      (pss_cons (ps_asg (pv 3) (pg_tup rfl (pgs_cons (pg_name (i := 5) scIE.nd rfl (Or.inl rfl)) (pgs_cons (pg_name (i := 6) scIE.nd rfl (Or.inl rfl)) pgs_nil))))
      (pss_cons (ps_if (PW.pt (pw_or (pt_not (pt_val (pe_call GIL (hr.mono (by decide)) (by rfl) gIL kIL bIL .nil pass0 (pa_cons (pv 0) (pa_cons (pv 5) pa_nil))))) (pw_or (pt_cmp (pc_din hu (pv 5) (pv 2))) (pw_or1 (pt_cmp (pc_din hu (pe_un un_neg (pv 5)) (pv 2)))))))
        (pss_one (ps_ret pe_bl))
        pss_nil)
      (pss_cons (ps_if (pt_val (pv 4))
        (pss_one (ps_ret (pe_cmpR op_isN (pv 6) pe_non (nomark _))))
        pss_nil)
      (pss_one (ps_ret (pe_and (pe_call GB (hr.mono (by decide)) (by rfl) gB kB bB .nil pass0 (pa_cons (pv 6) (pa_cons pe_int (pa_cons (pe_op op_sub (pe_callB call_len_seq (by rfl) T.len PySem.boot_len (pa_cons (pv 1) pa_nil)) pe_int) pa_nil)))) (pe_one (pe_call GIR (hr.mono (by decide)) (by rfl) gIR kIR bIR .nil pass0 (pa_cons (pe_ix ix_list (pv 1) (pv 6) (fun _ _ => rfl)) (pa_cons (pv 5) (pa_cons (pv 2) pa_nil)))))))))))), ?_⟩
    refine ⟨_, rfl, _, _, _, _, _, rfl, .ty _, ty_of hd, kit_tup hd, _, rfl, ?_⟩
    cases tt : isTupD d with
    | false =>
      rw [ent_not tt] at q
      exact goT rfl (iteT (q _ (Same.refl _)))
    | true =>
      obtain ⟨a, xs, rfl, hxs, hds, ed⟩ := tup_of hd tt
      have dl := dps_len hds
      refine goF rfl ⟨_, rfl, a, xs, rfl, .inr hxs, rfl, _, rfl, ?_⟩
      by_cases l2 : xs.length = 2
      · obtain ⟨x, y, dx, dy, rfl, ed2, hx, hy⟩ := two_of hds l2
        rw [ed2] at ed
        subst ed
        refine goF neF ⟨_, rfl, a, _, rfl, hxs, rfl, _, _, rfl, _, _, rfl, rfl, ?_⟩
        refine ⟨_, rfl, _, rfl, m, x, dx, rfl, hx, _, rfl, ?_⟩
        cases lt : litB m dx with
        | false =>
          rw [ent_lit lt] at q
          exact goT rfl (iteT (q _ (Same.refl _)))
        | true =>
          obtain ⟨z, rfl⟩ := lit_int lt
          cases hx
          have eq : entB m R hs dec (.tuple [.int z, dy]) = (!decide (z ∈ hs) && (!decide (-z ∈ hs) && if dec then isNonD dy else whyB R hs z dy)) := by
            show (litB m (.int z) && _) = _
            rw [lt]
            rfl
          rw [eq] at q
          refine goF rfl ⟨_, rfl, _, rfl, D, _, rfl, get_true hD _, _, rfl, ?_⟩
          rw [some_true]
          cases m1 : decide (z ∈ hs) with
          | true =>
            rw [m1] at q
            exact goT rfl (iteT (q _ (Same.refl _)))
          | false =>
            rw [m1] at q
            refine goF rfl ⟨_, rfl, _, rfl, _, rfl, D, _, rfl, get_true hD _, _, rfl, ?_⟩
            rw [some_true]
            cases m2 : decide (-z ∈ hs) with
            | true =>
              rw [m2] at q
              exact goT rfl (q _ (Same.refl _))
            | false =>
              rw [m2] at q
              refine goF rfl ⟨_, rfl, _, rfl, ?_⟩
              cases dec with
              | true =>
                refine goT rfl ⟨_, rfl, rfl, ?_⟩
                have e : decide (y = V.non) = isNonD dy := by
                  cases hy with
                  | non => exact decide_eq_true rfl
                  | bl b => exact decide_eq_false fun h => by cases h
                  | int i => exact decide_eq_false fun h => by cases h
                  | str x => exact decide_eq_false fun h => by cases h
                  | lst _ _ => exact decide_eq_false fun h => by cases h
                  | tup _ _ => exact decide_eq_false fun h => by cases h
                rw [e]
                exact q _ (Same.refl _)
              | false =>
                refine goF rfl ⟨_, rfl, _, rfl, r, us, rfl, .inl hR, _, _, rfl, rfl, y, 0, (us.length : Int) - 1, dy, rfl, hy, _, rfl, ?_⟩
                cases hy with
                | non => exact iteF (q _ (Same.refl _))
                | bl b => exact iteF (q _ (Same.refl _))
                | str x => exact iteF (q _ (Same.refl _))
                | lst _ _ => exact iteF (q _ (Same.refl _))
                | tup _ _ => exact iteF (q _ (Same.refl _))
                | int i =>
                  have ew : whyB R hs z (.int i) = (betD (.int i) 0 ((us.length : Int) - 1) && reasonB hs (R.getD i.toNat []) z) := by
                    rw [ul]
                    rfl
                  have q : ∀ H', Same H H' → Q (.bl (whyB R hs z (.int i))) H' := q
                  rw [ew] at q
                  refine ite2 (fun c => ?_) (fun c => ?_)
                  · rw [c] at q
                    obtain ⟨c1, c2⟩ := (Bool.and_eq_true _ _).mp (show (decide (0 ≤ i) && decide (i ≤ (us.length : Int) - 1)) = true from c)
                    have c1 := of_decide_eq_true c1
                    have c2 := of_decide_eq_true c2
                    obtain ⟨u, hu1⟩ : ∃ u, us[i.toNat]? = some u := ⟨_, List.getElem?_eq_getElem (by omega)⟩
                    obtain ⟨cl, hcl, ac, rfl, hac⟩ := au.get hu1
                    have ecl : R.getD i.toNat [] = cl := by
                      rw [List.getD_eq_getElem?_getD, hcl]
                      rfl
                    rw [ecl] at q
                    exact ⟨_, rfl, _, rfl, r, us, _, _, rfl, rfl, hR, at_of (j := i.toNat) (by omega) hu1, _, rfl, _, rfl, ac, D, cl, hs, z, rfl, hac, hD, cz cl (List.mem_of_getElem? hcl), fun H' s' => q _ s'⟩
                  · rw [Bool.eq_false_iff.mpr c] at q
                    exact q _ (Same.refl _)
      · rw [ent_len (by rw [← dl]; exact l2)] at q
        exact goT (neT fun e => l2 (by have := V.int.inj e; omega)) (q _ (Same.refl _))
abbrev nIT : List Str := ["many", "row", "trail", "ahead", "at", "level", "place", "entry"]
theorem scIT : FnScope nIT ["many", "row", "trail"] (defScope sIsTrail) := ⟨rfl, rfl, rfl, by decide +kernel, rfl, by decide +kernel, by decide +kernel⟩
theorem ok_it (F : FnP K "is_trail" sIsTrail f fd) (T : Tj.Tx mg)
    {fIE : Addr} {dIE : FuncData}
    (GIE : FnOk P w K mg base CX0 3 fIE dIE ["many", "row", "ahead", "entry", "decides"] (spIE K)) (gIE : mg "is_entry" = some (.ref fIE)) (kIE : PySem.W.keepIn K (.ref fIE) = true) (bIE : Binds K dIE ["many", "row", "ahead", "entry", "decides"] [])
    : FnOk P w K mg base CX0 4 f fd ["many", "row", "trail"] (spIT K) := by
  refine F.ok scIT (fun vs H Q E h => ?_) (fun cdv A outer s H vs Q E hr h => ?_)
  · obtain ⟨m, r, v, us, R, d, rfl, _⟩ := h
    rfl
  · obtain ⟨m, r, v, us, R, d, rfl, hR, au, cz, hd, l1, l2, q⟩ := h
    have hu := hu_of hr
    refine ⟨_, PSs.nox (pss_cons (ps_if (PW.pt (pw_or (pt_not (pt_val (pe_callB call_isi (by rfl) T.isinstance (by decide +kernel) (pa_cons (pv 2) (pa_cons (pe_bltn (v := .ty "tuple") (by rfl) T.tuple (by decide +kernel) rfl) pa_nil))))) (pw_or1 (pt_cmpR op_eq (pe_callB call_len_seq (by rfl) T.len PySem.boot_len (pa_cons (pv 2) pa_nil)) pe_int (nomark _)))))
        (pss_one (ps_ret pe_bl))
        pss_nil)
      (pss_cons (ps_set (i := 3) scIT.nd rfl (Or.inl rfl) pe_dnewK)
      (pss_cons (ps_for PassesOwn.never rfl (En.pi_enT (by rfl) T.enumerate (pa_cons (pv 2) pa_nil)) (pg_tup rfl (pgs_cons (pg_name (i := 4) scIT.nd rfl (Or.inl rfl)) (pgs_cons (pg_name (i := 5) scIT.nd rfl (Or.inl rfl)) pgs_nil)))
        (C8.pss_cut (ps_if (PW.pt (pw_or (pt_not (pt_val (pe_callB call_isi (by rfl) T.isinstance (by decide +kernel) (pa_cons (pv 5) (pa_cons (pe_bltn (v := .ty "tuple") (by rfl) T.tuple (by decide +kernel) rfl) pa_nil))))) (pw_or1 (PW.pt (pw_and (pt_cmpR op_gt (pv 4) pe_int (nomark _)) (pw_and1 (pt_cmpR op_eq (pe_callB call_len_seq (by rfl) T.len PySem.boot_len (pa_cons (pv 5) pa_nil)) pe_int (nomark _))))))))
          (pss_one (ps_ret pe_bl))
          pss_nil)
        (pss_one (ps_for PassesOwn.never rfl (En.pi_enT (by rfl) T.enumerate (pa_cons (pv 5) pa_nil)) (pg_tup rfl (pgs_cons (pg_name (i := 6) scIT.nd rfl (Or.inl rfl)) (pgs_cons (pg_name (i := 7) scIT.nd rfl (Or.inl rfl)) pgs_nil)))
          (pss_cons (ps_if (pt_not (pt_val (pe_call GIE (hr.mono (by decide)) (by rfl) gIE kIE bIE .nil pass0 (pa_cons (pv 0) (pa_cons (pv 1) (pa_cons (pv 3) (pa_cons (pv 7) (pa_cons (pe_and (pe_cmpR op_gt (pv 4) pe_int (nomark _)) (pe_one (pe_cmpR op_eq (pv 6) pe_int (nomark _)))) pa_nil))))))))
            (pss_one (ps_ret pe_bl))
            pss_nil)
          (pss_one (ps_dput hu (pv 3) (pe_ix (r := L2.rIxT K) (by exact ix_tup) (pv 7) pe_int (fun _ _ => rfl)) pe_bl rfl)))))))
      (pss_one (ps_ret pe_bl))))), ?_⟩
    refine ⟨_, rfl, _, _, _, _, _, rfl, .ty _, ty_of hd, kit_tup hd, _, rfl, ?_⟩
    have ed0 : trailB m R d = (isTupD d && (!decide ((rowsD d).length = 0) && (trlB m R [] false (rowsD d)).isSome)) := rfl
    rw [ed0] at q
    cases tt : isTupD d with
    | false =>
      rw [tt] at q
      exact goT rfl (iteT (q _ (Same.refl _)))
    | true =>
      rw [tt] at q
      obtain ⟨a, xs, rfl, hxs, hds, ed⟩ := tup_of hd tt
      have dl := dps_len hds
      refine goF rfl ⟨_, rfl, a, xs, rfl, .inr hxs, rfl, _, rfl, ?_⟩
      by_cases l0 : (rowsD d).length = 0
      · rw [decide_eq_true l0] at q
        exact goT (decide_eq_true (by rw [dl, l0]; rfl)) (q _ (Same.refl _))
      rw [decide_eq_false l0] at q
      have q : ∀ H', Same H H' → Q (.bl (trlB m R [] false (rowsD d)).isSome) H' := q
      generalize rowsD d = ds at hds dl l0 l1 l2 q
      clear hd tt ed ed0
      refine goF (decide_eq_false fun e => l0 (by have := V.int.inj e; omega)) fun D nD => ?_
      have s0 := same_new (u := .dK []) nD
      have hD0 : upd H D (.dK []) D = some (trueD []) := upd_same
      refine ⟨_, rfl, a, _, rfl, seqT_same s0 hxs, En.for_enT (K := K) (a := a) (xs := xs)
        (fun k σ H' => ∃ (x4 x5 x6 x7 : Option V) (hs : List Int), σ = [some (.int (m : Nat)), some (.ref r), some (.ref a), some (.ref D), x4, x5, x6, x7] ∧ Same H H' ∧ H' D = some (trueD hs) ∧ trlB m R [] false (ds.take k) = some hs ∧ hs.length ≤ 1000 * k)
        ⟨_, _, _, _, [], rfl, s0, hD0, by rw [List.take_zero]; rfl, Nat.zero_le _⟩ (fun k σ H' _ ⟨_, _, _, _, _, _, s, _⟩ => seqT_same s hxs) ?_ ?_⟩
      · rintro k y σ H1 T1 hy ⟨x4, x5, x6, x7, hs, rfl, s1, hD, et, hl⟩ nT
        obtain ⟨e, he, hye⟩ := dps_get hds hy
        have kl := (List.getElem?_eq_some_iff.mp he).1
        have sT := same_new (u := .tup [.int (k : Nat), y]) nT
        have s2 := s1.trans sT
        have hD2 := sT _ _ hD
        have dy := dp_same s2 hye
        have upk : (false || !decide ((ds.take k).length = 0)) = decide (0 < k) := by
          rw [List.length_take, Nat.min_eq_left (Nat.le_of_lt kl), Bool.false_or]
          by_cases c : k = 0
          · rw [decide_eq_true c, decide_eq_false (by omega)]
            rfl
          · rw [decide_eq_false c, decide_eq_true (by omega)]
            rfl
        have stp : ∀ bs, trlB m R [] false (ds.take k ++ bs) = trlB m R hs (decide (0 < k)) bs := fun bs => by
          rw [trl_split, et, upk]
          rfl
        have all : ds.take k ++ e :: ds.drop (k + 1) = ds := by
          have e1 := List.take_append_drop k ds
          obtain ⟨lt, e2⟩ := List.getElem?_eq_some_iff.mp he
          rw [List.drop_eq_getElem_cons lt, e2] at e1
          exact e1
        have stp1 := stp [e]
        rw [← take_more he] at stp1
        have stp2 := stp (e :: ds.drop (k + 1))
        rw [all] at stp2
        have no : ¬ (isTupD e && !(decide (0 < k) && decide ((rowsD e).length = 0))) = true → trlB m R [] false ds = none := fun c => by
          rw [stp2]
          exact if_neg c
        refine ⟨T1, _, rfl, SqT.of upd_same, rfl, _, _, rfl, _, _, rfl, rfl, ?_⟩
        generalize upd H1 T1 _ = H2 at s2 hD2 dy ⊢
        clear sT nT s1 hD
        refine ⟨fun σ H' => H' = H2 ∧ σ = [some (.int (m : Nat)), some (.ref r), some (.ref a), some (.ref D), some (.int (k : Nat)), some y, x6, x7] ∧ (isTupD e && !(decide (0 < k) && decide ((rowsD e).length = 0))) = true, ?_, ?_⟩
        · refine ⟨_, rfl, _, _, _, _, _, rfl, .ty _, ty_of dy, kit_tup dy, _, rfl, ?_⟩
          cases te : isTupD e with
          | false =>
            rw [no (by rw [te]; exact Bool.false_ne_true)] at q
            exact goT rfl (iteT (q _ s2))
          | true =>
            obtain ⟨b, vs, rfl, hb, hvs, _⟩ := tup_of dy te
            have vl := dps_len hvs
            refine goF rfl ⟨_, rfl, _, _, rfl, rfl, _, rfl, ite2 (fun c1 => ?_) (fun c1 => ?_)⟩
            · have c1 := of_decide_eq_true c1
              have k0 : 0 < k := by omega
              refine ⟨_, rfl, b, vs, rfl, .inr hb, rfl, _, rfl, ite2 (fun c2 => ?_) (fun c2 => ?_)⟩
              · have c2 := V.int.inj (of_decide_eq_true c2)
                rw [no (by rw [te, decide_eq_true k0, decide_eq_true (by omega)]; exact Bool.false_ne_true)] at q
                exact q _ s2
              · refine ⟨rfl, rfl, ?_⟩
                rw [decide_eq_false (p := (rowsD e).length = 0) fun z => c2 (decide_eq_true (by rw [vl, z]; rfl)), Bool.and_false]
                rfl
            · refine iteF ⟨rfl, rfl, ?_⟩
              rw [decide_eq_false (p := 0 < k) fun z => c1 (decide_eq_true (by omega))]
              rfl
        rintro σ H3 ⟨rfl, rfl, ok⟩
        have stp1 : trlB m R [] false (ds.take (k + 1)) = lvlB m R (decide (0 < k)) hs true (rowsD e) := by
          rw [stp1]
          show (if (isTupD e && !(decide (0 < k) && decide ((rowsD e).length = 0))) = true then (lvlB m R (decide (0 < k)) hs true (rowsD e)).bind fun hs' => some hs' else none) = _
          rw [if_pos ok]
          cases lvlB m R (decide (0 < k)) hs true (rowsD e) <;> rfl
        have stp2 : lvlB m R (decide (0 < k)) hs true (rowsD e) = none → trlB m R [] false ds = none := fun z => by
          rw [stp2]
          show (if (isTupD e && !(decide (0 < k) && decide ((rowsD e).length = 0))) = true then (lvlB m R (decide (0 < k)) hs true (rowsD e)).bind fun hs' => trlB m R hs' true (ds.drop (k + 1)) else none) = _
          rw [if_pos ok, z]
          rfl
        obtain ⟨b, vs, rfl, hb, hvs, _⟩ := tup_of hye ((Bool.and_eq_true _ _).mp ok).1
        have vl := dps_len hvs
        have el := l2 e (List.mem_of_getElem? he)
        clear no stp all upk dy hye
        generalize rowsD e = es at hvs vl el stp1 stp2
        refine ⟨_, rfl, b, _, rfl, seqT_same s2 hb, En.for_enT (K := K) (a := b) (xs := vs)
          (fun i σ H' => ∃ (x6 x7 : Option V) (hs2 : List Int), σ = [some (.int (m : Nat)), some (.ref r), some (.ref a), some (.ref D), some (.int (k : Nat)), some (.ref b), x6, x7] ∧ Same H H' ∧ H' D = some (trueD hs2) ∧ lvlB m R (decide (0 < k)) hs true (es.take i) = some hs2 ∧ hs2.length ≤ 1000 * k + i)
          ⟨_, _, hs, rfl, s2, hD2, by rw [List.take_zero]; rfl, by omega⟩ (fun i σ H' _ ⟨_, _, _, _, s, _⟩ => seqT_same s hb) ?_ ?_⟩
        · rintro i z σ H4 T2 hz ⟨x6, x7, hs2, rfl, s4, hD4, el4, hl4⟩ nT2
          obtain ⟨ee, hee, hze⟩ := dps_get hvs hz
          have il := (List.getElem?_eq_some_iff.mp hee).1
          have sT2 := same_new (u := .tup [.int (i : Nat), z]) nT2
          have upi : (true && decide ((es.take i).length = 0)) = decide (i = 0) := by
            rw [List.length_take, Nat.min_eq_left (Nat.le_of_lt il), Bool.true_and]
          have lst : ∀ bs, lvlB m R (decide (0 < k)) hs true (es.take i ++ bs) = lvlB m R (decide (0 < k)) hs2 (decide (i = 0)) bs := fun bs => by
            rw [lvl_split, el4, upi]
            rfl
          have lst1 := lst [ee]
          rw [← take_more hee] at lst1
          have lst2 := lst (ee :: es.drop (i + 1))
          have all : es.take i ++ ee :: es.drop (i + 1) = es := by
            have e1 := List.take_append_drop i es
            obtain ⟨lt, e2⟩ := List.getElem?_eq_some_iff.mp hee
            rw [List.drop_eq_getElem_cons lt, e2] at e1
            exact e1
          rw [all] at lst2
          refine ⟨T2, _, rfl, SqT.of upd_same, rfl, _, _, rfl, _, _, rfl, rfl, ?_⟩
          have s5 := s4.trans sT2
          have hD5 := sT2 _ _ hD4
          generalize upd H4 T2 _ = H5 at s5 hD5 ⊢
          have hz5 := dp_same s5 hze
          refine ⟨_, rfl, _, rfl, _, rfl, _, rfl, and_flat (c := decide ((0 : Int) < ((k : Nat) : Int))) (b := decide (V.int ((i : Nat) : Int) = V.int 0)) (fun R h => ⟨_, rfl, _, _, rfl, rfl, h⟩) (fun R h => ⟨_, rfl, rfl, h⟩) ?_⟩
          refine ⟨m, r, D, z, _, us, R, hs2, ee, rfl, s5.seq hR, au.imp fun _ _ h => h.firm (Firm.of s5), cz, hD5, hz5, fun H6 s6 => ⟨_, rfl, ?_⟩⟩
          have edec : (decide ((0 : Int) < ((k : Nat) : Int)) && decide (V.int ((i : Nat) : Int) = V.int 0)) = (decide (0 < k) && decide (i = 0)) := by
            rw [show decide ((0 : Int) < ((k : Nat) : Int)) = decide (0 < k) from decide_eq_decide.mpr (by omega), show decide (V.int ((i : Nat) : Int) = V.int 0) = decide (i = 0) from decide_eq_decide.mpr ⟨fun h => by have := V.int.inj h; omega, fun h => by rw [h]; rfl⟩]
          rw [edec]
          have hD6 := s6 _ _ hD5
          have s06 := s5.trans s6
          cases ent : entB m R hs2 (decide (0 < k) && decide (i = 0)) ee with
          | false =>
            have : lvlB m R (decide (0 < k)) hs true es = none := by
              rw [lst2]
              exact if_neg (by rw [ent]; exact Bool.false_ne_true)
            rw [stp2 this] at q
            exact goT rfl (q _ s06)
          | true =>
            obtain ⟨x, rr, rfl, xn⟩ := ent_two ent
            have hz6 := dp_same s06 hze
            cases hz6 with
            | tup hbe hds2 =>
              rename_i be zs
              cases hds2 with
              | cons hx ht =>
                cases hx
                have ins : insT hs2 x = hs2 ++ [x] := if_neg xn
                refine goF rfl ⟨_, rfl, _, rfl, be, _, 0, _, rfl, rfl, hbe, at_of (j := 0) rfl rfl, D, _, rfl, dput_true hD6 x (Nat.lt_of_le_of_lt (by omega : hs2.length ≤ 1002000) (by decide)), ?_⟩
                rw [ins]
                refine ⟨_, _, hs2 ++ [x], rfl, fun c o e => ?_, upd_same, ?_, by rw [List.length_append]; show hs2.length + 1 ≤ _; omega⟩
                · rw [upd_ne (ne_of_none e nD)]
                  exact s06 _ _ e
                · rw [lst1]
                  show (if entB m R hs2 (decide (0 < k) && decide (i = 0)) _ then _ else none) = _
                  rw [ent]
                  rfl
        · rintro σ H4 ⟨x6, x7, hs2, rfl, s4, hD4, el4, hl4⟩
          rw [vl, List.take_length] at el4
          exact ⟨_, _, _, _, hs2, rfl, s4, hD4, by rw [stp1, el4], by omega⟩
      · rintro σ H1 ⟨x4, x5, x6, x7, hs, rfl, s1, hD, et, hl⟩
        rw [dl, List.take_length] at et
        rw [et] at q
        exact q _ s1
end
end Tj
namespace Tk
open PySem PySem.Spec PyProof.Rows L2 Pen Dat Ki Fi Gr No Lf Cm Cn Abk Tr Ta Tb Te Tj
/-! ## k27: the law's own look at trails -/
def wholeD : PyData → Bool
  | .int _ => true
  | _ => false
def idxB (d : PyData) (n : Int) : Bool := match d with
  | .int i => decide (0 ≤ i) && decide (i < n)
  | _ => false
def spWhole (K : PySem.W.Frag) : Sp := fun vs H Q _ => ∃ (v : V) (d : PyData), vs = [v] ∧ Dp K H v d ∧ Q (.bl (wholeD d)) H
def spIX (K : PySem.W.Frag) : Sp := fun vs H Q _ => ∃ (v : V) (d : PyData) (n : Int), vs = [v, .int n] ∧ Dp K H v d ∧ Q (.bl (idxB d n)) H
def spIU (K : PySem.W.Frag) : Sp := fun vs H Q _ => ∃ (c A : Addr) (cl hs : List Int) (z : Int), vs = [.ref c, .int z, .ref A] ∧ SqT K H c (cl.map V.int) ∧ SqL K H A (hs.map V.int) ∧ cl.length ≤ 1000 ∧ ∀ H', Same H H' → Q (.bl (reasonB hs cl z)) H'
def spAF (K : PySem.W.Frag) : Sp := fun vs H Q _ => ∃ (c A : Addr) (cl hs : List Int), vs = [.ref c, .ref A] ∧ SqT K H c (cl.map V.int) ∧ SqL K H A (hs.map V.int) ∧ cl.length ≤ 1000 ∧ ∀ H', Same H H' → Q (.bl (decide (leftM hs cl = []))) H'
def spLT (K : PySem.W.Frag) : Sp := fun vs H Q _ => ∃ (m : Nat) (r : Addr) (v : V) (us : List V) (R : CRow) (d : PyData), vs = [.int (m : Nat), .ref r, v] ∧ SqL K H r us ∧ All2 (ClAt K H) us R ∧ (∀ cl ∈ R, cl.length ≤ 1000) ∧ Dp K H v d ∧ SeqAt.shaped d = true ∧ (rowsD d).length ≤ 1000 ∧ (∀ e ∈ rowsD d, (rowsD e).length ≤ 1000) ∧
  ∀ H', Same H H' → Q (.bl (trailB m R d)) H'
theorem lay_mem : ∀ {ds : List PyData} {e : PyData}, e ∈ ds → PyData.canLayAll0 ds = true → e.canLay0 = true ∧ e.depth ≤ PyData.depthAll ds
  | x :: ds, e, h, c => by
    obtain ⟨c1, c2⟩ := (Bool.and_eq_true _ _).mp (show (x.canLay0 && PyData.canLayAll0 ds) = true from c)
    show _ ∧ e.depth ≤ max x.depth (PyData.depthAll ds)
    rcases List.mem_cons.mp h with g | g
    · rw [g]
      exact ⟨c1, Nat.le_max_left _ _⟩
    · obtain ⟨a, b⟩ := lay_mem g c2
      exact ⟨a, Nat.le_trans b (Nat.le_max_right _ _)⟩
theorem sh_mem {ds : List PyData} {e : PyData} (h : SeqAt.shaped (.tuple ds) = true) (m : e ∈ ds) : SeqAt.shaped e = true := by
  obtain ⟨a, b⟩ := (Bool.and_eq_true _ _).mp (show (PyData.canLayAll0 ds && decide (PyData.depthAll ds + 1 ≤ 64)) = true from h)
  obtain ⟨c, d⟩ := lay_mem m a
  have b := of_decide_eq_true b
  show (e.canLay0 && decide (e.depth ≤ 64)) = true
  rw [c, decide_eq_true (by omega)]
  rfl
theorem eqv_unit (ds : List PyData) : PyData.eqv (.tuple ds) (.tuple []) = decide (ds.length = 0) := by
  cases ds with
  | nil => rfl
  | cons x r => simp [PyData.eqv, PyData.eqvAll]
theorem trl_bad {m : Nat} {R : CRow} : ∀ {ds : List PyData} {hs : List Int} {u : Bool}, (∃ e ∈ ds, isTupD e = false) → trlB m R hs u ds = none
  | d :: ds, hs, u, ⟨e, he, t⟩ => by
    show (if isTupD d && !(u && decide ((rowsD d).length = 0)) then (lvlB m R u hs true (rowsD d)).bind fun hs' => trlB m R hs' true ds else none) = none
    split
    · rename_i c
      rcases List.mem_cons.mp he with g | g
      · rw [← g, t] at c
        cases c
      · cases lvlB m R u hs true (rowsD d) with
        | none => rfl
        | some h2 => exact trl_bad ⟨e, g, t⟩
    · rfl
theorem rsn_filter (hs cl : List Int) (z : Int) : (cl.all fun o => decide (o = z) || decide (-o ∈ hs)) = decide ((((cl.filter fun o => !decide (o = z)).filter fun o => !decide (-o ∈ hs)).length) = 0) := by
  rw [Bool.eq_iff_iff, List.all_eq_true, decide_eq_true_iff]
  constructor
  · intro h
    rw [List.filter_filter, List.filter_eq_nil_iff.mpr fun o ho c => ?_]
    · rfl
    · have := h o ho
      obtain ⟨c1, c2⟩ := (Bool.and_eq_true _ _).mp c
      by_cases g : o = z
      · rw [decide_eq_true g] at c2
        cases c2
      · by_cases g2 : -o ∈ hs
        · rw [decide_eq_true g2] at c1
          cases c1
        · rw [decide_eq_false g, decide_eq_false g2] at this
          cases this
  · intro h o ho
    have h := List.eq_nil_of_length_eq_zero h
    by_cases g : o = z
    · rw [decide_eq_true g]
      rfl
    · by_cases g2 : -o ∈ hs
      · rw [decide_eq_true g2, Bool.or_true]
      · have : o ∈ ((cl.filter fun o => !decide (o = z)).filter fun o => !decide (-o ∈ hs)) := List.mem_filter.mpr ⟨List.mem_filter.mpr ⟨ho, by rw [decide_eq_false g]; rfl⟩, by rw [decide_eq_false g2]; rfl⟩
        rw [h] at this
        cases this
section
variable {P : Program} {w : World} {K : PySem.W.Frag} {mg : Str → Option Value} {base : Heap} {f : Addr} {fd : FuncData}
abbrev nWH : List Str := ["_law_thing"]
theorem scWH : FnScope nWH ["_law_thing"] (defScope sWhole) := ⟨rfl, rfl, rfl, by decide +kernel, rfl, by decide +kernel, by decide +kernel⟩
abbrev nIX : List Str := ["_law_thing", "_law_many"]
theorem scIX : FnScope nIX ["_law_thing", "_law_many"] (defScope sLIsIndex) := ⟨rfl, rfl, rfl, by decide +kernel, rfl, by decide +kernel, by decide +kernel⟩
abbrev nIU : List Str := ["_law_clause", "_law_literal", "_law_ahead", "_law_number", "_law_others"]
theorem scIU : FnScope nIU ["_law_clause", "_law_literal", "_law_ahead"] (defScope sLIsUnit) := ⟨rfl, rfl, rfl, by decide +kernel, rfl, by decide +kernel, by decide +kernel⟩
abbrev nAF : List Str := ["_law_clause", "_law_trues", "_law_number"]
theorem scAF : FnScope nAF ["_law_clause", "_law_trues"] (defScope sLAllFalse) := ⟨rfl, rfl, rfl, by decide +kernel, rfl, by decide +kernel, by decide +kernel⟩
theorem ok_whole (F : FnP K "_law_is_whole" sWhole f fd) (T : Tj.Tx mg) : FnOk P w K mg base CX0 1 f fd ["_law_thing"] (spWhole K) := by
  refine F.ok scWH (fun vs H Q E h => ?_) (fun cdv A outer s H vs Q E hr h => ?_)
  · obtain ⟨v, d, rfl, _⟩ := h
    rfl
  · obtain ⟨v, d, rfl, hd, q⟩ := h
    refine ⟨_, PSs.nox (pss_one (ps_ret (pe_and (pe_callB call_isi (by rfl) T.isinstance (by decide +kernel) (pa_cons (pv 0) (pa_cons (pe_bltn (v := .ty "int") (by rfl) T.int (by decide +kernel) rfl) pa_nil))) (pe_one (pe_not (pe_callB call_isi (by rfl) T.isinstance (by decide +kernel) (pa_cons (pv 0) (pa_cons (pe_bltn (v := .ty "bool") (by rfl) T.bool (by decide +kernel) rfl) pa_nil)))))))), ?_⟩
    refine ⟨_, rfl, _, _, _, _, _, rfl, .ty _, ty_of hd, kit_int hd, _, rfl, ?_⟩
    have kb := kit_bool hd
    have tb := ty_of hd
    cases hd with
    | non => exact iteF q
    | str x => exact iteF q
    | lst _ _ => exact iteF q
    | tup _ _ => exact iteF q
    | bl b => exact iteT ⟨_, rfl, _, _, _, _, _, rfl, .ty _, tb, kb, _, rfl, q⟩
    | int i => exact iteT ⟨_, rfl, _, _, _, _, _, rfl, .ty _, tb, kb, _, rfl, q⟩
theorem ok_ix (F : FnP K "_law_is_index" sLIsIndex f fd) (T : Tj.Tx mg)
    {fWH : Addr} {dWH : FuncData}
    (GWH : FnOk P w K mg base CX0 1 fWH dWH ["_law_thing"] (spWhole K)) (gWH : mg "_law_is_whole" = some (.ref fWH)) (kWH : PySem.W.keepIn K (.ref fWH) = true) (bWH : Binds K dWH ["_law_thing"] [])
    : FnOk P w K mg base CX0 2 f fd ["_law_thing", "_law_many"] (spIX K) := by
  refine F.ok scIX (fun vs H Q E h => ?_) (fun cdv A outer s H vs Q E hr h => ?_)
  · obtain ⟨v, d, n, rfl, _⟩ := h
    rfl
  · obtain ⟨v, d, n, rfl, hd, q⟩ := h
    refine ⟨_, PSs.nox (pss_one (ps_ret (pe_and (pe_call GWH (hr.mono (by decide)) (by rfl) gWH kWH bWH .nil pass0 (pa_cons (pv 0) pa_nil)) (pe_one (pe_chain op_le op_lt pe_int (pv 0) (pv 1)))))), ?_⟩
    refine ⟨_, rfl, v, d, rfl, hd, _, rfl, ?_⟩
    cases hd with
    | non => exact iteF q
    | str x => exact iteF q
    | lst _ _ => exact iteF q
    | tup _ _ => exact iteF q
    | bl b => exact iteF q
    | int i =>
      have q : Q (.bl (decide (0 ≤ i) && decide (i < n))) H := q
      refine iteT ⟨_, rfl, _, _, rfl, rfl, _, rfl, ite2 (fun h1 => ?_) (fun h1 => ?_)⟩
      · rw [h1] at q
        exact ⟨_, rfl, _, _, rfl, rfl, q⟩
      · rw [Bool.eq_false_iff.mpr h1] at q
        exact q
theorem ok_iu (F : FnP K "_law_is_unit" sLIsUnit f fd) (T : Tj.Tx mg) : FnOk P w K mg base CX0 1 f fd ["_law_clause", "_law_literal", "_law_ahead"] (spIU K) := by
  refine F.ok scIU (fun vs H Q E h => ?_) (fun cdv A outer s H vs Q E hr h => ?_)
  · obtain ⟨c, A0, cl, hs, z, rfl, _⟩ := h
    rfl
  · obtain ⟨c, A0, cl, hs, z, rfl, hc, hA, hl, q⟩ := h
    refine ⟨_, PSs.nox (pss_cons (ps_setLc (i := 4) (own := [("_law_number", 3)]) (g := gName 3) (by rfl) scIU.nd rfl rfl (sw_true rfl rfl rfl (by decide +kernel)) (pi_tup (pv 0)) (blkOk_by (N := nIU) (sc := defScope sLIsUnit) (by decide +kernel)) (fun _ _ _ _ _ => pg_name (i := 3) scIU.nd rfl (Or.inl rfl)) (fun _ _ _ _ _ => pts_one (pt_cmpR op_ne (pv 3) (pv 1) (nomark _))) (fun _ _ _ _ _ => (pv 3)))
      (pss_one (ps_ret (pe_and (pe_cmpR (r := rIn K false) (by exact op_in_seq) (pv 1) (pv 0) (by rfl)) (pe_one (pe_cmpR (op_eqD hr.units) (pe_lc (own := [("_law_number", 3)]) (g := gName 3) rfl scIU.nd (pi_list (pv 4)) (blkOk_by (N := nIU) (sc := defScope sLIsUnit) (by decide +kernel)) (fun _ _ _ _ _ => pg_name (i := 3) scIU.nd rfl (Or.inl rfl)) (fun _ _ _ _ _ => pts_one (pt_cmpR (r := rIn K true) (by exact op_notIn_seq) (pe_un un_neg (pv 3)) (pv 2) (by rfl))) (fun _ _ _ _ _ => pe_int)) (pe_lst pa_nil) (nomark _))))))), ?_⟩
    refine ⟨_, rfl, c, rfl, ⟨_, hc⟩, fun L nL => ?_⟩
    refine lc_tup (K := K) (a := c) (xs := cl.map V.int) (fun i H1 => Same H H1 ∧ H1 L = some (.lst (((cl.take i).filter fun o => !decide (o = z)).map V.int))) ⟨same_new nL, upd_same⟩ (fun i H1 _ ⟨s1, _⟩ => seqT_same s1 hc) ?_ ?_
    · rintro i y H1 hi ⟨s1, hL⟩
      rw [List.getElem?_map] at hi
      obtain ⟨o, ho, rfl⟩ : ∃ o, cl[i]? = some o ∧ y = .int o := by
        cases e : cl[i]? with
        | none => rw [e] at hi; cases hi
        | some o => rw [e] at hi; exact ⟨o, rfl, (Option.some.inj hi).symm⟩
      have eo : (!decide (V.int o = V.int z)) = !decide (o = z) := congrArg not (decide_eq_decide.mpr ⟨V.int.inj, fun h => congrArg V.int h⟩)
      refine ⟨rfl, ?_⟩
      refine ⟨_, rfl, _, rfl, rfl, _, rfl, ?_⟩
      rw [eo, take_more ho, List.filter_append, List.map_append]
      refine ite2 (fun c1 => ?_) (fun c1 => ?_)
      · refine ⟨_, rfl, _, hL, ?_, fun c o e => ?_, ?_⟩
        · rw [List.length_map]
          exact Nat.lt_of_le_of_lt (Nat.le_trans (List.length_filter_le _ _) (by rw [List.length_take]; omega : _ ≤ 1000)) (by decide)
        · rw [upd_ne (ne_of_none e nL)]
          exact s1 _ _ e
        · rw [upd_same, List.filter_cons_of_pos (p := fun o => !decide (o = z)) c1]
          rfl
      · rw [List.filter_cons_of_neg (p := fun o => !decide (o = z)) c1]
        refine ⟨s1, ?_⟩
        rw [hL]
        exact congrArg (fun x => some (HO.lst x)) (List.append_nil _).symm
    rintro H1 ⟨s1, hL⟩
    rw [List.length_map, List.take_length] at hL
    refine ⟨_, rfl, _, rfl, c, _, rfl, .inr (seqT_same s1 hc), rfl, all_flat _, _, rfl, ?_⟩
    have e1 : (if false = true then !inV (V.int z) (cl.map V.int) else inV (V.int z) (cl.map V.int)) = decide (z ∈ cl) := in_ints z cl
    rw [e1]
    have er : reasonB hs cl z = (decide (z ∈ cl) && decide ((((cl.filter fun o => !decide (o = z)).filter fun o => !decide (-o ∈ hs)).length) = 0)) := by
      unfold reasonB
      rw [rsn_filter]
    rw [er] at q
    generalize hos : (cl.filter fun o => !decide (o = z)) = os at hL q
    have ol : os.length ≤ 1000 := by
      rw [← hos]
      exact Nat.le_trans (List.length_filter_le _ _) hl
    refine ite2 (fun c1 => ?_) (fun c1 => ?_)
    · rw [c1] at q
      refine ⟨_, rfl, L, rfl, ⟨_, SqL.of hL⟩, fun D nD => ?_⟩
      refine lc_list (K := K) (a := L) (xs := os.map V.int) (fun i H2 => Same H1 H2 ∧ H2 D = some (.lst (List.replicate ((os.take i).filter fun o => !decide (-o ∈ hs)).length (V.int 1)))) ⟨same_new nD, upd_same⟩ (fun i H2 _ ⟨s2, _⟩ => SqL.of (s2 _ _ hL)) ?_ ?_
      · rintro i y H2 hi ⟨s2, hD⟩
        rw [List.getElem?_map] at hi
        obtain ⟨o, ho, rfl⟩ : ∃ o, os[i]? = some o ∧ y = .int o := by
          cases e : os[i]? with
          | none => rw [e] at hi; cases hi
          | some o => rw [e] at hi; exact ⟨o, rfl, (Option.some.inj hi).symm⟩
        refine ⟨rfl, ?_⟩
        refine ⟨_, rfl, _, rfl, _, rfl, A0, _, rfl, .inl ((s1.trans s2).seq hA), rfl, all_flat _, _, rfl, ?_⟩
        have e2 : (if true = true then !inV (V.int (-o)) (hs.map V.int) else inV (V.int (-o)) (hs.map V.int)) = !decide (-o ∈ hs) := congrArg not (in_ints (-o) hs)
        rw [e2, take_more ho, List.filter_append, List.length_append]
        refine ite2 (fun c2 => ?_) (fun c2 => ?_)
        · refine ⟨_, hD, ?_, fun c o e => ?_, ?_⟩
          · rw [List.length_replicate]
            exact Nat.lt_of_le_of_lt (Nat.le_trans (List.length_filter_le _ _) (by rw [List.length_take]; omega : _ ≤ 1000)) (by decide)
          · rw [upd_ne (ne_of_none e nD)]
            exact s2 _ _ e
          · rw [upd_same, List.filter_cons_of_pos (p := fun o => !decide (-o ∈ hs)) c2]
            show _ = some (HO.lst (List.replicate (_ + 1) (V.int 1)))
            rw [List.replicate_succ']
        · rw [List.filter_cons_of_neg (p := fun o => !decide (-o ∈ hs)) c2]
          exact ⟨s2, hD⟩
      rintro H2 ⟨s2, hD⟩
      rw [List.length_map, List.take_length] at hD
      refine ⟨len0, fun e0 n0 => ?_⟩
      have s3 := same_new (u := .lst []) n0
      refine ⟨_, _, .lst (SqL.of (s3 _ _ hD)) (dp_ones K _ _), .lst (SqL.of upd_same) .nil, sh_list1 _, by decide +kernel, ?_⟩
      rw [ones_nil]
      exact q _ (s1.trans (s2.trans s3))
    · rw [Bool.eq_false_iff.mpr c1] at q
      exact q _ s1
theorem ok_af (F : FnP K "_law_all_false" sLAllFalse f fd) (T : Tj.Tx mg) : FnOk P w K mg base CX0 1 f fd ["_law_clause", "_law_trues"] (spAF K) := by
  refine F.ok scAF (fun vs H Q E h => ?_) (fun cdv A outer s H vs Q E hr h => ?_)
  · obtain ⟨c, A0, cl, hs, rfl, _⟩ := h
    rfl
  · obtain ⟨c, A0, cl, hs, rfl, hc, hA, hl, q⟩ := h
    refine ⟨_, PSs.nox (pss_one (ps_ret (pe_cmpR (op_eqD hr.units) (pe_lc (own := [("_law_number", 2)]) (g := gName 2) rfl scAF.nd (pi_tup (pv 0)) (blkOk_by (N := nAF) (sc := defScope sLAllFalse) (by decide +kernel)) (fun _ _ _ _ _ => pg_name (i := 2) scAF.nd rfl (Or.inl rfl)) (fun _ _ _ _ _ => pts_one (pt_cmpR (r := rIn K true) (by exact op_notIn_seq) (pe_un un_neg (pv 2)) (pv 1) (by rfl))) (fun _ _ _ _ _ => pe_int)) (pe_lst pa_nil) (nomark _)))), ?_⟩
    refine ⟨_, rfl, c, rfl, ⟨_, hc⟩, fun D nD => ?_⟩
    refine lc_tup (K := K) (a := c) (xs := cl.map V.int) (fun i H2 => Same H H2 ∧ H2 D = some (.lst (List.replicate (leftM hs (cl.take i)).length (V.int 1)))) ⟨same_new nD, upd_same⟩ (fun i H2 _ ⟨s2, _⟩ => seqT_same s2 hc) ?_ ?_
    · rintro i y H2 hi ⟨s2, hD⟩
      rw [List.getElem?_map] at hi
      obtain ⟨o, ho, rfl⟩ : ∃ o, cl[i]? = some o ∧ y = .int o := by
        cases e : cl[i]? with
        | none => rw [e] at hi; cases hi
        | some o => rw [e] at hi; exact ⟨o, rfl, (Option.some.inj hi).symm⟩
      refine ⟨rfl, ?_⟩
      refine ⟨_, rfl, _, rfl, _, rfl, A0, _, rfl, .inl (s2.seq hA), rfl, all_flat _, _, rfl, ?_⟩
      have e2 : (if true = true then !inV (V.int (-o)) (hs.map V.int) else inV (V.int (-o)) (hs.map V.int)) = !decide (-o ∈ hs) := congrArg not (in_ints (-o) hs)
      unfold leftM at hD ⊢
      rw [e2, take_more ho, List.filter_append, List.length_append]
      refine ite2 (fun c2 => ?_) (fun c2 => ?_)
      · refine ⟨_, hD, ?_, fun c o e => ?_, ?_⟩
        · rw [List.length_replicate]
          exact Nat.lt_of_le_of_lt (Nat.le_trans (List.length_filter_le _ _) (by rw [List.length_take]; omega : _ ≤ 1000)) (by decide)
        · rw [upd_ne (ne_of_none e nD)]
          exact s2 _ _ e
        · rw [upd_same, List.filter_cons_of_pos (p := fun o => !decide (-o ∈ hs)) c2]
          show _ = some (HO.lst (List.replicate (_ + 1) (V.int 1)))
          rw [List.replicate_succ']
      · rw [List.filter_cons_of_neg (p := fun o => !decide (-o ∈ hs)) c2]
        exact ⟨s2, hD⟩
    rintro H2 ⟨s2, hD⟩
    rw [List.length_map, List.take_length] at hD
    refine ⟨len0, fun e0 n0 => ?_⟩
    have s3 := same_new (u := .lst []) n0
    refine ⟨_, _, .lst (SqL.of (s3 _ _ hD)) (dp_ones K _ _), .lst (SqL.of upd_same) .nil, sh_list1 _, by decide +kernel, ?_⟩
    rw [ones_nil, show decide ((leftM hs cl).length = 0) = decide (leftM hs cl = []) from decide_eq_decide.mpr List.length_eq_zero_iff]
    exact q _ (s2.trans s3)
end
end Tk
namespace Tq
open PySem PySem.Spec PyProof.Rows L2 Pen Dat Ki Fi Gr No Lf Cm Cn Abk Tr Ta Tb Te Tj Tk
/-! ## k27: the law's own look at trails: the whole -/
theorem lit_abs {m : Nat} {z : Int} : litB m (.int z) = (decide (1 ≤ (if z < 0 then -z else z)) && decide ((if z < 0 then -z else z) ≤ (m : Int))) := by
  show ((decide (-(m : Int) ≤ z) && decide (z ≤ m)) && !decide (z = 0)) = _
  rw [Bool.eq_iff_iff]
  simp only [Bool.and_eq_true, decide_eq_true_eq, Bool.not_eq_true', decide_eq_false_iff_not]
  split <;> omega
theorem why_idx {R : CRow} {hs : List Int} {z : Int} {d : PyData} : whyB R hs z d = (idxB d (R.length : Int) && match d with | .int i => reasonB hs (R.getD i.toNat []) z | _ => false) := by
  cases d with
  | int i =>
    show ((decide (0 ≤ i) && decide (i ≤ (R.length : Int) - 1)) && reasonB hs (R.getD i.toNat []) z) = ((decide (0 ≤ i) && decide (i < (R.length : Int))) && reasonB hs (R.getD i.toNat []) z)
    rw [show decide (i ≤ (R.length : Int) - 1) = decide (i < (R.length : Int)) from decide_eq_decide.mpr (by omega)]
  | none => rfl
  | bool _ => rfl
  | str _ => rfl
  | list _ => rfl
  | tuple _ => rfl
  | dict _ => rfl
theorem andT_flat {ta tb : TT} {σ : L2.St} {H : Hp} {Q : Bool → Hp → Prop} {c b : Bool} (ha : ∀ R : Bool → Hp → Prop, R c H → ta σ H R) (hb : ∀ R : Bool → Hp → Prop, R b H → tb σ H R) (q : Q (c && b) H) : tAnd ta tb σ H Q := by
  refine ha _ ?_
  cases c with
  | false => exact iteF q
  | true => exact iteT (hb _ q)
section
variable {P : Program} {w : World} {K : PySem.W.Frag} {mg : Str → Option Value} {base : Heap} {f : Addr} {fd : FuncData}
abbrev nLT : List Str := ["_law_many", "_law_row", "_law_trail", "_law_level", "_law_ahead", "_law_k", "_law_at", "_law_entry", "_law_literal", "_law_reason"]
theorem scLT : FnScope nLT ["_law_many", "_law_row", "_law_trail"] (defScope sLIsTrail) := ⟨rfl, rfl, rfl, by decide +kernel, rfl, by decide +kernel, by decide +kernel⟩
theorem ok_lt (F : FnP K "_law_is_trail" sLIsTrail f fd) (T : Tj.Tx mg)
    {fWH fIX fIU : Addr} {dWH dIX dIU : FuncData}
    (GWH : FnOk P w K mg base CX0 1 fWH dWH ["_law_thing"] (spWhole K)) (gWH : mg "_law_is_whole" = some (.ref fWH)) (kWH : PySem.W.keepIn K (.ref fWH) = true) (bWH : Binds K dWH ["_law_thing"] [])
    (GIX : FnOk P w K mg base CX0 2 fIX dIX ["_law_thing", "_law_many"] (spIX K)) (gIX : mg "_law_is_index" = some (.ref fIX)) (kIX : PySem.W.keepIn K (.ref fIX) = true) (bIX : Binds K dIX ["_law_thing", "_law_many"] [])
    (GIU : FnOk P w K mg base CX0 1 fIU dIU ["_law_clause", "_law_literal", "_law_ahead"] (spIU K)) (gIU : mg "_law_is_unit" = some (.ref fIU)) (kIU : PySem.W.keepIn K (.ref fIU) = true) (bIU : Binds K dIU ["_law_clause", "_law_literal", "_law_ahead"] [])
    : FnOk P w K mg base CX0 3 f fd ["_law_many", "_law_row", "_law_trail"] (spLT K) := by
  refine F.ok scLT (fun vs H Q E h => ?_) (fun cdv A outer s H vs Q E hr h => ?_)
  · obtain ⟨m, r, v, us, R, d, rfl, _⟩ := h
    rfl
  · obtain ⟨m, r, v, us, R, d, rfl, hR, au, cz, hd, sh, l1, l2, q⟩ := h
    have ul := au.len
    refine ⟨_, PSs.nox (pss_cons (ps_if (PW.pt (pw_or (pt_not (pt_val (pe_callB call_isi (by rfl) T.isinstance (by decide +kernel) (pa_cons (pv 2) (pa_cons (pe_bltn (v := .ty "tuple") (by rfl) T.tuple (by decide +kernel) rfl) pa_nil))))) (pw_or (pt_cmpR (op_eqD hr.units) (pv 2) (pe_tup pa_nil) (nomark _)) (pw_or1 (pt_cmpR (op_neD hr.units) (pe_lc (own := [("_law_level", 3)]) (g := gName 3) rfl scLT.nd (pi_tup (pv 2)) (blkOk_by (N := nLT) (sc := defScope sLIsTrail) (by decide +kernel)) (fun _ _ _ _ _ => pg_name (i := 3) scLT.nd rfl (Or.inl rfl)) (fun _ _ _ _ _ => pts_one (pt_not (pt_val (pe_callB (r := rIsi K) (by exact call_isi) (by rfl) T.isinstance (by decide +kernel) (pa_cons (pv 3) (pa_cons (pe_bltn (v := .ty "tuple") (by rfl) T.tuple (by decide +kernel) rfl) pa_nil)))))) (fun _ _ _ _ _ => pe_int)) (pe_lst pa_nil) (nomark _))))))
        (pss_one (ps_ret pe_bl))
        pss_nil)
      (pss_cons (ps_set (i := 4) scLT.nd rfl (Or.inl rfl) (pe_lst pa_nil))
      (pss_cons (ps_for PassesOwn.never rfl (En.pi_enT (by rfl) T.enumerate (pa_cons (pv 2) pa_nil)) (pg_tup rfl (pgs_cons (pg_name (i := 5) scLT.nd rfl (Or.inl rfl)) (pgs_cons (pg_name (i := 3) scLT.nd rfl (Or.inl rfl)) pgs_nil)))
        (C8.pss_cut (ps_if (PW.pt (pw_and (pt_cmpR op_gt (pv 5) pe_int (nomark _)) (pw_and1 (pt_cmpR (op_eqD hr.units) (pv 3) (pe_tup pa_nil) (nomark _)))))
          (pss_one (ps_ret pe_bl))
          pss_nil)
        (pss_one (ps_for PassesOwn.never rfl (En.pi_enT (by rfl) T.enumerate (pa_cons (pv 3) pa_nil)) (pg_tup rfl (pgs_cons (pg_name (i := 6) scLT.nd rfl (Or.inl rfl)) (pgs_cons (pg_name (i := 7) scLT.nd rfl (Or.inl rfl)) pgs_nil)))
          (pss_cons (ps_if (PW.pt (pw_or (pt_not (pt_val (pe_callB call_isi (by rfl) T.isinstance (by decide +kernel) (pa_cons (pv 7) (pa_cons (pe_bltn (v := .ty "tuple") (by rfl) T.tuple (by decide +kernel) rfl) pa_nil))))) (pw_or (pt_cmpR op_ne (pe_callB call_len_seq (by rfl) T.len PySem.boot_len (pa_cons (pv 7) pa_nil)) pe_int (nomark _)) (pw_or1 (pt_not (pt_val (pe_call GWH (hr.mono (by decide)) (by rfl) gWH kWH bWH .nil pass0 (pa_cons (pe_ix (r := L2.rIxT K) (by exact ix_tup) (pv 7) pe_int (fun _ _ => rfl)) pa_nil))))))))
            (pss_one (ps_ret pe_bl))
            pss_nil)
          (pss_cons (ps_asg (pv 7) (pg_tup rfl (pgs_cons (pg_name (i := 8) scLT.nd rfl (Or.inl rfl)) (pgs_cons (pg_name (i := 9) scLT.nd rfl (Or.inl rfl)) pgs_nil))))
          (pss_cons (ps_if (PW.pt (pw_or (pt_not (pt_chain op_le op_le pe_int (pe_callB call_abs (by rfl) T.abs (by decide +kernel) (pa_cons (pv 8) pa_nil)) (pv 0))) (pw_or (pt_cmpR (r := rIn K false) (by exact op_in_seq) (pv 8) (pv 4) (by rfl)) (pw_or1 (pt_cmpR (r := rIn K false) (by exact op_in_seq) (pe_un un_neg (pv 8)) (pv 4) (by rfl))))))
            (pss_one (ps_ret pe_bl))
            pss_nil)
          (C8.pss_cut (ps_if (PW.pt (pw_and (pt_cmpR op_gt (pv 5) pe_int (nomark _)) (pw_and1 (pt_cmpR op_eq (pv 6) pe_int (nomark _)))))
            (pss_one (ps_if (pt_cmpR op_notN (pv 9) pe_non (nomark _))
              (pss_one (ps_ret pe_bl))
              pss_nil))
            (pss_one (ps_if (PW.pt (pw_or (pt_not (pt_val (pe_call GIX (hr.mono (by decide)) (by rfl) gIX kIX bIX .nil pass0 (pa_cons (pv 9) (pa_cons (pe_callB call_len_seq (by rfl) T.len PySem.boot_len (pa_cons (pv 1) pa_nil)) pa_nil))))) (pw_or1 (pt_not (pt_val (pe_call GIU (hr.mono (by decide)) (by rfl) gIU kIU bIU .nil pass0 (pa_cons (pe_ix ix_list (pv 1) (pv 9) (fun _ _ => rfl)) (pa_cons (pv 8) (pa_cons (pv 4) pa_nil)))))))))
              (pss_one (ps_ret pe_bl))
              pss_nil)))
          (pss_one (ps_expr (pe_bm PySem.F.plainAttrs_list PySem.F.slot_list_append PySem.F.type_list_append mt_append (pv 4) (pa_cons (pv 8) pa_nil))))))))))))
      (pss_one (ps_ret pe_bl))))), ?_⟩
    refine ⟨_, rfl, _, _, _, _, _, rfl, .ty _, ty_of hd, kit_tup hd, _, rfl, ?_⟩
    have ed0 : trailB m R d = (isTupD d && (!decide ((rowsD d).length = 0) && (trlB m R [] false (rowsD d)).isSome)) := rfl
    rw [ed0] at q
    cases tt : isTupD d with
    | false =>
      rw [tt] at q
      exact goT rfl (iteT (q _ (Same.refl _)))
    | true =>
      rw [tt] at q
      obtain ⟨a, xs, rfl, hxs, hds, ed⟩ := tup_of hd tt
      have dl := dps_len hds
      generalize rowsD d = ds at hds dl l1 l2 q ed
      subst ed
      refine goF rfl ⟨_, rfl, len0, fun u nu => ?_⟩
      have su := same_new (u := .tup []) nu
      refine ⟨_, _, dp_same su hd, .tup (SqT.of upd_same) .nil, sh, by decide +kernel, _, rfl, ?_⟩
      rw [eqv_unit]
      generalize upd H u _ = Hu at su ⊢
      by_cases l0 : ds.length = 0
      · rw [decide_eq_true l0] at q ⊢
        exact goT rfl (iteT (q _ su))
      rw [decide_eq_false l0] at q ⊢
      have q : ∀ H', Same H H' → Q (.bl (trlB m R [] false ds).isSome) H' := q
      refine goF rfl ⟨_, rfl, a, rfl, ⟨_, seqT_same su hxs⟩, fun L nL => ?_⟩
      refine lc_tup (K := K) (a := a) (xs := xs) (fun i H2 => Same Hu H2 ∧ H2 L = some (.lst (List.replicate ((ds.take i).filter fun e => !isTupD e).length (V.int 1)))) ⟨same_new nL, upd_same⟩ (fun i H2 _ ⟨s2, _⟩ => seqT_same (su.trans s2) hxs) ?_ ?_
      · rintro i y H2 hi ⟨s2, hL⟩
        obtain ⟨e, he, hye⟩ := dps_get hds hi
        have dy := dp_same (su.trans s2) hye
        refine ⟨rfl, ?_⟩
        refine ⟨_, rfl, _, _, _, _, _, rfl, .ty _, ty_of dy, kit_tup dy, _, rfl, ?_⟩
        rw [take_more he, List.filter_append, List.length_append]
        refine ite2 (fun c2 => ?_) (fun c2 => ?_)
        · refine ⟨_, hL, ?_, fun c o e => ?_, ?_⟩
          · rw [List.length_replicate]
            exact Nat.lt_of_le_of_lt (Nat.le_trans (List.length_filter_le _ _) (by rw [List.length_take]; omega : _ ≤ 1000)) (by decide)
          · rw [upd_ne (ne_of_none e nL)]
            exact s2 _ _ e
          · rw [upd_same, List.filter_cons_of_pos (p := fun e => !isTupD e) c2]
            show _ = some (HO.lst (List.replicate (_ + 1) (V.int 1)))
            rw [List.replicate_succ']
        · rw [List.filter_cons_of_neg (p := fun e => !isTupD e) c2]
          exact ⟨s2, hL⟩
      rintro H2 ⟨s2, hL⟩
      rw [dl, List.take_length] at hL
      refine ⟨len0, fun e0 n0 => ?_⟩
      have s3 := same_new (u := .lst []) n0
      refine ⟨_, _, .lst (SqL.of (s3 _ _ hL)) (dp_ones K _ _), .lst (SqL.of upd_same) .nil, sh_list1 _, by decide +kernel, _, rfl, ?_⟩
      rw [ones_nil]
      have s03 := su.trans (s2.trans s3)
      generalize upd H2 e0 _ = H3 at s03 ⊢
      by_cases bad : ((ds.filter fun e => !isTupD e).length) = 0
      case neg =>
        obtain ⟨e, he⟩ := List.exists_mem_of_length_pos (Nat.pos_of_ne_zero bad)
        obtain ⟨h1, h2⟩ := List.mem_filter.mp he
        rw [trl_bad ⟨e, h1, by cases t : isTupD e with | false => rfl | true => rw [t] at h2; cases h2⟩] at q
        exact goT (by rw [decide_eq_false bad]; rfl) (q _ s03)
      have tups : ∀ e ∈ ds, isTupD e = true := fun e he => by
        cases t : isTupD e with
        | true => rfl
        | false =>
          have := List.length_pos_of_mem (List.mem_filter (p := fun e => !isTupD e) |>.mpr ⟨he, by show (!isTupD e) = true; rw [t]; rfl⟩)
          omega
      refine goF (by rw [decide_eq_true bad]; rfl) ⟨len0, fun D nD => ?_⟩
      have s0 := s03.trans (same_new (u := .lst []) nD)
      have nDH : H D = none := by
        cases e : H D with
        | none => rfl
        | some o =>
          rw [s03 _ _ e] at nD
          cases nD
      have hD0 : upd H3 D (.lst []) D = some (.lst (([] : List Int).map V.int)) := upd_same
      generalize upd H3 D _ = H0 at s0 hD0 ⊢
      clear s03 su s2 s3 nu nL n0 hL nD
      refine ⟨_, rfl, a, _, rfl, seqT_same s0 hxs, En.for_enT (K := K) (a := a) (xs := xs)
        (fun k σ H' => ∃ (x3 x5 x6 x7 x8 x9 : Option V) (hs : List Int), σ = [some (.int (m : Nat)), some (.ref r), some (.ref a), x3, some (.ref D), x5, x6, x7, x8, x9] ∧ Same H H' ∧ H' D = some (.lst (hs.map V.int)) ∧ trlB m R [] false (ds.take k) = some hs ∧ hs.length ≤ 1000 * k)
        ⟨_, _, _, _, _, _, [], rfl, s0, hD0, by rw [List.take_zero]; rfl, Nat.zero_le _⟩ (fun k σ H' _ ⟨_, _, _, _, _, _, _, _, s, _⟩ => seqT_same s hxs) ?_ ?_⟩
      · rintro k y σ H1 T1 hy ⟨x3, x5, x6, x7, x8, x9, hs, rfl, s1, hD, et, hl⟩ nT
        obtain ⟨e, he, hye⟩ := dps_get hds hy
        have kl := (List.getElem?_eq_some_iff.mp he).1
        have em := List.mem_of_getElem? he
        have te := tups e em
        have she := sh_mem sh em
        have sT := same_new (u := .tup [.int (k : Nat), y]) nT
        have s2 := s1.trans sT
        have hD2 := sT _ _ hD
        have upk : (false || !decide ((ds.take k).length = 0)) = decide (0 < k) := by
          rw [List.length_take, Nat.min_eq_left (Nat.le_of_lt kl), Bool.false_or]
          by_cases c : k = 0
          · rw [decide_eq_true c, decide_eq_false (by omega)]
            rfl
          · rw [decide_eq_false c, decide_eq_true (by omega)]
            rfl
        have stp : ∀ bs, trlB m R [] false (ds.take k ++ bs) = trlB m R hs (decide (0 < k)) bs := fun bs => by
          rw [trl_split, et, upk]
          rfl
        have all : ds.take k ++ e :: ds.drop (k + 1) = ds := by
          have e1 := List.take_append_drop k ds
          obtain ⟨lt, e2⟩ := List.getElem?_eq_some_iff.mp he
          rw [List.drop_eq_getElem_cons lt, e2] at e1
          exact e1
        have stp1 := stp [e]
        rw [← take_more he] at stp1
        have stp2 := stp (e :: ds.drop (k + 1))
        rw [all] at stp2
        obtain ⟨b, vs, rfl, hb, hvs, ee⟩ := tup_of hye te
        have vl := dps_len hvs
        have el := l2 e em
        generalize rowsD e = es at hvs vl el ee
        subst ee
        have no : (0 < k ∧ es.length = 0) → trlB m R [] false ds = none := fun ⟨c1, c2⟩ => by
          rw [stp2]
          refine if_neg ?_
          show ¬ (true && !(decide (0 < k) && decide (es.length = 0))) = true
          rw [decide_eq_true c1, decide_eq_true c2]
          exact Bool.false_ne_true
        refine ⟨T1, _, rfl, SqT.of upd_same, rfl, _, _, rfl, _, _, rfl, rfl, ?_⟩
        generalize upd H1 T1 _ = H2 at s2 hD2 ⊢
        clear sT nT s1 hD
        refine ⟨fun σ H' => σ = [some (.int (m : Nat)), some (.ref r), some (.ref a), some (.ref b), some (.ref D), some (.int (k : Nat)), x6, x7, x8, x9] ∧ Same H H' ∧ H' D = some (.lst (hs.map V.int)) ∧ ¬ (0 < k ∧ es.length = 0), ?_, ?_⟩
        · refine ⟨_, rfl, _, _, rfl, rfl, _, rfl, ite2 (fun c1 => ?_) (fun c1 => ?_)⟩
          · have c1 := of_decide_eq_true c1
            have k0 : 0 < k := by omega
            refine ⟨_, rfl, len0, fun u nu => ?_⟩
            have su := same_new (u := .tup []) nu
            refine ⟨_, _, dp_same (s2.trans su) hye, .tup (SqT.of upd_same) .nil, she, by decide +kernel, _, rfl, ?_⟩
            rw [eqv_unit]
            refine ite2 (fun c2 => ?_) (fun c2 => ?_)
            · rw [no ⟨k0, of_decide_eq_true c2⟩] at q
              exact q _ (s2.trans su)
            · exact ⟨rfl, s2.trans su, su _ _ hD2, fun z => c2 (decide_eq_true z.2)⟩
          · exact iteF ⟨rfl, s2, hD2, fun z => c1 (decide_eq_true (by omega))⟩
        clear s2 hD2
        rintro σ H3 ⟨rfl, s3, hD3, nz⟩
        have cond : (true && !(decide (0 < k) && decide (es.length = 0))) = true := by
          by_cases c : 0 < k
          · rw [decide_eq_false (p := es.length = 0) fun z => nz ⟨c, z⟩, Bool.and_false]
            rfl
          · rw [decide_eq_false c]
            rfl
        have stp1 : trlB m R [] false (ds.take (k + 1)) = lvlB m R (decide (0 < k)) hs true es := by
          rw [stp1]
          show (if (true && !(decide (0 < k) && decide (es.length = 0))) = true then (lvlB m R (decide (0 < k)) hs true es).bind fun hs' => some hs' else none) = _
          rw [if_pos cond]
          cases lvlB m R (decide (0 < k)) hs true es <;> rfl
        have stp2 : lvlB m R (decide (0 < k)) hs true es = none → trlB m R [] false ds = none := fun z => by
          rw [stp2]
          show (if (true && !(decide (0 < k) && decide (es.length = 0))) = true then (lvlB m R (decide (0 < k)) hs true es).bind fun hs' => trlB m R hs' true (ds.drop (k + 1)) else none) = _
          rw [if_pos cond, z]
          rfl
        clear no stp all upk cond nz
        refine ⟨_, rfl, b, _, rfl, seqT_same s3 hb, En.for_enT (K := K) (a := b) (xs := vs)
          (fun i σ H' => ∃ (x6 x7 x8 x9 : Option V) (hs2 : List Int), σ = [some (.int (m : Nat)), some (.ref r), some (.ref a), some (.ref b), some (.ref D), some (.int (k : Nat)), x6, x7, x8, x9] ∧ Same H H' ∧ H' D = some (.lst (hs2.map V.int)) ∧ lvlB m R (decide (0 < k)) hs true (es.take i) = some hs2 ∧ hs2.length ≤ 1000 * k + i)
          ⟨_, _, _, _, hs, rfl, s3, hD3, by rw [List.take_zero]; rfl, by omega⟩ (fun i σ H' _ ⟨_, _, _, _, _, _, s, _⟩ => seqT_same s hb) ?_ ?_⟩
        · clear s3 hD3
          rintro i z σ H4 T2 hz ⟨x6, x7, x8, x9, hs2, rfl, s4, hD4, el4, hl4⟩ nT2
          obtain ⟨ee, hee, hze⟩ := dps_get hvs hz
          have il := (List.getElem?_eq_some_iff.mp hee).1
          have sT2 := same_new (u := .tup [.int (i : Nat), z]) nT2
          have upi : (true && decide ((es.take i).length = 0)) = decide (i = 0) := by
            rw [List.length_take, Nat.min_eq_left (Nat.le_of_lt il), Bool.true_and]
          have lst : ∀ bs, lvlB m R (decide (0 < k)) hs true (es.take i ++ bs) = lvlB m R (decide (0 < k)) hs2 (decide (i = 0)) bs := fun bs => by
            rw [lvl_split, el4, upi]
            rfl
          have lst1 := lst [ee]
          rw [← take_more hee] at lst1
          have lst2 := lst (ee :: es.drop (i + 1))
          have all : es.take i ++ ee :: es.drop (i + 1) = es := by
            have e1 := List.take_append_drop i es
            obtain ⟨lt, e2⟩ := List.getElem?_eq_some_iff.mp hee
            rw [List.drop_eq_getElem_cons lt, e2] at e1
            exact e1
          rw [all] at lst2
          have no : entB m R hs2 (decide (0 < k) && decide (i = 0)) ee = false → ∀ H', Same H H' → Q (.bl false) H' := fun ent => by
            have : lvlB m R (decide (0 < k)) hs true es = none := by
              rw [lst2]
              exact if_neg (by rw [ent]; exact Bool.false_ne_true)
            rw [stp2 this] at q
            exact q
          refine ⟨T2, _, rfl, SqT.of upd_same, rfl, _, _, rfl, _, _, rfl, rfl, ?_⟩
          have s5 := s4.trans sT2
          have hD5 := sT2 _ _ hD4
          generalize upd H4 T2 _ = H5 at s5 hD5 ⊢
          have hz5 := dp_same s5 hze
          clear lst lst2 all upi sT2 nT2 s4 hD4 stp2
          refine ⟨_, rfl, _, _, _, _, _, rfl, .ty _, ty_of hz5, kit_tup hz5, _, rfl, ?_⟩
          cases tz : isTupD ee with
          | false => exact goT rfl (iteT (no (ent_not tz) _ s5))
          | true =>
          obtain ⟨be, zs, rfl, hbe, hzs, eee⟩ := tup_of hz5 tz
          have zl := dps_len hzs
          refine goF rfl ⟨_, rfl, be, zs, rfl, .inr hbe, rfl, _, rfl, ?_⟩
          by_cases z2 : zs.length = 2
          case neg => exact goT (neT fun e => z2 (by have := V.int.inj e; omega)) (iteT (no (ent_len (by rw [← zl]; exact z2)) _ s5))
          obtain ⟨x, y, dx, dy, rfl, ed2, hx, hy⟩ := two_of hzs z2
          rw [ed2] at eee
          subst eee
          refine goF neF ⟨_, rfl, be, _, 0, _, rfl, rfl, hbe, at_of (j := 0) rfl rfl, x, dx, rfl, hx, _, rfl, ?_⟩
          cases wx : wholeD dx with
          | false =>
            have lt : litB m dx = false := by
              cases dx with
              | int _ => cases wx
              | tuple ds => rfl
              | none => rfl
              | bool _ => rfl
              | str _ => rfl
              | list _ => rfl
              | dict _ => rfl
            exact goT rfl (no (ent_lit lt) _ s5)
          | true =>
          obtain ⟨u, rfl⟩ : ∃ u, dx = .int u := by
            cases dx with
            | int u => exact ⟨u, rfl⟩
            | tuple ds => cases wx
            | none => cases wx
            | bool _ => cases wx
            | str _ => cases wx
            | list _ => cases wx
            | dict _ => cases wx
          cases hx
          have eqn : entB m R hs2 (decide (0 < k) && decide (i = 0)) (.tuple [.int u, dy]) = ((decide (1 ≤ (if u < 0 then -u else u)) && decide ((if u < 0 then -u else u) ≤ (m : Int))) && (!decide (u ∈ hs2) && (!decide (-u ∈ hs2) && if (decide (0 < k) && decide (i = 0)) then isNonD dy else whyB R hs2 u dy))) := by
            rw [← lit_abs]
            rfl
          rw [eqn] at no
          refine iteF ⟨_, rfl, be, _, rfl, hbe, rfl, _, _, rfl, _, _, rfl, rfl, ?_⟩
          refine ⟨_, rfl, _, rfl, _, _, rfl, rfl, _, rfl, ite2 (fun a1 => ?_) (fun a1 => ?_)⟩
          case refine_2 =>
            rw [Bool.eq_false_iff.mpr a1] at no
            exact ⟨_, rfl, goT rfl (iteT (no rfl _ s5))⟩
          refine ⟨_, rfl, _, _, rfl, rfl, _, rfl, ?_⟩
          cases a2 : decide ((if u < 0 then -u else u) ≤ (m : Int)) with
          | false =>
            rw [a1, a2] at no
            exact goT rfl (iteT (no rfl _ s5))
          | true =>
          rw [a1, a2] at no eqn
          refine goF rfl ⟨_, rfl, _, rfl, D, _, rfl, .inl (SqL.of hD5), rfl, all_flat _, _, rfl, ?_⟩
          have i1 : (if false = true then !inV (V.int u) (hs2.map V.int) else inV (V.int u) (hs2.map V.int)) = decide (u ∈ hs2) := in_ints u hs2
          rw [i1]
          cases m1 : decide (u ∈ hs2) with
          | true =>
            rw [m1] at no
            exact goT rfl (iteT (no rfl _ s5))
          | false =>
          rw [m1] at no eqn
          refine goF rfl ⟨_, rfl, _, rfl, _, rfl, D, _, rfl, .inl (SqL.of hD5), rfl, all_flat _, _, rfl, ?_⟩
          have i2 : (if false = true then !inV (V.int (-u)) (hs2.map V.int) else inV (V.int (-u)) (hs2.map V.int)) = decide (-u ∈ hs2) := in_ints (-u) hs2
          rw [i2]
          cases m2 : decide (-u ∈ hs2) with
          | true =>
            rw [m2] at no
            exact goT rfl (no rfl _ s5)
          | false =>
          rw [m2] at no eqn
          have no : (if (decide (0 < k) && decide (i = 0)) = true then isNonD dy else whyB R hs2 u dy) = false → ∀ H', Same H H' → Q (.bl false) H' := no
          refine goF rfl ⟨fun σ H' => σ = [some (.int (m : Nat)), some (.ref r), some (.ref a), some (.ref b), some (.ref D), some (.int (k : Nat)), some (.int (i : Nat)), some (.ref be), some (.int u), some y] ∧ Same H H' ∧ H' D = some (.lst (hs2.map V.int)) ∧ entB m R hs2 (decide (0 < k) && decide (i = 0)) (.tuple [.int u, dy]) = true, ?_, ?_⟩
          · refine andT_flat (c := decide ((0 : Int) < ((k : Nat) : Int))) (b := decide (V.int ((i : Nat) : Int) = V.int 0)) (fun R h => ⟨_, rfl, _, _, rfl, rfl, _, rfl, h⟩) (fun R h => ⟨_, rfl, rfl, _, rfl, h⟩) ?_
            have edec : (decide ((0 : Int) < ((k : Nat) : Int)) && decide (V.int ((i : Nat) : Int) = V.int 0)) = (decide (0 < k) && decide (i = 0)) := by
              rw [show decide ((0 : Int) < ((k : Nat) : Int)) = decide (0 < k) from decide_eq_decide.mpr (by omega), show decide (V.int ((i : Nat) : Int) = V.int 0) = decide (i = 0) from decide_eq_decide.mpr ⟨fun h => by have := V.int.inj h; omega, fun h => by rw [h]; rfl⟩]
            rw [edec]
            generalize (decide (0 < k) && decide (i = 0)) = dec at no eqn
            have eqn : entB m R hs2 dec (.tuple [.int u, dy]) = if dec = true then isNonD dy else whyB R hs2 u dy := eqn
            rw [eqn]
            cases dec with
            | true =>
              have no : isNonD dy = false → ∀ H', Same H H' → Q (.bl false) H' := no
              refine goT rfl ⟨_, rfl, rfl, _, rfl, ?_⟩
              have en : (!decide (y = V.non)) = !isNonD dy := by
                cases hy with
                | non => exact neF
                | bl b => exact neT fun h => by cases h
                | int i => exact neT fun h => by cases h
                | str x => exact neT fun h => by cases h
                | lst _ _ => exact neT fun h => by cases h
                | tup _ _ => exact neT fun h => by cases h
              rw [en]
              cases nn : isNonD dy with
              | false => exact goT rfl (no nn _ s5)
              | true => exact goF rfl ⟨rfl, s5, hD5, rfl⟩
            | false =>
              have no : whyB R hs2 u dy = false → ∀ H', Same H H' → Q (.bl false) H' := no
              rw [why_idx] at no
              refine goF rfl ⟨_, rfl, _, rfl, r, us, rfl, .inl (s5.seq hR), y, dy, (us.length : Int), rfl, hy, _, rfl, ?_⟩
              rw [ul]
              cases ix : idxB dy (R.length : Int) with
              | false =>
                rw [ix] at no
                exact goT rfl (iteT (no rfl _ s5))
              | true =>
              rw [ix] at no
              obtain ⟨t, rfl⟩ : ∃ t, dy = .int t := by
                cases dy with
                | int u => exact ⟨u, rfl⟩
                | tuple ds => cases ix
                | none => cases ix
                | bool _ => cases ix
                | str _ => cases ix
                | list _ => cases ix
                | dict _ => cases ix
              cases hy
              obtain ⟨c1, c2⟩ := (Bool.and_eq_true _ _).mp (show (decide (0 ≤ t) && decide (t < (R.length : Int))) = true from ix)
              have c1 := of_decide_eq_true c1
              have c2 := of_decide_eq_true c2
              obtain ⟨u1, hu1⟩ : ∃ u1, us[t.toNat]? = some u1 := ⟨_, List.getElem?_eq_getElem (by omega)⟩
              obtain ⟨cl, hcl, ac, rfl, hac⟩ := au.get hu1
              have ecl : R.getD t.toNat [] = cl := by
                rw [List.getD_eq_getElem?_getD, hcl]
                rfl
              have no : reasonB hs2 cl u = false → ∀ H', Same H H' → Q (.bl false) H' := by
                rw [← ecl]
                exact no
              have ew : whyB R hs2 u (.int t) = reasonB hs2 cl u := by
                rw [why_idx, ix, ← ecl]
                rfl
              rw [ew]
              refine goF rfl ⟨_, rfl, _, rfl, r, us, _, _, rfl, rfl, s5.seq hR, at_of (j := t.toNat) (by omega) hu1, _, rfl, _, rfl, ac, D, cl, hs2, u, rfl, seqT_same s5 hac, SqL.of hD5, cz cl (List.mem_of_getElem? hcl), fun H6 s6 => ⟨_, rfl, ?_⟩⟩
              cases rr : reasonB hs2 cl u with
              | false => exact goT rfl (no rr _ (s5.trans s6))
              | true => exact goF rfl ⟨rfl, s5.trans s6, s6 _ _ hD5, rfl⟩
          clear no eqn hbe hzs hy s5 hD5
          rintro σ H6 ⟨rfl, s6, hD6, ent⟩
          refine ⟨_, rfl, .inl ⟨rfl, _, SqL.of hD6⟩, _, rfl, D, _, _, rfl, rfl, hD6, ?_, ?_⟩
          · rw [List.length_map]
            exact Nat.lt_of_le_of_lt (by omega : hs2.length ≤ 1002000) (by decide)
          refine ⟨_, _, _, _, hs2 ++ [u], rfl, fun c o e => ?_, ?_, ?_, by rw [List.length_append]; show hs2.length + 1 ≤ _; omega⟩
          · rw [upd_ne (ne_of_none e nDH)]
            exact s6 _ _ e
          · rw [upd_same, List.map_append]
            rfl
          · rw [lst1]
            show (if entB m R hs2 (decide (0 < k) && decide (i = 0)) _ then _ else none) = _
            rw [ent]
            rfl
        · rintro σ H4 ⟨x6, x7, x8, x9, hs2, rfl, s4, hD4, el4, hl4⟩
          rw [vl, List.take_length] at el4
          exact ⟨_, _, _, _, _, _, hs2, rfl, s4, hD4, by rw [stp1, el4], by omega⟩
      · rintro σ H1 ⟨x3, x5, x6, x7, x8, x9, hs, rfl, s1, hD, et, hl⟩
        rw [dl, List.take_length] at et
        rw [et] at q
        exact q _ s1
end
end Tq
namespace Ack
open PySem PySem.Spec PyProof.Rows L2 PySem.W
/-! ## set(row) of a list of ints, as a set whose members can be sorted -/
abbrev noneYet (w : World) : Obj := { cls := .type "set", dict := none, data := .set #[] 0 (.fresh 0 0 (!w.params.followText "set-order")) }
section
variable {prog : Program} {w : World} {A : Around} {E : Value → Shared → Prop} {s : Shared}
/-- what is known once the row is in the set at b -/
def Made (w : World) (h0 : Heap) (ns : List Int) (b : Addr) (h1 : Heap) (n : Nat) : Prop := SetR w h1 b (fun j => decide (j ∈ ns)) n ∧ n ≤ ns.length ∧ ∀ a o, h0.get? a = some o → h1.get? a = some o
theorem filled {l : Addr} {xs : Array Value} {ns : List Int} {B : Around} (hh : B.handled = none) (hl : s.heap.IsList l xs) (hi : IntsAre xs.toList ns) (hb : ns.length + 1 < scanBound) {R : Result → Shared → Prop}
    (hR : ∀ h1 tk n, Made w s.heap ns s.heap.objs.size h1 n → R (.ok (.ret .none)) { s with heap := h1, toks := tk }) :
    codeAny (model prog w) B (.builtin "set.update.loop" ⟨[.ref s.heap.objs.size, .ref (s.heap.objs.size + 1)], []⟩) R { s with heap := (s.heap.push (noneYet w)).push { cls := .type "list_iterator", data := .fields #[.ref l, .int 0 0] } } := by
  have z1 : (s.heap.push (noneYet w)).objs.size = s.heap.objs.size + 1 := Heap.size_push ..
  have ln : xs.size = ns.length := by rw [← Array.length_toList]; exact IntsAre.length hi
  have lt : l < s.heap.objs.size := let ⟨_, eo, _⟩ := hl; Heap.lt_size eo
  have nl : l ≠ s.heap.objs.size + 1 := Nat.ne_of_lt (Nat.lt_succ_of_lt lt)
  have e0 : (s.heap.push (noneYet w)).get? s.heap.objs.size = some (noneYet w) := Heap.get?_push_size _ rfl
  have e1 : ((s.heap.push (noneYet w)).push { cls := .type "list_iterator", data := .fields #[.ref l, .int 0 0] }).get? s.heap.objs.size = some (noneYet w) := Heap.get?_push_of_some _ e0
  have e2 : ((s.heap.push (noneYet w)).push { cls := .type "list_iterator", data := .fields #[.ref l, .int 0 0] }).get? (s.heap.objs.size + 1) = some { cls := .type "list_iterator", data := .fields #[.ref l, .int 0 0] } := by
    rw [← z1]
    exact Heap.get?_push_size _ rfl
  refine set_update_ints ((Walks.list (prog := prog) (w := w) (A := B.in1) (by simpa using hh) (s.heap.objs.size + 1) l nl xs).toS) s.heap.objs.size (fun m => (List.mem_cons.mp m).elim (Nat.ne_of_lt (Nat.lt_succ_self _)) fun m => Nat.ne_of_gt lt (List.mem_singleton.mp m)) ns ln hb (fun i v hv => ?_) xs.size 0 _ rfl (Nat.zero_le _) ⟨⟨_, e2, rfl, rfl⟩, (hl.push _).push _⟩ ⟨0, Nat.le_refl 0, setR_new_at e1⟩ fun s' n hm hn hS => ?_
  · have hi' : i < ns.length := by rw [← ln]; exact (Array.getElem?_eq_some_iff.mp hv).1
    obtain ⟨t, e⟩ := IntsAre.int_at hi i v (by rw [Array.getElem?_toList]; exact hv)
    exact ⟨ns[i], t, List.getElem?_eq_getElem hi', by rw [e, List.getD_eq_getElem?_getD, List.getElem?_eq_getElem hi']; rfl⟩
  · obtain ⟨h1, g, d, tk, os⟩ := s'
    obtain rfl : g = s.gens := hm.gens
    obtain rfl : d = s.drawn := hm.drawn
    obtain rfl : os = s.os := hm.os
    refine hR h1 tk n ⟨hS, by omega, fun a o e => ?_⟩
    have la := Heap.lt_size e
    refine hm.heap a o ?_ (Heap.get?_push_of_some _ (Heap.get?_push_of_some _ e))
    exact fun m => (List.mem_cons.mp m).elim (Nat.ne_of_lt la) fun m => Nat.ne_of_lt (Nat.lt_succ_of_lt la) (List.mem_singleton.mp m)
/-- set(row) -/
theorem set_list {l : Addr} {xs : Array Value} {ns : List Int} {Q : Value → Shared → Prop} (hh : A.handled = none) (hl : s.heap.IsList l xs) (hi : IntsAre xs.toList ns) (hb : ns.length + 1 < scanBound)
    (h : ∀ h1 tk n, Made w s.heap ns s.heap.objs.size h1 n → Q (.ref s.heap.objs.size) { s with heap := h1, toks := tk }) : wpAny (model prog w) A (call (.type "set") [.ref l]) Q E s := by
  have ⟨m0, m1, m2⟩ := F.called_set.mro
  have g1 := F.called_set.made; have g2 := F.called_set.sub; have g3 := F.called_set.notType; have g4 := F.called_set.canCreate; have g5 := F.typeCall_set_1 (.ref l)
  apply wpAny_call; apply codeAny_of_tree
  change wpAny _ _ (callAny (.type "set") _) _ _ _
  apply wpAny_pure; refine ⟨Code.quiet_builtin _ (by decide +kernel), codeAny_builtin F.entry_type_call ?_⟩; rw [Around.under_plain (weight_type_call_type "set" [.ref l] []) rfl]
  repeat any_goals first | assumption | wp_step
  refine codeAny_mono (code_set_led1 (.ref l) (E := E) (Q₁ := fun v u => v = .ref s.heap.objs.size ∧ u = { s with heap := s.heap.push (noneYet w) }) ⟨rfl, rfl⟩) fun r u hr => ?_
  have e0 : (s.heap.push (noneYet w)).get? s.heap.objs.size = some (noneYet w) := Heap.get?_push_size _ rfl
  rcases r with _ | (_ | _ | _ | v)
  case ok.ret =>
    obtain ⟨rfl, rfl⟩ := hr
    have ty : Shared.TypeIs { s with heap := s.heap.push (noneYet w) } (.ref s.heap.objs.size) "set" := ⟨_, e0, rfl⟩
    have g6 := F.called_set.init.lookup; have g7 := F.called_set.init.bind (.ref s.heap.objs.size)
    repeat any_goals first | assumption | wp_step
    refine codeAny_mono (codeAny_call_builtin (R := wants (fun v u => v = .none ∧ ∃ h1 tk n, u = { s with heap := h1, toks := tk } ∧ Made w s.heap ns s.heap.objs.size h1 n) E) F.called_set.init.plain F.entry_set_init (check_set_init_1 ty ?_)) fun r2 u2 hr2 => ?_
    · obtain ⟨⟨oc, od, ob, os⟩, eo, c1, nn, c2⟩ := hl
      obtain rfl : oc = .type "list" := c1
      obtain rfl : ob = .seq xs nn := c2
      have eo' := Heap.get?_push_of_some (noneYet w) eo
      have li : (s.heap.push (noneYet w)).IsList l xs := ⟨_, eo', rfl, nn, rfl⟩
      have k1 := F.sub_list_set; have k2 := F.sub_list_frozenset
      have k3 : (Value.type "list" == Value.type "dict") = false := by decide
      unfold Builtin.«set.__init__» Builtin.Frozenset.updateFrom noKeywords; generalize pk : pyIter = PI
      wp_walk
      subst pk
      refine wpAny_pyIter_list li (wpAny_bind (wpAny_runValue ?_))
      have z1 : (s.heap.push (noneYet w)).objs.size = s.heap.objs.size + 1 := Heap.size_push ..
      rw [z1]
      exact filled (by simp [hh]) ⟨_, eo, rfl, nn, rfl⟩ hi hb fun h1 tk n md => wpAny_pure (wpAny_pure ⟨rfl, h1, tk, n, rfl, md⟩)
    · rcases r2 with _ | (_ | _ | _ | v2)
      case ok.ret =>
        obtain ⟨rfl, h1, tk, n, rfl, md⟩ := hr2
        repeat any_goals first | assumption | wp_step
        exact h h1 tk n md
      all_goals first | exact hr2 | exact hr2.elim
  all_goals first | exact hr | exact hr.elim
end
section
variable {X : Cx}
def rSetL (K : PySem.W.Frag) (w : World) : List V → Hp → VK → Prop := fun vs H Q => ∃ (a : Addr) (ns : List Int), vs = [V.ref a] ∧ SqL K H a (ns.map V.int) ∧ ns.length < 1000 ∧ ∀ (p : Addr) (n : Nat), n ≤ ns.length → H p = none → Q (.ref p) (upd H p (SetO w p (fun j => decide (j ∈ ns)) n))
theorem call_setL (hc : X.calm = true) : CallR X (.type "set") (rSetL X.K X.w) := by
  intro pins s σ H vs us Q I r h
  obtain ⟨a, ns, rfl, hs, hz, q⟩ := h
  obtain rfl := Vals.ref1 r
  obtain ⟨its, rv, pl, _⟩ := I.list hs
  refine set_list (ns := ns) (I.ok.hd hc) pl.isList (by simpa using rv.ints) (by unfold scanBound; omega) fun h1 tk n md => ?_
  obtain ⟨m1, m2, m3⟩ := md
  exact ⟨.ref _, upd H s.heap.objs.size (SetO X.w s.heap.objs.size (fun j => decide (j ∈ ns)) n), I.laid (t' := tk) m3 (Nat.le_refl _) (setO_new m1), rfl, q _ n m2 (I.hok.fresh (Nat.le_refl _))⟩
end
end Ack
namespace Tw
open PySem PySem.Spec PyProof.Rows L2 Pen Dat Ki Fi Gr No Lf Cm Cn Abk Ack Tr Ta Tb Tc Te Tj Tk Tq
/-! ## k27: the law's own resolving -/
structure SortedM (ns cl : List Int) : Prop where
  up : cl.Pairwise fun a b => ab1 a ≤ ab1 b
  nd : cl.Nodup
  mem : ∀ z, z ∈ cl ↔ z ∈ ns
theorem byAbs_up (ms : List Int) : (byAbs ms).Pairwise fun a b => ab1 a ≤ ab1 b := by
  have := List.pairwise_mergeSort (le := fun a b => decide (ab1 a ≤ ab1 b)) (fun a b c x y => decide_eq_true (Int.le_trans (of_decide_eq_true x) (of_decide_eq_true y))) (fun a b => by
    rcases Int.le_total (ab1 a) (ab1 b) with x | x
    · simp [x]
    · simp [x]) ms
  exact this.imp fun {a b} x => of_decide_eq_true x
theorem byAbs_ok {ns ms : List Int} (h : ms.Pairwise (· < ·)) (hm : ∀ z, z ∈ ms ↔ z ∈ ns) : SortedM ns (byAbs ms) := by
  have pm := List.mergeSort_perm ms fun a b => decide (ab1 a ≤ ab1 b)
  exact ⟨byAbs_up ms, pm.nodup_iff.mpr (h.imp fun {a b} l e => by omega), fun z => (pm.mem_iff).trans (hm z)⟩
theorem by_perm (hs : List Int) : (byAbs hs).Perm hs := List.mergeSort_perm _ _
theorem by_mem {hs : List Int} {y : Int} : y ∈ byAbs hs ↔ y ∈ hs := (by_perm hs).mem_iff
theorem by_tok {m : Nat} {hs : List Int} (h : TOk m hs) : TOk m (byAbs hs) := by
  refine ⟨?_, fun z hz => h.ok z (by_mem.mp hz)⟩
  exact ((by_perm hs).map Int.natAbs).nodup_iff.mpr h.nd
/-- two rows of unlike variables, both by size, with the same numbers, are the same -/
theorem same_sorted : ∀ {a b : List Int}, a.Pairwise (fun x y => x.natAbs < y.natAbs) → b.Pairwise (fun x y => x.natAbs < y.natAbs) → (∀ z, z ∈ a ↔ z ∈ b) → a = b
  | [], [], _, _, _ => rfl
  | [], y :: b, _, _, h => by cases (h y).mpr List.mem_cons_self
  | x :: a, [], _, _, h => by cases (h x).mp List.mem_cons_self
  | x :: a, y :: b, ha, hb, h => by
    obtain ⟨a1, a2⟩ := List.pairwise_cons.mp ha
    obtain ⟨b1, b2⟩ := List.pairwise_cons.mp hb
    have e : x = y := by
      rcases List.mem_cons.mp ((h x).mp List.mem_cons_self) with g | g
      · exact g
      · rcases List.mem_cons.mp ((h y).mpr List.mem_cons_self) with g2 | g2
        · exact g2.symm
        · have := b1 x g
          have := a1 y g2
          omega
    subst e
    rw [same_sorted a2 b2 fun z => ?_]
    constructor
    · intro hz
      rcases List.mem_cons.mp ((h z).mp (List.mem_cons_of_mem _ hz)) with g | g
      · have := a1 z hz
        rw [g] at this
        omega
      · exact g
    · intro hz
      rcases List.mem_cons.mp ((h z).mpr (List.mem_cons_of_mem _ hz)) with g | g
      · have := b1 z hz
        rw [g] at this
        omega
      · exact g
theorem sorted_strict {m : Nat} {cl : List Int} (h : cl.Pairwise fun a b => ab1 a ≤ ab1 b) (t : TOk m cl) : cl.Pairwise fun x y => x.natAbs < y.natAbs := by
  refine (h.and (List.pairwise_map.mp t.nd)).imp fun {a b} ⟨h1, h2⟩ => ?_
  unfold ab1 at h1
  have h2 : a.natAbs ≠ b.natAbs := h2
  split at h1 <;> split at h1 <;> omega
/-- no opposites -/
theorem no_op {m : Nat} {T : List Int} (h : TOk m T) {x : Int} (hx : x ∈ T) : ¬ -x ∈ T := fun g => by
  have nd := h.nd
  have x0 := (h.ok x hx).1
  have : ∀ {l : List Int}, (l.map Int.natAbs).Nodup → x ∈ l → -x ∈ l → False := by
    intro l
    induction l with
    | nil => intro _ h _; cases h
    | cons a l ih =>
      intro n h1 h2
      rw [List.map_cons, List.nodup_cons] at n
      rcases List.mem_cons.mp h1 with e | e <;> rcases List.mem_cons.mp h2 with f | f
      · omega
      · exact n.1 (List.mem_map.mpr ⟨-x, f, by rw [Int.natAbs_neg, e]⟩)
      · exact n.1 (List.mem_map.mpr ⟨x, e, by rw [← f, Int.natAbs_neg]⟩)
      · exact ih n.2 e f
  exact this nd hx g
theorem nd_abs {l : List Int} (nd : l.Nodup) (h : ∀ x ∈ l, ¬ -x ∈ l) : (l.map Int.natAbs).Nodup := by
  refine List.pairwise_map.mpr (nd.imp_of_mem fun {a b} ha hb ne e => ?_)
  rcases Int.natAbs_eq_natAbs_iff.mp e with g | g
  · exact ne g
  · exact h b hb (by rw [← g]; exact ha)
theorem tok_done {m : Nat} {hs cl hs' : List Int} {x : Int} (a : TOk m hs) (b : TOk m cl) (g : Good hs cl x) (d : Done hs cl x hs') : TOk m hs' := by
  refine ⟨nd_abs d.nd fun y hy hn => ?_, fun z hz => ?_⟩
  · rcases (d.mem y).mp hy with p | p <;> rcases (d.mem _).mp hn with r | r
    · exact no_op a p.1 r.1
    · exact g.ok1 _ r.1 r.2 (by rw [Int.neg_neg]; exact p.1)
    · exact g.ok1 _ p.1 p.2 r.1
    · exact g.ok2 _ p.1 p.2 _ r.1 r.2 rfl
  · rcases (d.mem z).mp hz with p | p
    · exact a.ok z p.1
    · exact b.ok z p.1
theorem steps_tok {m : Nat} {R : CRow} {c0 : List Int} (t0 : TOk m c0) (tR : ∀ cl ∈ R, TOk m cl) {ps : List (Nat × Nat)} {hs : List Int} (h : Steps R c0 ps hs) : TOk m hs := by
  induction h with
  | nil => exact t0
  | snoc ps hs cl hs' x i st hc g d ih => exact tok_done ih (tR cl (List.mem_of_getElem? hc)) g d
/-- the steps, from the first one on -/
inductive Chain (R : CRow) : List Int → List (Nat × Nat) → List Int → Prop
  | nil (a : List Int) : Chain R a [] a
  | cons (a cl a' b : List Int) (x : Int) (i : Nat) (ps : List (Nat × Nat)) : R[i]? = some cl → Good a cl x → Done a cl x a' → Chain R a' ps b → Chain R a ((x.natAbs, i) :: ps) b
theorem Chain.snoc {R : CRow} {a b cl b' : List Int} {x : Int} {i : Nat} {ps : List (Nat × Nat)} (h : Chain R a ps b) (hc : R[i]? = some cl) (g : Good b cl x) (d : Done b cl x b') : Chain R a (ps ++ [(x.natAbs, i)]) b' := by
  induction h with
  | nil a => exact .cons _ _ _ _ _ _ _ hc g d (.nil _)
  | cons a cl a' b x i ps h1 h2 h3 _ ih => exact .cons _ _ _ _ _ _ _ h1 h2 h3 (ih g d)
theorem steps_chain {R : CRow} {c0 hs : List Int} {ps : List (Nat × Nat)} (h : Steps R c0 ps hs) : Chain R c0 ps hs := by
  induction h with
  | nil => exact .nil _
  | snoc ps hs cl hs' x i _ hc g d ih => exact ih.snoc hc g d
theorem steps_nil {R : CRow} {c0 hs : List Int} {ps : List (Nat × Nat)} (h : Steps R c0 ps hs) (e : ps = []) : hs = c0 := by
  cases h with
  | nil => rfl
  | snoc ps hs cl hs' x i => exact absurd e (by simp)
theorem Good.same {a a' cl : List Int} {x : Int} (g : Good a cl x) (h : ∀ z, z ∈ a' ↔ z ∈ a) : Good a' cl x :=
  ⟨g.x0, (h _).mpr g.nx, fun m => g.xn ((h _).mp m), g.xc, fun y hy n m => g.ok1 y hy n ((h _).mp m), g.ok2, g.ok3⟩
/-- the steps as data -/
def psD (p : Nat × Nat) : PyData := .tuple [.int (p.1 : Nat), .int (p.2 : Nat)]
theorem ps_dp {K : PySem.W.Frag} {H : Hp} : ∀ {vs : List V} {ps : List (Nat × Nat)}, All2 (StAt K H) vs ps → DpAll K H vs (ps.map psD)
  | _, _, .nil => .nil
  | _, _, .cons ⟨_, e, h⟩ t => by
    rw [e]
    exact .cons (.tup h (.cons (.int _) (.cons (.int _) .nil))) (ps_dp t)
theorem lay_ps : ∀ ps : List (Nat × Nat), PyData.canLayAll0 (ps.map psD) = true ∧ PyData.depthAll (ps.map psD) ≤ 1
  | [] => ⟨rfl, Nat.zero_le _⟩
  | p :: ps => by
    obtain ⟨a, b⟩ := lay_ps ps
    refine ⟨?_, ?_⟩
    · show ((psD p).canLay0 && PyData.canLayAll0 (ps.map psD)) = true
      rw [a]
      rfl
    · show max (psD p).depth (PyData.depthAll (ps.map psD)) ≤ 1
      exact Nat.max_le.mpr ⟨Nat.le_refl 1, b⟩
theorem sh_ps (ps : List (Nat × Nat)) : SeqAt.shaped (.tuple (ps.map psD)) = true := by
  obtain ⟨a, b⟩ := lay_ps ps
  show (PyData.canLayAll0 (ps.map psD) && decide (PyData.depthAll (ps.map psD) + 1 ≤ 64)) = true
  rw [a, decide_eq_true (by omega)]
  rfl
def spSorted (K : PySem.W.Frag) : Sp := fun vs H Q _ => ∃ (a : Addr) (ns : List Int), vs = [.ref a] ∧ SqL K H a (ns.map V.int) ∧ ns.length < 60 ∧ ∀ (H' : Hp) (t : Addr) (cl : List Int), Same H H' → H' t = some (.tup (cl.map V.int)) → SortedM ns cl → Q (.ref t) H'
def spRE (K : PySem.W.Frag) : Sp := fun vs H Q _ => ∃ (m : Nat) (a b : Addr) (as cl : List Int) (x : Int), vs = [.ref a, .ref b, .int (x.natAbs : Nat)] ∧ SqT K H a (as.map V.int) ∧ SqT K H b (cl.map V.int) ∧ m ≤ 10 ∧ TOk m as ∧ TOk m cl ∧ Good as cl x ∧
  ∀ (H' : Hp) (t : Addr) (cl' : List Int), Same H H' → H' t = some (.tup (cl'.map V.int)) → cl'.Pairwise (fun a b => ab1 a ≤ ab1 b) → Done as cl x cl' → Q (.ref t) H'
def spLO (K : PySem.W.Frag) : Sp := fun vs H Q _ => ∃ (m n : Nat) (r y : Addr) (us : List V) (R : CRow) (c0 hs : List Int) (ps : List (Nat × Nat)), vs = [.ref r, .ref r, .ref y] ∧ SqL K H r us ∧ All2 (ClAt K H) us R ∧ m ≤ 10 ∧ (∀ cl ∈ R, TOk m cl) ∧ R[n]? = some c0 ∧ Steps R c0 ps hs ∧ LnAt K H y n ps ∧
  ∀ (H' : Hp) (t : Addr) (fc : List Int), Same H H' → SqT K H' t (fc.map V.int) → (∀ z, z ∈ fc ↔ z ∈ hs) → (ps = [] → fc = c0) → (ps ≠ [] → fc.Pairwise fun a b => ab1 a ≤ ab1 b) → TOk m fc → Q (.ref t) H'
section
variable {P : Program} {w : World} {K : PySem.W.Frag} {mg : Str → Option Value} {base : Heap} {f : Addr} {fd : FuncData}
abbrev nRE : List Str := ["_law_one", "_law_two", "_law_variable", "_law_number", "_law_other", "_law_left"]
theorem scRE : FnScope nRE ["_law_one", "_law_two", "_law_variable"] (defScope sLResolved) := ⟨rfl, rfl, rfl, by decide +kernel, rfl, by decide +kernel, by decide +kernel⟩
theorem scSorted : FnScope ["_law_numbers"] ["_law_numbers"] (defScope sLSorted) := ⟨rfl, rfl, rfl, by decide +kernel, rfl, by decide +kernel, by decide +kernel⟩
theorem ok_sorted (F : FnP K "_law_sorted" sLSorted f fd) (T : Tj.Tx mg) : FnOk P w K mg base CX0 1 f fd ["_law_numbers"] (spSorted K) := by
  refine F.ok scSorted (fun vs H Q E h => ?_) (fun cdv A outer s H vs Q E hr h => ?_)
  · obtain ⟨a, ns, rfl, _⟩ := h
    rfl
  · obtain ⟨a, ns, rfl, hs, hz, q⟩ := h
    refine ⟨_, PSs.nox (pss_one (ps_ret (pe_callTy (T := "tuple") (r := rTupOf K) (by exact call_tuple_of) (by rfl) T.tuple (by decide +kernel) (pa_cons (pe_sortAbs hr (by rfl) T.sorted (by decide +kernel) (pe_callB (cr_sortedSet rfl) (by rfl) T.sorted (by decide +kernel) (pa_cons (pe_callTy (call_setL rfl) (by rfl) T.set (by decide +kernel) (pa_cons (pv 0) pa_nil)) pa_nil)) (by rfl) T.abs (by decide +kernel)) pa_nil)))), ?_⟩
    refine ⟨_, rfl, a, ns, rfl, hs, by omega, fun u n hn nu => ?_⟩
    have s1 := same_new (u := SetO w u (fun j => decide (j ∈ ns)) n) nu
    refine ⟨u, _, n, rfl, upd_same, by omega, fun ms p2 up mem lm np => ?_⟩
    have s2 := same_new (u := .lst (ms.map V.int)) np
    refine ⟨p2, ms, rfl, SqL.of upd_same, fun p3 np3 => ?_⟩
    have s3 := same_new (u := .lst ((byAbs ms).map V.int)) np3
    refine ⟨p3, _, rfl, .inl ⟨SqL.of upd_same, fun t nt => ?_⟩⟩
    exact q _ t _ (s1.trans (s2.trans (s3.trans (same_new nt)))) upd_same (byAbs_ok up fun z => (mem z).trans decide_eq_true_iff)
theorem ok_re (F : FnP K "_law_resolved" sLResolved f fd) (T : Tj.Tx mg)
    {fSO : Addr} {dSO : FuncData}
    (GSO : FnOk P w K mg base CX0 1 fSO dSO ["_law_numbers"] (spSorted K)) (gSO : mg "_law_sorted" = some (.ref fSO)) (kSO : PySem.W.keepIn K (.ref fSO) = true) (bSO : Binds K dSO ["_law_numbers"] [])
    : FnOk P w K mg base CX0 2 f fd ["_law_one", "_law_two", "_law_variable"] (spRE K) := by
  refine F.ok scRE (fun vs H Q E h => ?_) (fun cdv A outer s H vs Q E hr h => ?_)
  · obtain ⟨m, a, b, as, cl, x, rfl, _⟩ := h
    rfl
  · obtain ⟨m, a, b, as, cl, x, rfl, ha, hb, m10, ta, tc, gd, q⟩ := h
    refine ⟨_, PSs.nox (pss_cons (ps_for PassesOwn.never rfl (pi_list (pe_lst (pa_cons (pv 2) (pa_cons (pe_un un_neg (pv 2)) pa_nil)))) (pg_name (i := 3) scRE.nd rfl (Or.inr rfl))
        (pss_one (ps_if (PW.pt (pw_and (pt_cmpR (r := rIn K false) (by exact op_in_seq) (pv 3) (pv 0) (by rfl)) (pw_and1 (pt_cmpR (r := rIn K false) (by exact op_in_seq) (pe_un un_neg (pv 3)) (pv 1) (by rfl)))))
          (pss_cons (ps_set (i := 5) scRE.nd rfl (Or.inr rfl) (pe_op op_cat (pe_lc (own := [("_law_other", 4)]) (g := gName 4) rfl scRE.nd (pi_tup (pv 0)) (blkOk_by (N := nRE) (sc := defScope sLResolved) (by decide +kernel)) (fun _ _ _ _ _ => pg_name (i := 4) scRE.nd rfl (Or.inl rfl)) (fun _ _ _ _ _ => pts_one (pt_cmpR op_ne (pv 4) (pv 3) (nomark _))) (fun _ _ _ _ _ => (pv 4))) (pe_lc (own := [("_law_other", 4)]) (g := gName 4) rfl scRE.nd (pi_tup (pv 1)) (blkOk_by (N := nRE) (sc := defScope sLResolved) (by decide +kernel)) (fun _ _ _ _ _ => pg_name (i := 4) scRE.nd rfl (Or.inl rfl)) (fun _ _ _ _ _ => pts_one (pt_cmpR op_ne (pv 4) (pe_un un_neg (pv 3)) (nomark _))) (fun _ _ _ _ _ => (pv 4)))))
          (pss_one (ps_ret (pe_ifExp (pt_cmpR (op_neD hr.units) (pe_lc (own := [("_law_other", 4)]) (g := gName 4) rfl scRE.nd (pi_list (pv 5)) (blkOk_by (N := nRE) (sc := defScope sLResolved) (by decide +kernel)) (fun _ _ _ _ _ => pg_name (i := 4) scRE.nd rfl (Or.inl rfl)) (fun _ _ _ _ _ => pts_one (pt_cmpR (r := rIn K false) (by exact op_in_seq) (pe_un un_neg (pv 4)) (pv 5) (by rfl))) (fun _ _ _ _ _ => pe_int)) (pe_lst pa_nil) (nomark _)) pe_non (pe_call GSO (hr.mono (by decide)) (by rfl) gSO kSO bSO .nil pass0 (pa_cons (pv 5) pa_nil))))))
          pss_nil)))
      (pss_one (ps_ret pe_non))), ?_⟩
    have al := ta.len
    have bl := tc.len
    refine ⟨_, rfl, _, rfl, _, rfl, len2, fun L nL => ?_⟩
    have sL := same_new (u := .lst [V.int (x.natAbs : Nat), V.int (-(x.natAbs : Nat))]) nL
    have hL := upd_same (H := H) (a := L) (o := .lst [V.int (x.natAbs : Nat), V.int (-(x.natAbs : Nat))])
    generalize upd H L _ = H0 at sL hL ⊢
    refine ⟨L, rfl, ⟨_, SqL.of hL⟩, for_list (K := K) (a := L) (xs := [V.int (x.natAbs : Nat), V.int (-(x.natAbs : Nat))])
      (fun k σ H' => ∃ (x3 x5 : Option V), σ = [some (.ref a), some (.ref b), some (.int (x.natAbs : Nat)), x3, none, x5] ∧ Same H0 H' ∧ (k = 0 ∨ (k = 1 ∧ 0 < x)))
      ⟨_, _, rfl, Same.refl _, .inl rfl⟩ (fun k σ H' _ ⟨_, _, _, s, _⟩ => SqL.of (s _ _ hL)) ?_ ?_⟩
    · rintro k y σ H1 hy ⟨x3, x5, rfl, s1, hk⟩
      have s01 := sL.trans s1
      have x0 := gd.x0
      obtain ⟨u, rfl, hu⟩ : ∃ u : Int, y = .int u ∧ (u = -x ∨ (u = x ∧ k = 0 ∧ 0 < x)) := by
        match k, hy, hk with
        | 0, hy, _ =>
          refine ⟨_, (Option.some.inj hy).symm, ?_⟩
          omega
        | 1, hy, hk =>
          refine ⟨_, (Option.some.inj hy).symm, ?_⟩
          omega
        | k + 2, hy, _ => cases hy
      have i1 : ∀ u, (if false = true then !inV (V.int u) (as.map V.int) else inV (V.int u) (as.map V.int)) = decide (u ∈ as) := fun u => in_ints u as
      have i2 : ∀ u, (if false = true then !inV (V.int u) (cl.map V.int) else inV (V.int u) (cl.map V.int)) = decide (u ∈ cl) := fun u => in_ints u cl
      refine ⟨_, rfl, _, rfl, a, _, rfl, .inr (seqT_same s01 ha), rfl, all_flat _, _, rfl, ?_⟩
      rw [i1]
      rcases hu with rfl | ⟨rfl, k0, xp⟩
      case inr =>
        refine goF (decide_eq_false gd.xn) (iteF ⟨_, _, rfl, s1, .inr ⟨by omega, xp⟩⟩)
      refine goT (decide_eq_true gd.nx) ⟨_, rfl, _, rfl, _, rfl, b, _, rfl, .inr (seqT_same s01 hb), rfl, all_flat _, _, rfl, ?_⟩
      rw [i2]
      refine goT (decide_eq_true (by rw [Int.neg_neg]; exact gd.xc)) ⟨_, rfl, a, rfl, ⟨_, seqT_same s01 ha⟩, fun L1 nL1 => ?_⟩
      refine lc_tup (K := K) (a := a) (xs := as.map V.int) (fun i H2 => Same H1 H2 ∧ H2 L1 = some (.lst (((as.take i).filter fun o => !decide (o = -x)).map V.int))) ⟨same_new nL1, upd_same⟩ (fun i H2 _ ⟨s2, _⟩ => seqT_same (s01.trans s2) ha) ?_ ?_
      · rintro i y H2 hi ⟨s2, hL1⟩
        rw [List.getElem?_map] at hi
        obtain ⟨o, ho, rfl⟩ : ∃ o, as[i]? = some o ∧ y = .int o := by
          cases e : as[i]? with
          | none => rw [e] at hi; cases hi
          | some o => rw [e] at hi; exact ⟨o, rfl, (Option.some.inj hi).symm⟩
        have eo : (!decide (V.int o = V.int (-x))) = !decide (o = -x) := congrArg not (decide_eq_decide.mpr ⟨V.int.inj, fun h => congrArg V.int h⟩)
        refine ⟨rfl, ?_⟩
        refine ⟨_, rfl, _, rfl, rfl, _, rfl, ?_⟩
        rw [eo, take_more ho, List.filter_append, List.map_append]
        refine ite2 (fun c1 => ?_) (fun c1 => ?_)
        · refine ⟨_, rfl, _, hL1, ?_, fun c o e => ?_, ?_⟩
          · rw [List.length_map]
            exact Nat.lt_of_le_of_lt (Nat.le_trans (List.length_filter_le _ _) (by rw [List.length_take]; omega : _ ≤ 1000)) (by decide)
          · rw [upd_ne (ne_of_none e nL1)]
            exact s2 _ _ e
          · rw [upd_same, List.filter_cons_of_pos (p := fun o => !decide (o = -x)) c1]
            rfl
        · rw [List.filter_cons_of_neg (p := fun o => !decide (o = -x)) c1]
          refine ⟨s2, ?_⟩
          rw [hL1]
          exact congrArg (fun x => some (HO.lst x)) (List.append_nil _).symm
      rintro H2 ⟨s2, hL1⟩
      rw [List.length_map, List.take_length] at hL1
      have s02 := s01.trans s2
      refine ⟨_, rfl, b, rfl, ⟨_, seqT_same s02 hb⟩, fun L2 nL2 => ?_⟩
      refine lc_tup (K := K) (a := b) (xs := cl.map V.int) (fun i H3 => Same H2 H3 ∧ H3 L2 = some (.lst (((cl.take i).filter fun o => !decide (o = - -x)).map V.int))) ⟨same_new nL2, upd_same⟩ (fun i H3 _ ⟨s3, _⟩ => seqT_same (s02.trans s3) hb) ?_ ?_
      · rintro i y H3 hi ⟨s3, hL2⟩
        rw [List.getElem?_map] at hi
        obtain ⟨o, ho, rfl⟩ : ∃ o, cl[i]? = some o ∧ y = .int o := by
          cases e : cl[i]? with
          | none => rw [e] at hi; cases hi
          | some o => rw [e] at hi; exact ⟨o, rfl, (Option.some.inj hi).symm⟩
        have eo : (!decide (V.int o = V.int (- -x))) = !decide (o = - -x) := congrArg not (decide_eq_decide.mpr ⟨V.int.inj, fun h => congrArg V.int h⟩)
        refine ⟨rfl, ?_⟩
        refine ⟨_, rfl, _, rfl, _, rfl, rfl, _, rfl, ?_⟩
        rw [eo, take_more ho, List.filter_append, List.map_append]
        refine ite2 (fun c1 => ?_) (fun c1 => ?_)
        · refine ⟨_, rfl, _, hL2, ?_, fun c o e => ?_, ?_⟩
          · rw [List.length_map]
            exact Nat.lt_of_le_of_lt (Nat.le_trans (List.length_filter_le _ _) (by rw [List.length_take]; omega : _ ≤ 1000)) (by decide)
          · rw [upd_ne (ne_of_none e nL2)]
            exact s3 _ _ e
          · rw [upd_same, List.filter_cons_of_pos (p := fun o => !decide (o = - -x)) c1]
            rfl
        · rw [List.filter_cons_of_neg (p := fun o => !decide (o = - -x)) c1]
          refine ⟨s3, ?_⟩
          rw [hL2]
          exact congrArg (fun x => some (HO.lst x)) (List.append_nil _).symm
      rintro H3 ⟨s3, hL2⟩
      rw [List.length_map, List.take_length, Int.neg_neg] at hL2
      have f1 := List.length_filter_le (fun o => !decide (o = -x)) as
      have f2 := List.length_filter_le (fun o => !decide (o = x)) cl
      refine ⟨L1, L2, _, _, rfl, rfl, s3 _ _ hL1, hL2, Nat.le_trans (by rw [List.length_map, List.length_map]; omega : _ ≤ 1000) (by decide), fun L3 nL3 => ?_⟩
      have s4 := same_new (u := .lst ((as.filter fun o => !decide (o = -x)).map V.int ++ (cl.filter fun o => !decide (o = x)).map V.int)) nL3
      have hL3 : upd H3 L3 (.lst ((as.filter fun o => !decide (o = -x)).map V.int ++ (cl.filter fun o => !decide (o = x)).map V.int)) L3 = some (.lst (((as.filter fun o => !decide (o = -x)) ++ (cl.filter fun o => !decide (o = x))).map V.int)) := by
        rw [upd_same, List.map_append]
      have s04 := s02.trans (s3.trans s4)
      generalize upd H3 L3 _ = H4 at s04 hL3 ⊢
      have mem : ∀ z, z ∈ (as.filter fun o => !decide (o = -x)) ++ (cl.filter fun o => !decide (o = x)) ↔ (z ∈ as ∧ z ≠ -x) ∨ (z ∈ cl ∧ z ≠ x) := fun z => by
        simp only [List.mem_append, List.mem_filter, Bool.not_eq_true', decide_eq_false_iff_not, ne_eq]
      have ll : ((as.filter fun o => !decide (o = -x)) ++ (cl.filter fun o => !decide (o = x))).length ≤ 20 := by
        rw [List.length_append]
        omega
      generalize (as.filter fun o => !decide (o = -x)) ++ (cl.filter fun o => !decide (o = x)) = left at hL3 mem ll
      clear hL1 hL2 nL1 nL2 nL3 f1 f2 s4 s3 s2 s1
      refine ⟨_, rfl, L3, rfl, ⟨_, SqL.of hL3⟩, fun L4 nL4 => ?_⟩
      refine lc_list (K := K) (a := L3) (xs := left.map V.int) (fun i H5 => Same H4 H5 ∧ H5 L4 = some (.lst [])) ⟨same_new nL4, upd_same⟩ (fun i H5 _ ⟨s5, _⟩ => SqL.of (s5 _ _ hL3)) ?_ ?_
      · rintro i y H5 hi ⟨s5, hL4⟩
        rw [List.getElem?_map] at hi
        obtain ⟨o, ho, rfl⟩ : ∃ o, left[i]? = some o ∧ y = .int o := by
          cases e : left[i]? with
          | none => rw [e] at hi; cases hi
          | some o => rw [e] at hi; exact ⟨o, rfl, (Option.some.inj hi).symm⟩
        refine ⟨rfl, ?_⟩
        refine ⟨_, rfl, _, rfl, _, rfl, L3, _, rfl, .inl (SqL.of (s5 _ _ hL3)), rfl, all_flat _, _, rfl, ?_⟩
        have i3 : (if false = true then !inV (V.int (-o)) (left.map V.int) else inV (V.int (-o)) (left.map V.int)) = decide (-o ∈ left) := in_ints (-o) left
        rw [i3]
        refine goF (decide_eq_false fun hn => ?_) ⟨s5, hL4⟩
        rcases (mem o).mp (List.mem_of_getElem? ho) with p | p <;> rcases (mem _).mp hn with r | r
        · exact no_op ta p.1 r.1
        · exact gd.ok1 _ r.1 r.2 (by rw [Int.neg_neg]; exact p.1)
        · exact gd.ok1 _ p.1 p.2 r.1
        · exact gd.ok2 _ p.1 p.2 _ r.1 r.2 rfl
      rintro H5 ⟨s5, hL4⟩
      refine ⟨len0, fun e0 n0 => ?_⟩
      have s6 := same_new (u := .lst []) n0
      refine ⟨.list [], .list [], .lst (SqL.of (s6 _ _ hL4)) .nil, .lst (SqL.of upd_same) .nil, by decide +kernel, by decide +kernel, _, rfl, goF rfl ⟨_, rfl, L3, left, rfl, SqL.of (s6 _ _ (s5 _ _ hL3)), by omega, fun H' t cl' s' ht sm => ?_⟩⟩
      exact q _ t cl' (s04.trans (s5.trans (s6.trans s'))) ht sm.up ⟨sm.nd, fun z => (sm.mem z).trans (mem z)⟩
    · rintro σ H1 ⟨x3, x5, rfl, s1, hk⟩
      exfalso
      have hk : (2 : Nat) = 0 ∨ ((2 : Nat) = 1 ∧ 0 < x) := hk
      omega
abbrev nLO : List Str := ["_law_clauses", "_law_ahead", "_law_line", "_law_found", "_law_pair"]
theorem scLO : FnScope nLO ["_law_clauses", "_law_ahead", "_law_line"] (defScope sLLineOf) := ⟨rfl, rfl, rfl, by decide +kernel, rfl, by decide +kernel, by decide +kernel⟩
theorem ok_lo (F : FnP K "_law_line_of" sLLineOf f fd) (T : Tj.Tx mg)
    {fIX fWH fRE : Addr} {dIX dWH dRE : FuncData}
    (GIX : FnOk P w K mg base CX0 2 fIX dIX ["_law_thing", "_law_many"] (spIX K)) (gIX : mg "_law_is_index" = some (.ref fIX)) (kIX : PySem.W.keepIn K (.ref fIX) = true) (bIX : Binds K dIX ["_law_thing", "_law_many"] [])
    (GWH : FnOk P w K mg base CX0 1 fWH dWH ["_law_thing"] (spWhole K)) (gWH : mg "_law_is_whole" = some (.ref fWH)) (kWH : PySem.W.keepIn K (.ref fWH) = true) (bWH : Binds K dWH ["_law_thing"] [])
    (GRE : FnOk P w K mg base CX0 2 fRE dRE ["_law_one", "_law_two", "_law_variable"] (spRE K)) (gRE : mg "_law_resolved" = some (.ref fRE)) (kRE : PySem.W.keepIn K (.ref fRE) = true) (bRE : Binds K dRE ["_law_one", "_law_two", "_law_variable"] [])
    : FnOk P w K mg base CX0 3 f fd ["_law_clauses", "_law_ahead", "_law_line"] (spLO K) := by
  refine F.ok scLO (fun vs H Q E h => ?_) (fun cdv A outer s H vs Q E hr h => ?_)
  · obtain ⟨m, n, r, y, us, R, c0, hs, ps, rfl, _⟩ := h
    rfl
  · obtain ⟨m, n, r, y, us, R, c0, hs, ps, rfl, hR, au, m10, tR, hc0, sts, ln, q⟩ := h
    have h65 : (A.deeper (envOfC (Str.ofString "_law_line_of") (defScope sLLineOf) s.heap.objs.size f cdv)).units + 65 < cLine := by
      have := hr.un
      omega
    have ul := au.len
    have nl := (List.getElem?_eq_some_iff.mp hc0).1
    obtain ⟨y0, hy0, a0, rfl, ha0⟩ := au.get' hc0
    have t0 := tR c0 (List.mem_of_getElem? hc0)
    have ix0 : idxB (.int ((n : Nat) : Int)) (us.length : Int) = true := by
      show (decide ((0 : Int) ≤ n) && decide ((n : Int) < us.length)) = true
      rw [decide_eq_true (by omega : (0 : Int) ≤ n), decide_eq_true (by omega)]
      rfl
    refine ⟨_, PSs.nox (pss_cons (ps_if (PW.pt (pw_or (pt_not (pt_val (pe_callB call_isi (by rfl) T.isinstance (by decide +kernel) (pa_cons (pv 2) (pa_cons (pe_bltn (v := .ty "tuple") (by rfl) T.tuple (by decide +kernel) rfl) pa_nil))))) (pw_or (pt_cmpR op_eq (pe_callB call_len_seq (by rfl) T.len PySem.boot_len (pa_cons (pv 2) pa_nil)) pe_int (nomark _)) (pw_or1 (pt_cmpR (op_notInD h65) (pe_ix (r := L2.rIxT K) (by exact ix_tup) (pv 2) pe_int (fun _ _ => rfl)) (pe_lst (pa_cons pe_str (pa_cons pe_str pa_nil))) (by rfl))))))
        (pss_one (ps_ret pe_non))
        pss_nil)
      (pss_cons (ps_if (pt_not (pt_val (pe_call GIX (hr.mono (by decide)) (by rfl) gIX kIX bIX .nil pass0 (pa_cons (pe_ifExp (pt_cmpR op_gt (pe_callB call_len_seq (by rfl) T.len PySem.boot_len (pa_cons (pv 2) pa_nil)) pe_int (nomark _)) (pe_ix (r := L2.rIxT K) (by exact ix_tup) (pv 2) pe_int (fun _ _ => rfl)) pe_non) (pa_cons (pe_ifExp (pt_cmpR (op_eqD hr.units) (pe_ix (r := L2.rIxT K) (by exact ix_tup) (pv 2) pe_int (fun _ _ => rfl)) pe_str (nomark _)) (pe_callB call_len_seq (by rfl) T.len PySem.boot_len (pa_cons (pv 0) pa_nil)) (pe_callB call_len_seq (by rfl) T.len PySem.boot_len (pa_cons (pv 1) pa_nil))) pa_nil)))))
        (pss_one (ps_ret pe_non))
        pss_nil)
      (pss_cons (ps_if (pt_cmpR (op_eqD hr.units) (pe_ix (r := L2.rIxT K) (by exact ix_tup) (pv 2) pe_int (fun _ _ => rfl)) pe_str (nomark _))
        (pss_one (ps_ret (pe_ifExp (pt_cmpR op_eq (pe_callB call_len_seq (by rfl) T.len PySem.boot_len (pa_cons (pv 2) pa_nil)) pe_int (nomark _)) (pe_ix ix_list (pv 0) (pe_ix (r := L2.rIxT K) (by exact ix_tup) (pv 2) pe_int (fun _ _ => rfl)) (fun _ _ => rfl)) pe_non)))
        pss_nil)
      (pss_cons (ps_if (PW.pt (pw_or (pt_cmpR op_ne (pe_callB call_len_seq (by rfl) T.len PySem.boot_len (pa_cons (pv 2) pa_nil)) pe_int (nomark _)) (pw_or (pt_not (pt_val (pe_callB call_isi (by rfl) T.isinstance (by decide +kernel) (pa_cons (pe_ix (r := L2.rIxT K) (by exact ix_tup) (pv 2) pe_int (fun _ _ => rfl)) (pa_cons (pe_bltn (v := .ty "tuple") (by rfl) T.tuple (by decide +kernel) rfl) pa_nil))))) (pw_or1 (pt_cmpR (op_eqD hr.units) (pe_ix (r := L2.rIxT K) (by exact ix_tup) (pv 2) pe_int (fun _ _ => rfl)) (pe_tup pa_nil) (nomark _))))))
        (pss_one (ps_ret pe_non))
        pss_nil)
      (pss_cons (ps_set (i := 3) scLO.nd rfl (Or.inl rfl) (pe_ix ix_list (pv 1) (pe_ix (r := L2.rIxT K) (by exact ix_tup) (pv 2) pe_int (fun _ _ => rfl)) (fun _ _ => rfl)))
      (pss_cons (ps_for PassesOwn.never rfl (pi_tup (pe_ix (r := L2.rIxT K) (by exact ix_tup) (pv 2) pe_int (fun _ _ => rfl))) (pg_name (i := 4) scLO.nd rfl (Or.inl rfl))
        (pss_cons (ps_if (PW.pt (pw_or (pt_not (pt_val (pe_callB call_isi (by rfl) T.isinstance (by decide +kernel) (pa_cons (pv 4) (pa_cons (pe_bltn (v := .ty "tuple") (by rfl) T.tuple (by decide +kernel) rfl) pa_nil))))) (pw_or (pt_cmpR op_ne (pe_callB call_len_seq (by rfl) T.len PySem.boot_len (pa_cons (pv 4) pa_nil)) pe_int (nomark _)) (pw_or (pt_not (pt_val (pe_call GWH (hr.mono (by decide)) (by rfl) gWH kWH bWH .nil pass0 (pa_cons (pe_ix (r := L2.rIxT K) (by exact ix_tup) (pv 4) pe_int (fun _ _ => rfl)) pa_nil)))) (pw_or1 (pt_cmpR op_lt (pe_ix (r := L2.rIxT K) (by exact ix_tup) (pv 4) pe_int (fun _ _ => rfl)) pe_int (nomark _)))))))
          (pss_one (ps_ret pe_non))
          pss_nil)
        (pss_cons (ps_if (pt_not (pt_val (pe_call GIX (hr.mono (by decide)) (by rfl) gIX kIX bIX .nil pass0 (pa_cons (pe_ix (r := L2.rIxT K) (by exact ix_tup) (pv 4) pe_int (fun _ _ => rfl)) (pa_cons (pe_callB call_len_seq (by rfl) T.len PySem.boot_len (pa_cons (pv 1) pa_nil)) pa_nil)))))
          (pss_one (ps_ret pe_non))
          pss_nil)
        (pss_cons (ps_set (i := 3) scLO.nd rfl (Or.inl rfl) (pe_call GRE (hr.mono (by decide)) (by rfl) gRE kRE bRE .nil pass0 (pa_cons (pv 3) (pa_cons (pe_ix ix_list (pv 1) (pe_ix (r := L2.rIxT K) (by exact ix_tup) (pv 4) pe_int (fun _ _ => rfl)) (fun _ _ => rfl)) (pa_cons (pe_ix (r := L2.rIxT K) (by exact ix_tup) (pv 4) pe_int (fun _ _ => rfl)) pa_nil)))))
        (pss_one (ps_if (pt_cmpR op_isN (pv 3) pe_non (nomark _))
          (pss_one (ps_ret pe_non))
          pss_nil))))))
      (pss_one (ps_ret (pv 3))))))))), ?_⟩
    have kt : PySem.W.kitOne K (.type "tuple") (.type "tuple") = some true := kit_ty (a := "tuple") (b := "tuple") (r := true) (by decide +kernel)
    rcases ln with ⟨rfl, hy⟩ | ⟨pne, t, vs, hy, ht, ap⟩
    · obtain rfl := steps_nil sts rfl
      refine ⟨_, rfl, _, _, _, _, _, rfl, .ty _, ty_tup (SqT.of hy), kt, _, rfl, goF rfl ⟨_, rfl, y, _, rfl, .inr (SqT.of hy), rfl, _, rfl, goF (decide_eq_false fun e => by cases e) ⟨_, rfl, y, _, 0, _, rfl, rfl, SqT.of hy, at_of (j := 0) rfl rfl, len2, fun L nL => ?_⟩⟩⟩
      have sL := same_new (u := .lst [V.str "given", .str "chain"]) nL
      refine ⟨_, _, .str _, .lst (SqL.of upd_same) (.cons (.str _) (.cons (.str _) .nil)), by decide +kernel, by decide +kernel, _, rfl, goF (by decide +kernel) ?_⟩
      generalize upd H L _ = H1 at sL ⊢
      have hy1 := SqT.of (K := K) (sL _ _ hy)
      refine ⟨_, rfl, y, _, rfl, .inr hy1, _, _, rfl, rfl, _, rfl, goT (decide_eq_true (by show (1 : Int) < 2; decide)) ⟨_, rfl, y, _, 1, _, rfl, rfl, hy1, at_of (j := 1) rfl rfl, ?_⟩⟩
      refine ⟨_, rfl, y, _, 0, _, rfl, rfl, hy1, at_of (j := 0) rfl rfl, _, _, .str _, .str _, by decide +kernel, by decide +kernel, _, rfl, goT (by decide +kernel) ⟨_, rfl, r, us, rfl, .inl (sL.seq hR), _, .int _, _, rfl, .int _, _, rfl, goF (congrArg not ix0) ?_⟩⟩
      refine ⟨_, rfl, y, _, 0, _, rfl, rfl, hy1, at_of (j := 0) rfl rfl, _, _, .str _, .str _, by decide +kernel, by decide +kernel, _, rfl, goT (by decide +kernel) ?_⟩
      refine ⟨_, rfl, y, _, rfl, .inr hy1, rfl, _, rfl, goT (decide_eq_true rfl) ⟨_, rfl, _, rfl, y, _, 1, _, rfl, rfl, hy1, at_of (j := 1) rfl rfl, r, us, _, _, rfl, rfl, sL.seq hR, at_of (j := n) rfl hy0, ?_⟩⟩
      exact q _ a0 _ sL (seqT_same sL ha0) (fun _ => Iff.rfl) (fun _ => rfl) (fun e => absurd rfl e) t0
    · refine ⟨_, rfl, _, _, _, _, _, rfl, .ty _, ty_tup (SqT.of hy), kt, _, rfl, goF rfl ⟨_, rfl, y, _, rfl, .inr (SqT.of hy), rfl, _, rfl, goF (decide_eq_false fun e => by cases e) ⟨_, rfl, y, _, 0, _, rfl, rfl, SqT.of hy, at_of (j := 0) rfl rfl, len2, fun L nL => ?_⟩⟩⟩
      have sL := same_new (u := .lst [V.str "given", .str "chain"]) nL
      refine ⟨_, _, .str _, .lst (SqL.of upd_same) (.cons (.str _) (.cons (.str _) .nil)), by decide +kernel, by decide +kernel, _, rfl, goF (by decide +kernel) ?_⟩
      generalize upd H L _ = H1 at sL ⊢
      have hy1 := SqT.of (K := K) (sL _ _ hy)
      have ht1 := SqT.of (K := K) (sL _ _ ht)
      refine ⟨_, rfl, y, _, rfl, .inr hy1, _, _, rfl, rfl, _, rfl, goT (decide_eq_true (by show (1 : Int) < 3; decide)) ⟨_, rfl, y, _, 1, _, rfl, rfl, hy1, at_of (j := 1) rfl rfl, ?_⟩⟩
      refine ⟨_, rfl, y, _, 0, _, rfl, rfl, hy1, at_of (j := 0) rfl rfl, _, _, .str _, .str _, by decide +kernel, by decide +kernel, _, rfl, goF (by decide +kernel) ⟨_, rfl, r, us, rfl, .inl (sL.seq hR), _, .int _, _, rfl, .int _, _, rfl, goF (congrArg not ix0) ?_⟩⟩
      refine ⟨_, rfl, y, _, 0, _, rfl, rfl, hy1, at_of (j := 0) rfl rfl, _, _, .str _, .str _, by decide +kernel, by decide +kernel, _, rfl, goF (by decide +kernel) ?_⟩
      refine ⟨_, rfl, y, _, rfl, .inr hy1, rfl, _, rfl, goF neF ?_⟩
      refine ⟨_, rfl, y, _, 2, _, rfl, rfl, hy1, at_of (j := 2) rfl rfl, _, _, _, _, _, rfl, .ty _, ty_tup ht1, kt, _, rfl, goF rfl ?_⟩
      refine ⟨_, rfl, y, _, 2, _, rfl, rfl, hy1, at_of (j := 2) rfl rfl, len0, fun u nu => ?_⟩
      have su := same_new (u := .tup []) nu
      have ap1 := ap.imp fun _ _ h => h.firm (Firm.of (sL.trans su))
      refine ⟨_, _, .tup (seqT_same su ht1) (ps_dp ap1), .tup (SqT.of upd_same) .nil, sh_ps _, by decide +kernel, _, rfl, ?_⟩
      rw [eqv_unit, List.length_map]
      refine goF (decide_eq_false fun e => pne (List.eq_nil_of_length_eq_zero e)) ?_
      have s2 := sL.trans su
      have hy2 := seqT_same su hy1
      have ht2 := seqT_same su ht1
      generalize upd H1 u _ = H2 at s2 hy2 ht2 ap1 ⊢
      clear sL su hy1 ht1 nL nu
      refine ⟨_, rfl, _, rfl, y, _, 1, _, rfl, rfl, hy2, at_of (j := 1) rfl rfl, r, us, _, _, rfl, rfl, s2.seq hR, at_of (j := n) rfl hy0, ?_⟩
      have vl := ap1.len
      refine ⟨_, rfl, y, _, 2, _, rfl, rfl, hy2, at_of (j := 2) rfl rfl, t, rfl, ⟨_, ht2⟩, for_tup (K := K) (a := t) (xs := vs)
        (fun k σ H' => ∃ (x4 : Option V) (fa : Addr) (fc hk : List Int), σ = [some (.ref r), some (.ref r), some (.ref y), some (.ref fa), x4] ∧ Same H2 H' ∧ SqT K H' fa (fc.map V.int) ∧ Chain R hk (ps.drop k) hs ∧ (∀ z, z ∈ fc ↔ z ∈ hk) ∧ (0 < k → fc.Pairwise fun a b => ab1 a ≤ ab1 b) ∧ TOk m fc)
        ⟨_, a0, c0, c0, rfl, Same.refl _, seqT_same s2 ha0, steps_chain sts, fun _ => Iff.rfl, fun z => absurd z (Nat.lt_irrefl 0), t0⟩ (fun k σ H' _ ⟨_, _, _, _, _, s, _⟩ => seqT_same s ht2) ?_ ?_⟩
      · rintro k v σ H3 hv ⟨x4, fa, fc, hk, rfl, s3, hfa, ch, mem, up, tfc⟩
        obtain ⟨p, hp, b, rfl, hb⟩ := ap1.get hv
        obtain ⟨lt, ep⟩ := List.getElem?_eq_some_iff.mp hp
        rw [List.drop_eq_getElem_cons lt, ep] at ch
        generalize hps : ps.drop (k + 1) = ps2 at ch
        generalize hk0 : hk = hk0 at ch mem
        generalize hs0 : hs = hs0 at ch
        generalize hq : p :: ps2 = pq at ch
        cases ch with
        | nil => cases hq
        | cons a cl a' b0 x i ps3 hcl gd dn ch2 =>
        obtain ⟨rfl, rfl⟩ := List.cons.inj hq
        subst hs0 hk0 hps
        obtain ⟨yc, hyc, ac, rfl, hac⟩ := au.get' hcl
        have il := (List.getElem?_eq_some_iff.mp hcl).1
        have ix1 : idxB (.int ((i : Nat) : Int)) (us.length : Int) = true := by
          show (decide ((0 : Int) ≤ i) && decide ((i : Int) < us.length)) = true
          rw [decide_eq_true (by omega : (0 : Int) ≤ i), decide_eq_true (by omega)]
          rfl
        have hb3 := seqT_same s3 hb
        have s03 := s2.trans s3
        have x0 := gd.x0
        refine ⟨_, rfl, _, _, _, _, _, rfl, .ty _, ty_tup hb3, kt, _, rfl, goF rfl ⟨_, rfl, b, _, rfl, .inr hb3, rfl, _, rfl, goF neF ⟨_, rfl, b, _, 0, _, rfl, rfl, hb3, at_of (j := 0) rfl rfl, _, .int _, rfl, .int _, _, rfl, goF rfl ⟨_, rfl, b, _, 0, _, rfl, rfl, hb3, at_of (j := 0) rfl rfl, _, _, rfl, rfl, _, rfl, goF (decide_eq_false (by omega)) ?_⟩⟩⟩⟩
        refine ⟨_, rfl, b, _, 1, _, rfl, rfl, hb3, at_of (j := 1) rfl rfl, _, rfl, r, us, rfl, .inl (s03.seq hR), _, .int _, _, rfl, .int _, _, rfl, goF (congrArg not ix1) ?_⟩
        refine ⟨_, rfl, _, rfl, _, rfl, b, _, 1, _, rfl, rfl, hb3, at_of (j := 1) rfl rfl, r, us, _, _, rfl, rfl, s03.seq hR, at_of (j := i) rfl hyc, _, rfl, b, _, 0, _, rfl, rfl, hb3, at_of (j := 0) rfl rfl, ?_⟩
        refine ⟨m, fa, ac, fc, cl, x, rfl, hfa, seqT_same s03 hac, m10, tfc, tR cl (List.mem_of_getElem? hcl), Good.same gd mem, fun H4 t' cl' s4 ht' up' d' => ?_⟩
        refine ⟨_, rfl, rfl, _, rfl, goF (decide_eq_false fun e => by cases e) ⟨_, t', cl', a', rfl, s3.trans s4, SqT.of ht', ch2, fun z => ?_, fun _ => up', tok_done tfc (tR cl (List.mem_of_getElem? hcl)) (Good.same gd mem) d'⟩⟩
        rw [d'.mem, dn.mem, mem]
      · rintro σ H3 ⟨x4, fa, fc, hk, rfl, s3, hfa, ch, mem, up, tfc⟩
        rw [vl, List.drop_length] at ch
        generalize hk0 : hk = hk0 at ch mem
        generalize hs0 : hs = hs0 at ch
        cases ch
        subst hs0
        have lp : 0 < ps.length := List.length_pos_iff.mpr pne
        exact ⟨_, rfl, q _ fa fc (s2.trans s3) hfa (fun z => by rw [mem]) (fun e => absurd e pne) (fun _ => up (by omega)) tfc⟩
end
end Tw
namespace Ty
open PySem PySem.Spec PyProof.Rows L2 Pen Dat Ki Fi Gr No Lf Cm Cn Abk Ack Tr Ta Tb Tc Sm Sn So Spm Sqm Te Tg Th Tj Tk Tq Tw
/-! ## k27: what the acts keep -/
def NoM (_ : List Int) : Prop := False
theorem StM.start {m : Nat} {R0 : CRow} (h : ∀ cl ∈ R0, COk m cl) : StM NoM m R0 [] [] := by
  refine ⟨⟨List.nodup_nil, fun z hz => by cases hz⟩, fun cl hc as ha => ha.elim, fun cl hc => ⟨(h cl hc).nd, (h cl hc).ok⟩, fun k x hx => ?_, fun cl hc => ?_⟩
  · match k, hx with
    | 0, hx =>
      obtain rfl := Option.some.inj hx
      exact ⟨True.intro, (fun _ e he => by cases he), fun z => by omega⟩
    | k + 1, hx => cases hx
  · show leftM [] cl ≠ []
    unfold leftM
    rw [List.filter_eq_self.mpr fun z _ => by rw [decide_eq_false (List.not_mem_nil)]; rfl]
    exact (h cl hc).ne
theorem ask_at {hs : List Int} {R : CRow} {n : Nat} (h : askM hs 0 R (none, none) = (some n, none)) : ∃ cl, R[n]? = some cl ∧ leftM hs cl = [] := by
  rcases ask_none R 0 (none, none) n h with ⟨i, cl, h1, h2, h3⟩ | w
  · rw [Nat.zero_add] at h1
    rw [h1]
    exact ⟨cl, h2, h3⟩
  · cases w
theorem StM.learn {M : List Int → Prop} {m : Nat} {R : CRow} {ts : Trail} {l : Level} (s : StM M m R ts l) (m5 : m ≤ 500) (ne : 0 < ts.length) {n : Nat} (h : askM (litsM (ts ++ [l])) 0 R (none, none) = (some n, none)) : ∃ c0, R[n]? = some c0 ∧ c0.Nodup ∧ Runs R l c0 (Iv M (litsM ts) l) := by
  obtain ⟨c0, h2, h3⟩ := ask_at h
  have la := s.last
  obtain ⟨e0, rest, e, _, hr⟩ := la.more ne
  have hm := List.mem_of_getElem? h2
  have t := s.tok
  have w := la.why
  rw [lits_snoc] at h3 t
  have nd := (s.tk c0 hm).nodup
  subst e
  exact ⟨c0, h2, nd, iv_runs m5 t w hr s.kr hm nd h3 (s.nf c0 hm)⟩
theorem StM.held {M : List Int → Prop} {m : Nat} {R : CRow} {ts : Trail} {l : Level} {j : Nat} {hs : List Int} (s : StM M m R ts l) (v : Iv M (litsM ts) l j hs) : TOk m hs := by
  have t := s.tok
  rw [lits_snoc] at t
  exact (iv_size t v).1
/-! ### what is asked at the end, and on the way -/
theorem ask_stays {hs : List Int} : ∀ (R : CRow) (n : Nat) (k : Nat) (y : Option Int), askM hs n R (some k, y) ≠ (none, none)
  | [], n, k, y, h => by cases h
  | c :: R, n, k, y, h => by
    have h' : (if leftM hs c = [] then (some n, none) else askM hs (n + 1) R (nextA hs n c (some k, y))) = (none, none) := h
    by_cases e : leftM hs c = []
    · rw [if_pos e] at h'
      cases h'
    · rw [if_neg e] at h'
      unfold nextA at h'
      split at h'
      · split at h'
        · exact ask_stays R _ _ _ h'
        · exact ask_stays R _ _ _ h'
      · exact ask_stays R _ _ _ h'
theorem ask_done {hs : List Int} : ∀ (R : CRow) (n : Nat), askM hs n R (none, none) = (none, none) → ∀ cl ∈ R, leftM hs cl ≠ [] ∧ ∀ z, leftM hs cl = [z] → z ∈ hs
  | [], _, _, _, hc => by cases hc
  | c :: R, n, h, cl, hc => by
    have h' : (if leftM hs c = [] then (some n, none) else askM hs (n + 1) R (nextA hs n c (none, none))) = (none, none) := h
    by_cases e : leftM hs c = []
    · rw [if_pos e] at h'
      cases h'
    · rw [if_neg e] at h'
      have key : nextA hs n c (none, none) = (none, none) ∧ ∀ z, leftM hs c = [z] → z ∈ hs := by
        unfold nextA at h' ⊢
        split at h'
        · rename_i z ez
          by_cases m : z ∈ hs
          · refine ⟨if_pos m, fun y ey => ?_⟩
            have ey := ez.symm.trans ey
            rw [← (List.cons.inj ey).1]
            exact m
          · rw [if_neg m] at h'
            exact absurd h' (ask_stays R _ _ _)
        · rename_i nz
          exact ⟨rfl, fun z ez => absurd ez (nz z)⟩
      rw [key.1] at h'
      rcases List.mem_cons.mp hc with g | g
      · rw [g]
        exact ⟨e, key.2⟩
      · exact ask_done R (n + 1) h' cl g
theorem ask_live {hs : List Int} : ∀ (R : CRow) (n : Nat) (a : Ask) (k : Option Nat) (z : Int), askM hs n R a = (k, some z) → ∀ cl ∈ R, leftM hs cl ≠ []
  | [], _, _, _, _, _, _, hc => by cases hc
  | c :: R, n, a, k, z, h, cl, hc => by
    have h' : (if leftM hs c = [] then (some n, none) else askM hs (n + 1) R (nextA hs n c a)) = (k, some z) := h
    by_cases e : leftM hs c = []
    · rw [if_pos e] at h'
      cases h'
    · rw [if_neg e] at h'
      rcases List.mem_cons.mp hc with g | g
      · rw [g]
        exact e
      · exact ask_live R (n + 1) _ k z h' cl g
theorem units_ext {R : CRow} {hs hs' : List Int} {l l' : Level} {n : Option Nat} (u : Units R hs l hs' l' n) : ∃ tl, hs' = hs ++ tl := by
  induction u with
  | stop hs l n h => exact ⟨[], (List.append_nil _).symm⟩
  | step hs l n z hs' l' n' h u ih =>
    obtain ⟨tl, e⟩ := ih
    exact ⟨z :: tl, by rw [e, List.append_assoc]; rfl⟩
/-- no row is false ahead of what units put in -/
theorem units_pre {R : CRow} {hs hs' : List Int} {l l' : Level} {n : Option Nat} (u : Units R hs l hs' l' n) : ∀ p, hs.length ≤ p → p < hs'.length → ∀ cl ∈ R, leftM (hs'.take p) cl ≠ [] := by
  induction u with
  | stop hs l n h => exact fun p h1 h2 => by omega
  | step hs l n z hs' l' n' h u ih =>
    intro p h1 h2 cl hc
    rcases Nat.lt_or_ge hs.length p with g | g
    · exact ih p (by rw [List.length_append]; show hs.length + 1 ≤ p; omega) h2 cl hc
    · obtain ⟨tl, e⟩ := units_ext u
      have : hs'.take p = hs := by
        rw [e, List.append_assoc, show p = hs.length by omega, List.take_append_of_le_length (Nat.le_refl _), List.take_length]
      rw [this]
      exact ask_live R 0 _ n z h cl hc
/-- a conflict that stands is told at once -/
theorem units_stop {R : CRow} {hs hs' : List Int} {l l' : Level} {n : Option Nat} {k : Option Nat} (u : Units R hs l hs' l' n) (h : askM hs 0 R (none, none) = (k, none)) : hs' = hs ∧ l' = l ∧ n = k := by
  cases u with
  | stop hs l n h2 =>
    rw [h] at h2
    exact ⟨rfl, rfl, (Prod.mk.inj h2).1.symm⟩
  | step hs l n z hs' l' n' h2 u =>
    rw [h] at h2
    cases (Prod.mk.inj h2).2
/-! ### trails as data -/
def reD : Option Nat → PyData
  | none => .none
  | some n => .int (n : Nat)
def enD (e : Tr.Entry) : PyData := .tuple [.int e.1, reD e.2]
def lvD (l : Level) : PyData := .tuple (l.map enD)
def trD (t : Trail) : PyData := .tuple (t.map lvD)
section
variable {K : PySem.W.Frag} {H : Hp}
theorem re_dp (o : Option Nat) : Dp K H (rV o) (reD o) := by
  cases o with
  | none => exact .non
  | some n => exact .int _
theorem en_dp {v : V} {e : Tr.Entry} (h : EnAt K H v e) : Dp K H v (enD e) := by
  obtain ⟨a, rfl, h⟩ := h
  exact .tup h (.cons (.int _) (.cons (re_dp _) .nil))
theorem ens_dp : ∀ {vs : List V} {l : Level}, All2 (EnAt K H) vs l → DpAll K H vs (l.map enD)
  | _, _, .nil => .nil
  | _, _, .cons h t => .cons (en_dp h) (ens_dp t)
theorem lv_dp {v : V} {l : Level} (h : LvAt K H v l) : Dp K H v (lvD l) := by
  obtain ⟨a, us, rfl, h, h2⟩ := h
  exact .tup h (ens_dp h2)
theorem lvs_dp : ∀ {vs : List V} {t : Trail}, All2 (LvAt K H) vs t → DpAll K H vs (t.map lvD)
  | _, _, .nil => .nil
  | _, _, .cons h t => .cons (lv_dp h) (lvs_dp t)
theorem tr_dp {a : Addr} {t : Trail} (h : TrAt K H a t) : Dp K H (.ref a) (trD t) := by
  obtain ⟨us, h, h2⟩ := h
  exact .tup h (lvs_dp h2)
end
theorem lay_en (e : Tr.Entry) : (enD e).canLay0 = true ∧ (enD e).depth ≤ 1 := by
  obtain ⟨z, r⟩ := e
  cases r with
  | none => exact ⟨rfl, Nat.le_refl 1⟩
  | some n => exact ⟨rfl, Nat.le_refl 1⟩
theorem lay_ens : ∀ l : Level, PyData.canLayAll0 (l.map enD) = true ∧ PyData.depthAll (l.map enD) ≤ 1
  | [] => ⟨rfl, Nat.zero_le _⟩
  | e :: l => by
    obtain ⟨a, b⟩ := lay_ens l
    obtain ⟨x, y⟩ := lay_en e
    refine ⟨?_, ?_⟩
    · show ((enD e).canLay0 && PyData.canLayAll0 (l.map enD)) = true
      rw [a, x]
      rfl
    · show max (enD e).depth (PyData.depthAll (l.map enD)) ≤ 1
      exact Nat.max_le.mpr ⟨y, b⟩
theorem sh_lv (l : Level) : SeqAt.shaped (lvD l) = true := by
  obtain ⟨a, b⟩ := lay_ens l
  show (PyData.canLayAll0 (l.map enD) && decide (PyData.depthAll (l.map enD) + 1 ≤ 64)) = true
  rw [a, decide_eq_true (by omega)]
  rfl
theorem lay_lvs : ∀ t : Trail, PyData.canLayAll0 (t.map lvD) = true ∧ PyData.depthAll (t.map lvD) ≤ 2
  | [] => ⟨rfl, Nat.zero_le _⟩
  | l :: t => by
    obtain ⟨a, b⟩ := lay_lvs t
    obtain ⟨x, y⟩ := lay_ens l
    refine ⟨?_, ?_⟩
    · show (PyData.canLayAll0 (l.map enD) && PyData.canLayAll0 (t.map lvD)) = true
      rw [a, x]
      rfl
    · show max (PyData.depthAll (l.map enD) + 1) (PyData.depthAll (t.map lvD)) ≤ 2
      exact Nat.max_le.mpr ⟨by omega, b⟩
theorem sh_tr (t : Trail) : SeqAt.shaped (trD t) = true := by
  obtain ⟨a, b⟩ := lay_lvs t
  show (PyData.canLayAll0 (t.map lvD) && decide (PyData.depthAll (t.map lvD) + 1 ≤ 64)) = true
  rw [a, decide_eq_true (by omega)]
  rfl
/-! ### the acts' trails are trails -/
def Cnd (up fst : Bool) : Level → Prop
  | [] => True
  | e :: rest => (if (up && fst) = true then e.2 = none else e.2.isSome = true) ∧ ∀ x ∈ rest, x.2.isSome = true
theorem tok_mid {m : Nat} {hs : List Int} {z : Int} {rest : List Int} (t : TOk m (hs ++ z :: rest)) : z ≠ 0 ∧ z.natAbs ≤ m ∧ ¬ z ∈ hs ∧ ¬ -z ∈ hs := by
  have h1 := t.ok z (List.mem_append_right _ List.mem_cons_self)
  have ap : ∀ y ∈ hs, y.natAbs ≠ z.natAbs := fun y hy => apart t hy List.mem_cons_self
  exact ⟨h1.1, h1.2, fun g => ap _ g rfl, fun g => ap _ g (by rw [Int.natAbs_neg])⟩
theorem lvl_trail {m : Nat} {R : CRow} {up : Bool} : ∀ (l : Level) (hs : List Int) (fst : Bool), TOk m (hs ++ l.map Prod.fst) → Whys R hs l → Cnd up fst l → lvlB m R up hs fst (l.map enD) = some (hs ++ l.map Prod.fst)
  | [], hs, _, _, _, _ => by
    show some hs = some (hs ++ [])
    rw [List.append_nil]
  | (z, r) :: rest, hs, fst, t, w, c => by
    obtain ⟨z0, zm, n1, n2⟩ := tok_mid (show TOk m (hs ++ z :: rest.map Prod.fst) from t)
    have ent : entB m R hs (up && fst) (enD (z, r)) = true := by
      show (((decide (-(m : Int) ≤ z) && decide (z ≤ m)) && !decide (z = 0)) && (!decide (z ∈ hs) && (!decide (-z ∈ hs) && if (up && fst) = true then isNonD (reD r) else whyB R hs z (reD r)))) = true
      rw [decide_eq_true (by omega : -(m : Int) ≤ z), decide_eq_true (by omega : z ≤ (m : Int)), decide_eq_false z0, decide_eq_false n1, decide_eq_false n2]
      have c1 := c.1
      show (if (up && fst) = true then isNonD (reD r) else whyB R hs z (reD r)) = true
      by_cases d : (up && fst) = true
      · rw [if_pos d] at c1 ⊢
        have c1 : r = none := c1
        rw [c1]
        rfl
      · rw [if_neg d] at c1 ⊢
        obtain ⟨i, hi⟩ := Option.isSome_iff_exists.mp c1
        have hi : r = some i := hi
        obtain ⟨cl, h1, h2, h3⟩ := w.1 i hi
        subst hi
        have il := (List.getElem?_eq_some_iff.mp h1).1
        have ecl : R.getD (((i : Nat) : Int)).toNat [] = cl := by
          show R.getD i [] = cl
          rw [List.getD_eq_getElem?_getD, h1]
          rfl
        show ((decide ((0 : Int) ≤ i) && decide ((i : Int) ≤ (R.length : Int) - 1)) && reasonB hs (R.getD (((i : Nat) : Int)).toNat []) z) = true
        rw [ecl, decide_eq_true (by omega : (0 : Int) ≤ i), decide_eq_true (by omega : (i : Int) ≤ (R.length : Int) - 1)]
        show (decide (z ∈ cl) && cl.all fun o => decide (o = z) || decide (-o ∈ hs)) = true
        rw [decide_eq_true h2, Bool.true_and, List.all_eq_true]
        intro o ho
        by_cases g : o = z
        · rw [decide_eq_true g]
          rfl
        · rw [decide_eq_true (h3 o ho g), Bool.or_true]
    show (if entB m R hs (up && fst) (enD (z, r)) = true then lvlB m R up (hs ++ [z]) false (rest.map enD) else none) = _
    rw [if_pos ent, lvl_trail rest (hs ++ [z]) false (by rw [List.append_assoc]; exact t) w.2 ?_, List.append_assoc]
    · rfl
    · cases rest with
      | nil => exact True.intro
      | cons x rest =>
        refine ⟨?_, fun y hy => c.2 y (List.mem_cons_of_mem _ hy)⟩
        rw [Bool.and_false, if_neg Bool.false_ne_true]
        exact c.2 x List.mem_cons_self
theorem trl_trail {m : Nat} {R : CRow} : ∀ (t : Trail) (hs : List Int) (off : Nat), TOk m (hs ++ litsM t) → (∀ k x, t[k]? = some x → Lev R (hs ++ litsM (t.take k)) (k + off) x) → trlB m R hs (decide (0 < off)) (t.map lvD) = some (hs ++ litsM t)
  | [], hs, _, _, _ => by
    show some hs = some (hs ++ [])
    rw [List.append_nil]
  | x :: t, hs, off, tk, lev => by
    have l0 := lev 0 x rfl
    have l0 : Lev R hs off x := by
      have e : hs ++ litsM (List.take 0 (x :: t)) = hs := List.append_nil _
      rw [e, Nat.zero_add] at l0
      exact l0
    have el : litsM (x :: t) = x.map Prod.fst ++ litsM t := by
      unfold litsM
      rw [List.flatten_cons, List.map_append]
    have tk1 : TOk m ((hs ++ x.map Prod.fst) ++ litsM t) := by
      rw [el] at tk
      rw [List.append_assoc]
      exact tk
    have tk0 : TOk m (hs ++ x.map Prod.fst) := by
      refine ⟨?_, fun y hy => tk1.ok y (List.mem_append_left _ hy)⟩
      have := tk1.nd
      rw [List.map_append] at this
      exact (List.nodup_append.mp this).1
    have cond : (true && !(decide (0 < off) && decide ((x.map enD).length = 0))) = true := by
      by_cases c : 0 < off
      · obtain ⟨e0, rest, e, _⟩ := l0.more c
        rw [e, decide_eq_false (by simp : ¬ (((e0 :: rest).map enD).length = 0)), Bool.and_false]
        rfl
      · rw [decide_eq_false c]
        rfl
    have cnd : Cnd (decide (0 < off)) true x := by
      by_cases c : 0 < off
      · obtain ⟨e0, rest, e, e1, e2⟩ := l0.more c
        subst e
        refine ⟨?_, e2⟩
        rw [if_pos (by rw [decide_eq_true c]; rfl)]
        exact e1
      · have z := l0.zero (by omega)
        cases x with
        | nil => exact True.intro
        | cons e rest =>
          refine ⟨?_, fun y hy => z y (List.mem_cons_of_mem _ hy)⟩
          rw [if_neg (by rw [decide_eq_false c]; exact Bool.false_ne_true)]
          exact z e List.mem_cons_self
    show (if (true && !(decide (0 < off) && decide ((x.map enD).length = 0))) = true then (lvlB m R (decide (0 < off)) hs true (x.map enD)).bind fun hs' => trlB m R hs' true (t.map lvD) else none) = _
    rw [if_pos cond, lvl_trail x hs true tk0 l0.why cnd, el, ← List.append_assoc]
    have := trl_trail t (hs ++ x.map Prod.fst) (off + 1) tk1 fun k y hy => by
      have := lev (k + 1) y (by rw [List.getElem?_cons_succ]; exact hy)
      rw [List.take_succ_cons] at this
      have e : litsM (x :: t.take k) = x.map Prod.fst ++ litsM (t.take k) := by
        unfold litsM
        rw [List.flatten_cons, List.map_append]
      rw [e, ← List.append_assoc, show k + 1 + off = k + (off + 1) by omega] at this
      exact this
    rw [decide_eq_true (by omega)] at this
    exact this
theorem StM.trail {M : List Int → Prop} {m : Nat} {R : CRow} {ts : Trail} {l : Level} (s : StM M m R ts l) : trailB m R (trD (ts ++ [l])) = true := by
  have := trl_trail (ts ++ [l]) [] 0 s.tok fun k x hx => s.lev k x hx
  show (true && (!decide (((ts ++ [l]).map lvD).length = 0) && (trlB m R [] false ((ts ++ [l]).map lvD)).isSome)) = true
  have e : trlB m R [] false ((ts ++ [l]).map lvD) = some ([] ++ litsM (ts ++ [l])) := this
  rw [e, decide_eq_false (by simp : ¬ ((ts ++ [l]).map lvD).length = 0)]
  rfl
/-! ### levels -/
theorem lv_held {hs : List Int} {tr : Trail} : ∀ k, k ≤ tr.length → (∃ i l, i < k ∧ tr[i]? = some l ∧ heldM hs l ≠ []) → ∃ l, tr[lvM hs tr k]? = some l ∧ heldM hs l ≠ []
  | 0, _, ⟨i, _, h, _⟩ => by omega
  | k + 1, hk, ⟨i, l, hi, hl, he⟩ => by
    obtain ⟨x, hx⟩ : ∃ x, tr[k]? = some x := ⟨_, List.getElem?_eq_getElem (by omega)⟩
    unfold lvM
    rw [hx]
    by_cases c : heldM hs x = []
    · rw [if_pos (by show some (heldM hs x) = some []; rw [c])]
      refine lv_held k (by omega) ⟨i, l, ?_, hl, he⟩
      rcases Nat.lt_or_ge i k with g | g
      · exact g
      · obtain rfl : i = k := by omega
        rw [hl] at hx
        rw [Option.some.inj hx] at he
        exact absurd c he
    · rw [if_neg (by show ¬ some (heldM hs x) = some []; simpa using c)]
      exact ⟨x, (by show tr[if (some x).isSome = true then k else lvM hs tr k]? = some x; exact hx), c⟩
theorem lv_zero {hs : List Int} {tr : Trail} : ∀ k, (∀ i l, i < k → tr[i]? = some l → heldM hs l = []) → lvM hs tr k = 0
  | 0, _ => rfl
  | k + 1, h => by
    unfold lvM
    have ih := lv_zero k fun i l hi => h i l (by omega)
    cases hx : tr[k]? with
    | none =>
      rw [if_neg (by simp), if_neg (by simp)]
      exact ih
    | some x =>
      rw [if_pos (by show some (heldM hs x) = some []; rw [h k x (by omega) hx])]
      exact ih
end Ty
namespace Tz
open PySem PySem.Spec PyProof.Rows L2 Pen Dat Ki Fi Gr No Lf Cm Cn Abk Ack Tr Ta Tb Tc Td Sm Sn So Spm Sqm Te Tg Th Tj Tk Tq Tw Ty
/-! ## k27: what units tells is right -/
theorem lvl_len {m : Nat} {tr : Trail} (t : TOk m (litsM tr)) : ∀ x ∈ tr, x.length ≤ m := fun x hx => by
  refine Nat.le_trans ?_ t.len
  obtain ⟨i, hi⟩ := List.mem_iff_getElem?.mp hx
  rw [lits_pre (i + 1), lits_take hi, List.length_append, List.length_append, List.length_map]
  omega
/-- the bounds of a trail as data -/
theorem tr_big {m : Nat} {tr : Trail} (m1 : m ≤ 100) (tl : tr.length ≤ 200) (t : TOk m (litsM tr)) : (rowsD (trD tr)).length ≤ 1000 ∧ ∀ e ∈ rowsD (trD tr), (rowsD e).length ≤ 1000 := by
  refine ⟨by show (tr.map lvD).length ≤ 1000; rw [List.length_map]; omega, fun e he => ?_⟩
  obtain ⟨x, hx, rfl⟩ := List.mem_map.mp (show e ∈ tr.map lvD from he)
  have := lvl_len t x hx
  show (x.map enD).length ≤ 1000
  rw [List.length_map]
  omega
def spUR (K : PySem.W.Frag) : Sp := fun vs H Q _ => ∃ (m : Nat) (r t pp t' : Addr) (us : List V) (R : CRow) (ts : Trail) (l l' more : Level) (n' : Option Nat), vs = [.int (m : Nat), .ref r, .ref t, .ref pp] ∧ SqL K H r us ∧ All2 (ClAt K H) us R ∧ m ≤ 100 ∧ TrAt K H t (ts ++ [l]) ∧ H pp = some (.tup [.ref t', rV n']) ∧ TrAt K H t' (ts ++ [l']) ∧
  StM NoM m R ts l' ∧ l' = l ++ more ∧ (∀ p, (litsM (ts ++ [l])).length ≤ p → p < (litsM (ts ++ [l'])).length → ∀ cl ∈ R, leftM ((litsM (ts ++ [l'])).take p) cl ≠ []) ∧ askM (litsM (ts ++ [l'])) 0 R (none, none) = (n', none) ∧
  ∀ H', Same H H' → Q (.bl true) H'
section
variable {P : Program} {w : World} {K : PySem.W.Frag} {mg : Str → Option Value} {base : Heap} {f : Addr} {fd : FuncData}
abbrev nUR : List Str := ["_law_many", "_law_row", "_law_trail", "_law_told", "_law_fresh", "_law_n", "_law_known", "_law_place", "_law_clause", "_law_trues", "_law_number", "_law_left"]
theorem scUR : FnScope nUR ["_law_many", "_law_row", "_law_trail", "_law_told"] (defScope sLUnitsRight) := ⟨rfl, rfl, rfl, by decide +kernel, rfl, by decide +kernel, by decide +kernel⟩
theorem ok_ur (F : FnP K "_law_units_right" sLUnitsRight f fd) (T : Tj.Tx mg)
    {fLT fLL fAF fIX : Addr} {dLT dLL dAF dIX : FuncData}
    (GLT : FnOk P w K mg base CX0 3 fLT dLT ["_law_many", "_law_row", "_law_trail"] (spLT K)) (gLT : mg "_law_is_trail" = some (.ref fLT)) (kLT : PySem.W.keepIn K (.ref fLT) = true) (bLT : Binds K dLT ["_law_many", "_law_row", "_law_trail"] [])
    (GLL : FnOk P w K mg base CX0 1 fLL dLL ["_law_trail"] (spLits K)) (gLL : mg "_law_literals" = some (.ref fLL)) (kLL : PySem.W.keepIn K (.ref fLL) = true) (bLL : Binds K dLL ["_law_trail"] [])
    (GAF : FnOk P w K mg base CX0 1 fAF dAF ["_law_clause", "_law_trues"] (spAF K)) (gAF : mg "_law_all_false" = some (.ref fAF)) (kAF : PySem.W.keepIn K (.ref fAF) = true) (bAF : Binds K dAF ["_law_clause", "_law_trues"] [])
    (GIX : FnOk P w K mg base CX0 2 fIX dIX ["_law_thing", "_law_many"] (spIX K)) (gIX : mg "_law_is_index" = some (.ref fIX)) (kIX : PySem.W.keepIn K (.ref fIX) = true) (bIX : Binds K dIX ["_law_thing", "_law_many"] [])
    : FnOk P w K mg base CX0 4 f fd ["_law_many", "_law_row", "_law_trail", "_law_told"] (spUR K) := by
  refine F.ok scUR (fun vs H Q E h => ?_) (fun cdv A outer s H vs Q E hr h => ?_)
  · obtain ⟨m, r, t, pp, t', us, R, ts, l, l', more, n', rfl, _⟩ := h
    rfl
  · obtain ⟨m, r, t, pp, t', us, R, ts, l, l', more, n', rfl, hR, au, m1, ⟨ut, ht, aT⟩, hpp, ⟨ut', ht', aT'⟩, M, el, pre, ak, q⟩ := h
    have ul := au.len
    have tsl := M.levels
    have cz : ∀ cl ∈ R, cl.length ≤ 1000 := fun cl hc => by
      have := (M.tk cl hc).len
      omega
    have tok' := M.tok
    have tl' := tok'.len
    have tok : (litsM (ts ++ [l])).length ≤ 100 := by
      rw [lits_snoc, el, List.map_append, List.length_append, List.length_append] at tl'
      rw [lits_snoc, List.length_append]
      omega
    have hT : TrAt K H t (ts ++ [l]) := ⟨ut, ht, aT⟩
    have hT' : TrAt K H t' (ts ++ [l']) := ⟨ut', ht', aT'⟩
    obtain ⟨big1, big2⟩ := tr_big m1 (by rw [List.length_append]; show ts.length + 1 ≤ 200; omega) tok'
    have kt : PySem.W.kitOne K (.type "tuple") (.type "tuple") = some true := kit_ty (a := "tuple") (b := "tuple") (r := true) (by decide +kernel)
    obtain ⟨vs, v, rfl, aV, a, es, rfl, ha, ae⟩ := all2_snoc aT
    obtain ⟨vs', v', rfl, aV', a', es', rfl, ha', ae'⟩ := all2_snoc aT'
    have vl := aV.len
    have vl' := aV'.len
    have e1 := ae.len
    refine ⟨_, PSs.nox (pss_cons (ps_if (PW.pt (pw_or (pt_not (pt_val (pe_callB call_isi (by rfl) T.isinstance (by decide +kernel) (pa_cons (pv 3) (pa_cons (pe_bltn (v := .ty "tuple") (by rfl) T.tuple (by decide +kernel) rfl) pa_nil))))) (pw_or (pt_cmpR op_ne (pe_callB call_len_seq (by rfl) T.len PySem.boot_len (pa_cons (pv 3) pa_nil)) pe_int (nomark _)) (pw_or1 (pt_not (pt_val (pe_call GLT (hr.mono (by decide)) (by rfl) gLT kLT bLT .nil pass0 (pa_cons (pv 0) (pa_cons (pv 1) (pa_cons (pe_ix (r := L2.rIxT K) (by exact ix_tup) (pv 3) pe_int (fun _ _ => rfl)) pa_nil))))))))))
        (pss_one (ps_ret pe_bl))
        pss_nil)
      (pss_cons (ps_asg (pv 3) (pg_tup rfl (pgs_cons (pg_name (i := 4) scUR.nd rfl (Or.inl rfl)) (pgs_cons (pg_name (i := 5) scUR.nd rfl (Or.inl rfl)) pgs_nil))))
      (pss_cons (ps_if (PW.pt (pw_or (pt_cmpR op_ne (pe_callB call_len_seq (by rfl) T.len PySem.boot_len (pa_cons (pv 4) pa_nil)) (pe_callB call_len_seq (by rfl) T.len PySem.boot_len (pa_cons (pv 2) pa_nil)) (nomark _)) (pw_or (pt_cmpR (op_neD hr.units) (pe_slice sl_tupA (pv 4) po_none (po_some (pe_un un_neg pe_int))) (pe_slice sl_tupA (pv 2) po_none (po_some (pe_un un_neg pe_int))) (nomark _)) (pw_or1 (pt_cmpR (op_neD hr.units) (pe_slice sl_tupA (pe_ix (r := L2.rIxT K) (by exact ix_tup) (pv 4) (pe_un un_neg pe_int) (fun _ _ => rfl)) po_none (po_some (pe_callB call_len_seq (by rfl) T.len PySem.boot_len (pa_cons (pe_ix (r := L2.rIxT K) (by exact ix_tup) (pv 2) (pe_un un_neg pe_int) (fun _ _ => rfl)) pa_nil)))) (pe_ix (r := L2.rIxT K) (by exact ix_tup) (pv 2) (pe_un un_neg pe_int) (fun _ _ => rfl)) (nomark _))))))
        (pss_one (ps_ret pe_bl))
        pss_nil)
      (pss_cons (ps_set (i := 6) scUR.nd rfl (Or.inr rfl) (pe_call GLL (hr.mono (by decide)) (by rfl) gLL kLL bLL .nil pass0 (pa_cons (pv 4) pa_nil)))
      (pss_cons (ps_for PassesOwn.never rfl (pi_range2 (by rfl) T.range (pa_cons (pe_callB call_len_seq (by rfl) T.len PySem.boot_len (pa_cons (pe_call GLL (hr.mono (by decide)) (by rfl) gLL kLL bLL .nil pass0 (pa_cons (pv 2) pa_nil)) pa_nil)) (pa_cons (pe_callB call_len_seq (by rfl) T.len PySem.boot_len (pa_cons (pv 6) pa_nil)) pa_nil))) (pg_name (i := 7) scUR.nd rfl (Or.inr rfl))
        (pss_one (ps_if (pt_cmpR (op_neD hr.units) (pe_lc (own := [("_law_clause", 8)]) (g := gName 8) rfl scUR.nd (pi_list (pv 1)) (blkOk_by (N := nUR) (sc := defScope sLUnitsRight) (by decide +kernel)) (fun _ _ _ _ _ => pg_name (i := 8) scUR.nd rfl (Or.inl rfl)) (fun _ _ _ _ _ => pts_one (pt_val (pe_call GAF (hr.mono (by decide)) (by rfl) gAF kAF bAF .nil pass0 (pa_cons (pv 8) (pa_cons (pe_slice (r := L2.rSlL K) (by exact sl_list) (pv 6) po_none (po_some (pv 7))) pa_nil))))) (fun _ _ _ _ _ => pe_int)) (pe_lst pa_nil) (nomark _))
          (pss_one (ps_ret pe_bl))
          pss_nil)))
      (pss_cons (ps_set (i := 9) scUR.nd rfl (Or.inr rfl) (pe_call GLL (hr.mono (by decide)) (by rfl) gLL kLL bLL .nil pass0 (pa_cons (pv 4) pa_nil)))
      (pss_cons (ps_if (pt_cmpR op_notN (pv 5) pe_non (nomark _))
        (pss_one (ps_ret (pe_and (pe_call GIX (hr.mono (by decide)) (by rfl) gIX kIX bIX .nil pass0 (pa_cons (pv 5) (pa_cons (pe_callB call_len_seq (by rfl) T.len PySem.boot_len (pa_cons (pv 1) pa_nil)) pa_nil))) (pe_one (pe_cmpR (op_eqD hr.units) (pe_lc (own := [("_law_number", 10)]) (g := gName 10) rfl scUR.nd (pi_tup (pe_ix ix_list (pv 1) (pv 5) (fun _ _ => rfl))) (blkOk_by (N := nUR) (sc := defScope sLUnitsRight) (by decide +kernel)) (fun _ _ _ _ _ => pg_name (i := 10) scUR.nd rfl (Or.inl rfl)) (fun _ _ _ _ _ => pts_one (pt_cmpR (r := rIn K true) (by exact op_notIn_seq) (pe_un un_neg (pv 10)) (pv 9) (by rfl))) (fun _ _ _ _ _ => pe_int)) (pe_lst pa_nil) (nomark _))))))
        pss_nil)
      (pss_cons (ps_for PassesOwn.never rfl (pi_list (pv 1)) (pg_name (i := 8) scUR.nd rfl (Or.inl rfl))
        (pss_cons (ps_setLc (i := 11) (own := [("_law_number", 10)]) (g := gName 10) (by rfl) scUR.nd rfl rfl (sw_true rfl rfl rfl (by decide +kernel)) (pi_tup (pv 8)) (blkOk_by (N := nUR) (sc := defScope sLUnitsRight) (by decide +kernel)) (fun _ _ _ _ _ => pg_name (i := 10) scUR.nd rfl (Or.inl rfl)) (fun _ _ _ _ _ => pts_one (pt_cmpR (r := rIn K true) (by exact op_notIn_seq) (pe_un un_neg (pv 10)) (pv 9) (by rfl))) (fun _ _ _ _ _ => (pv 10)))
        (pss_one (ps_if (PW.pt (pw_or (pt_cmpR op_eq (pe_callB call_len_seq (by rfl) T.len PySem.boot_len (pa_cons (pv 11) pa_nil)) pe_int (nomark _)) (pw_or1 (PW.pt (pw_and (pt_cmpR op_eq (pe_callB call_len_seq (by rfl) T.len PySem.boot_len (pa_cons (pv 11) pa_nil)) pe_int (nomark _)) (pw_and1 (pt_cmpR (r := rIn K true) (by exact op_notIn_seq) (pe_ix ix_list (pv 11) pe_int (fun _ _ => rfl)) (pv 9) (by rfl))))))))
          (pss_one (ps_ret pe_bl))
          pss_nil))))
      (pss_one (ps_ret pe_bl)))))))))), ?_⟩
    refine ⟨_, rfl, _, _, _, _, _, rfl, .ty _, ty_tup (SqT.of hpp), kt, _, rfl, goF rfl ⟨_, rfl, pp, _, rfl, .inr (SqT.of hpp), rfl, _, rfl, goF neF ⟨_, rfl, _, rfl, _, rfl, pp, _, 0, _, rfl, rfl, SqT.of hpp, at_of (j := 0) rfl rfl, m, r, _, us, R, trD (ts ++ [l']), rfl, hR, au, cz, tr_dp hT', sh_tr _, big1, big2, fun H1 s1 => ⟨_, rfl, ?_⟩⟩⟩⟩
    refine goF (congrArg not (StM.trail M)) ?_
    refine ⟨_, rfl, pp, _, rfl, SqT.of (s1 _ _ hpp), rfl, _, _, rfl, _, _, rfl, rfl, ?_⟩
    have ht1 := seqT_same s1 ht
    have ht1' := seqT_same s1 ht'
    have ha1 := seqT_same s1 ha
    have ha1' := seqT_same s1 ha'
    have hT1 := hT.firm (Firm.of s1)
    have hT1' := hT'.firm (Firm.of s1)
    have au1 := au.imp fun _ _ h => h.firm (Firm.of s1)
    have aV1 := aV.imp fun _ _ h => h.firm (Firm.of s1)
    have aV1' := aV'.imp fun _ _ h => h.firm (Firm.of s1)
    have ae1 := ae.imp fun _ _ h => h.firm (Firm.of s1)
    have ae1' := ae'.imp fun _ _ h => h.firm (Firm.of s1)
    refine ⟨_, rfl, t', _, rfl, .inr ht1', _, rfl, t, _, rfl, .inr ht1, rfl, _, rfl, goF (by rw [List.length_append, List.length_append, vl, vl']; exact neF) ?_⟩
    refine ⟨_, rfl, _, rfl, _, rfl, init_use ht1' (by rw [List.length_append]; exact Nat.le_add_left _ _) fun p2 H2 s2 h2 => ⟨_, rfl, _, rfl, _, rfl, init_use (seqT_same s2 ht1) (by rw [List.length_append]; exact Nat.le_add_left _ _) fun p3 H3 s3 h3 => ?_⟩⟩
    rw [List.dropLast_concat] at h2 h3
    have s23 := s2.trans s3
    refine ⟨_, _, .tup (seqT_same s3 h2) (lvs_dp (aV1'.imp fun _ _ h => h.firm (Firm.of s23))), .tup h3 (lvs_dp (aV1.imp fun _ _ h => h.firm (Firm.of s23))), sh_tr _, sh_tr _, _, rfl, ?_⟩
    refine goF (congrArg not (SeqAt.eqv_refl (trD ts) (SeqAt.canLay_of_shaped (sh_tr _)))) ?_
    refine ⟨_, rfl, _, rfl, t', _, _, _, rfl, rfl, seqT_same s23 ht1', at_end, _, rfl, _, rfl, t, _, _, _, rfl, rfl, seqT_same s23 ht1, at_end, a, es, rfl, .inr (seqT_same s23 ha1), _, rfl, to_use (seqT_same s23 ha1') fun p4 H4 s4 h4 => ?_⟩
    have s24 := s23.trans s4
    refine ⟨_, rfl, _, rfl, t, _, _, _, rfl, rfl, seqT_same s24 ht1, at_end, _, _, .tup h4 (ens_dp ((ae1'.take es.length).imp fun _ _ h => h.firm (Firm.of s24))), .tup (seqT_same s24 ha1) (ens_dp (ae1.imp fun _ _ h => h.firm (Firm.of s24))), sh_lv _, sh_lv _, _, rfl, ?_⟩
    have elt : l'.take es.length = l := by rw [el, e1, List.take_append_of_le_length (Nat.le_refl _), List.take_length]
    rw [elt]
    refine goF (congrArg not (SeqAt.eqv_refl (lvD l) (SeqAt.canLay_of_shaped (sh_lv _)))) ?_
    have s14 := s1.trans s24
    have hT4 := hT1.firm (Firm.of s24)
    have hT4' := hT1'.firm (Firm.of s24)
    clear ht1 ht1' ha1 ha1' hT1 hT1' au1 aV1 aV1' ae1 ae1' h2 h3 h4 s2 s3 s4 s23 s24 s1
    refine ⟨_, rfl, t', _, rfl, hT4', by omega, fun H5 L s5 hL => ?_⟩
    refine ⟨_, rfl, t, _, rfl, hT4.firm (Firm.of s5), by omega, fun H6 L2 s6 hL2 => ⟨L2, _, rfl, .inl (SqL.of hL2), _, rfl, L, _, rfl, .inl (SqL.of (s6 _ _ hL)), ?_⟩⟩
    rw [List.length_map, List.length_map]
    have s16 := s14.trans (s5.trans s6)
    have hL6 := s6 _ _ hL
    have hT6' := hT4'.firm (Firm.of (s5.trans s6))
    clear s14 hT4 hT4' s5 s6 hL hL2
    refine ⟨_, _, rfl, ⟨by omega, by omega, by omega, by omega⟩, for_range (lo := ((litsM (ts ++ [l])).length : Int)) (n := (((litsM (ts ++ [l'])).length : Int) - ((litsM (ts ++ [l])).length : Int)).toNat)
      (fun k σ H' => ∃ x7 : Option V, σ = [some (.int (m : Nat)), some (.ref r), some (.ref t), some (.ref pp), some (.ref t'), some (rV n'), some (.ref L), x7, none, none, none, none] ∧ Same H6 H') ⟨_, rfl, Same.refl _⟩ ?_ ?_⟩
    · rintro k σ H7 hk ⟨x7, rfl, s7⟩
      have s17 := s16.trans s7
      refine ⟨_, rfl, r, rfl, ⟨_, s17.seq hR⟩, fun D nD => ?_⟩
      refine lc_list (K := K) (a := r) (xs := us) (fun i H8 => Same H7 H8 ∧ H8 D = some (.lst [])) ⟨same_new nD, upd_same⟩ (fun i H8 _ ⟨s8, _⟩ => (s17.trans s8).seq hR) ?_ ?_
      · rintro i y H8 hi ⟨s8, hD⟩
        obtain ⟨cl, hcl, ac, rfl, hac⟩ := au.get hi
        have cm := List.mem_of_getElem? hcl
        refine ⟨rfl, ?_⟩
        refine ⟨_, rfl, _, rfl, _, rfl, _, rfl, L, _, rfl, SqL.of (s8 _ _ (s7 _ _ hL6)), fun d nd => ?_⟩
        have ep : ((litsM (ts ++ [l])).length : Int) + (k : Int) = (((litsM (ts ++ [l])).length + k : Nat) : Int) := by omega
        have sd := same_new (u := .lst (cutV ((litsM (ts ++ [l'])).map V.int) none (some (((litsM (ts ++ [l])).length : Int) + (k : Int))))) nd
        refine ⟨ac, d, cl, (litsM (ts ++ [l'])).take ((litsM (ts ++ [l])).length + k), rfl, seqT_same (s17.trans (s8.trans sd)) hac, SqL.of ?_, cz cl cm, fun H9 s9 => ⟨_, rfl, ?_⟩⟩
        · rw [upd_same, ep, cut_to, List.map_take]
        · refine goF (decide_eq_false (pre _ (by omega) (by omega) cl cm)) ⟨s8.trans (sd.trans s9), (sd.trans s9) _ _ hD⟩
      rintro H8 ⟨s8, hD⟩
      refine ⟨len0, fun e0 n0 => ?_⟩
      have s9 := same_new (u := .lst []) n0
      exact ⟨.list [], .list [], .lst (SqL.of (s9 _ _ hD)) .nil, .lst (SqL.of upd_same) .nil, by decide +kernel, by decide +kernel, _, rfl, goF rfl ⟨_, rfl, s7.trans (s8.trans s9)⟩⟩
    rintro σ H7 ⟨x7, rfl, s7⟩
    refine ⟨_, rfl, t', _, rfl, hT6'.firm (Firm.of s7), by omega, fun H8 L3 s8 hL3 => ?_⟩
    have s18 := s16.trans (s7.trans s8)
    clear hL6 hT6' s16 s7 s8
    refine ⟨_, rfl, rfl, _, rfl, ?_⟩
    cases n' with
    | some n =>
      obtain ⟨c0, hc0, lf⟩ := ask_at ak
      obtain ⟨y0, hy0, a0, rfl, ha0⟩ := au.get' hc0
      have nl := (List.getElem?_eq_some_iff.mp hc0).1
      have ix0 : idxB (.int ((n : Nat) : Int)) (us.length : Int) = true := by
        show (decide ((0 : Int) ≤ n) && decide ((n : Int) < us.length)) = true
        rw [decide_eq_true (by omega : (0 : Int) ≤ n), decide_eq_true (by omega)]
        rfl
      refine goT (neT fun z => by cases z) ⟨_, rfl, _, rfl, r, us, rfl, .inl (s18.seq hR), _, .int _, _, rfl, .int _, _, rfl, goT ix0 ⟨_, rfl, _, rfl, r, us, _, _, rfl, rfl, s18.seq hR, at_of (j := n) rfl hy0, a0, rfl, ⟨_, seqT_same s18 ha0⟩, fun D nD => ?_⟩⟩
      refine lc_tup (K := K) (a := a0) (xs := c0.map V.int) (fun i H9 => Same H8 H9 ∧ H9 D = some (.lst [])) ⟨same_new nD, upd_same⟩ (fun i H9 _ ⟨s9, _⟩ => seqT_same (s18.trans s9) ha0) ?_ ?_
      · rintro i y H9 hi ⟨s9, hD⟩
        rw [List.getElem?_map] at hi
        obtain ⟨o, ho, rfl⟩ : ∃ o, c0[i]? = some o ∧ y = .int o := by
          cases e : c0[i]? with
          | none => rw [e] at hi; cases hi
          | some o => rw [e] at hi; exact ⟨o, rfl, (Option.some.inj hi).symm⟩
        refine ⟨rfl, ?_⟩
        refine ⟨_, rfl, _, rfl, _, rfl, L3, _, rfl, .inl (SqL.of (s9 _ _ hL3)), rfl, all_flat _, _, rfl, ?_⟩
        have e2 : (if true = true then !inV (V.int (-o)) ((litsM (ts ++ [l'])).map V.int) else inV (V.int (-o)) ((litsM (ts ++ [l'])).map V.int)) = !decide (-o ∈ litsM (ts ++ [l'])) := congrArg not (in_ints (-o) _)
        rw [e2, decide_eq_true (left_nil lf (List.mem_of_getElem? ho))]
        exact goF rfl ⟨s9, hD⟩
      rintro H9 ⟨s9, hD⟩
      refine ⟨len0, fun e0 n0 => ?_⟩
      have s10 := same_new (u := .lst []) n0
      exact ⟨.list [], .list [], .lst (SqL.of (s10 _ _ hD)) .nil, .lst (SqL.of upd_same) .nil, by decide +kernel, by decide +kernel, q _ (s18.trans (s9.trans s10))⟩
    | none =>
      have dn := ask_done R 0 ak
      refine goF neF ⟨_, rfl, r, rfl, ⟨_, s18.seq hR⟩, for_list (K := K) (a := r) (xs := us)
        (fun k σ H' => ∃ (x7 x8 x11 : Option V), σ = [some (.int (m : Nat)), some (.ref r), some (.ref t), some (.ref pp), some (.ref t'), some (rV none), some (.ref L), x7, x8, some (.ref L3), none, x11] ∧ Same H8 H')
        ⟨_, _, _, rfl, Same.refl _⟩ (fun k σ H' _ ⟨_, _, _, _, s⟩ => (s18.trans s).seq hR) ?_ ?_⟩
      · rintro k y σ H9 hy ⟨x7, x8, x11, rfl, s9⟩
        obtain ⟨cl, hcl, ac, rfl, hac⟩ := au.get hy
        have cm := List.mem_of_getElem? hcl
        obtain ⟨d1, d2⟩ := dn cl cm
        have s19 := s18.trans s9
        refine ⟨_, rfl, ac, rfl, ⟨_, seqT_same s19 hac⟩, fun D nD => ?_⟩
        have czl := cz cl cm
        refine lc_tup (K := K) (a := ac) (xs := cl.map V.int) (fun i H2 => Same H9 H2 ∧ H2 D = some (.lst ((leftM (litsM (ts ++ [l'])) (cl.take i)).map V.int))) ⟨same_new nD, upd_same⟩ (fun i H2 _ ⟨s2, _⟩ => seqT_same (s19.trans s2) hac) ?_ ?_
        · rintro i y H2 hi ⟨s2, hD⟩
          rw [List.getElem?_map] at hi
          obtain ⟨o, ho, rfl⟩ : ∃ o, cl[i]? = some o ∧ y = .int o := by
            cases e : cl[i]? with
            | none => rw [e] at hi; cases hi
            | some o => rw [e] at hi; exact ⟨o, rfl, (Option.some.inj hi).symm⟩
          refine ⟨rfl, ?_⟩
          refine ⟨_, rfl, _, rfl, _, rfl, L3, _, rfl, .inl (SqL.of (s2 _ _ (s9 _ _ hL3))), rfl, all_flat _, _, rfl, ?_⟩
          have e2 : (if true = true then !inV (V.int (-o)) ((litsM (ts ++ [l'])).map V.int) else inV (V.int (-o)) ((litsM (ts ++ [l'])).map V.int)) = !decide (-o ∈ litsM (ts ++ [l'])) := congrArg not (in_ints (-o) _)
          unfold leftM at hD ⊢
          rw [e2, take_more ho, List.filter_append, List.map_append]
          refine ite2 (fun c2 => ?_) (fun c2 => ?_)
          · refine ⟨_, rfl, _, hD, ?_, fun c o e => ?_, ?_⟩
            · rw [List.length_map]
              exact Nat.lt_of_le_of_lt (Nat.le_trans (List.length_filter_le _ _) (by rw [List.length_take]; omega : _ ≤ 1000)) (by decide)
            · rw [upd_ne (ne_of_none e nD)]
              exact s2 _ _ e
            · rw [upd_same, List.filter_cons_of_pos (p := fun o => !decide (-o ∈ litsM (ts ++ [l']))) c2]
              rfl
          · rw [List.filter_cons_of_neg (p := fun o => !decide (-o ∈ litsM (ts ++ [l']))) c2]
            refine ⟨s2, ?_⟩
            rw [hD]
            exact congrArg (fun x => some (HO.lst x)) (List.append_nil _).symm
        rintro H2 ⟨s2, hD⟩
        rw [List.length_map, List.take_length] at hD
        have hL9 := s2 _ _ (s9 _ _ hL3)
        generalize leftM (litsM (ts ++ [l'])) cl = lf at hD d1 d2
        refine ⟨_, rfl, D, _, rfl, .inl (SqL.of hD), rfl, _, rfl, ?_⟩
        cases lf with
        | nil => exact absurd rfl d1
        | cons z zs =>
        refine goF (decide_eq_false fun e => by have := V.int.inj e; rw [List.length_map, List.length_cons] at this; omega) ⟨_, rfl, D, _, rfl, .inl (SqL.of hD), rfl, _, rfl, ite2 (fun c => ?_) (fun c => ?_)⟩
        · have c := V.int.inj (of_decide_eq_true c)
          rw [List.length_map, List.length_cons] at c
          obtain rfl : zs = [] := List.eq_nil_of_length_eq_zero (by omega)
          have zm := d2 z rfl
          refine ⟨_, rfl, D, _, 0, _, rfl, rfl, SqL.of hD, at_of (j := 0) rfl rfl, _, rfl, L3, _, rfl, .inl (SqL.of hL9), rfl, all_flat _, _, rfl, ?_⟩
          have e2 : (if true = true then !inV (V.int z) ((litsM (ts ++ [l'])).map V.int) else inV (V.int z) ((litsM (ts ++ [l'])).map V.int)) = !decide (z ∈ litsM (ts ++ [l'])) := congrArg not (in_ints z _)
          refine goF (e2.trans (by rw [decide_eq_true zm]; rfl)) ⟨_, _, _, rfl, s9.trans s2⟩
        · exact iteF ⟨_, _, _, rfl, s9.trans s2⟩
      · rintro σ H9 ⟨x7, x8, x11, rfl, s9⟩
        exact q _ (s18.trans s9)
end
end Tz
namespace Tv
open PySem PySem.Spec PyProof.Rows L2 Pen Dat Ki Fi Gr No Lf Cm Cn Abk Ack Tr Ta Tb Tc Td Sm Sn So Spm Sqm Te Tg Th Tj Tk Tq Tw Ty Tz
/-! ## k27: what learnt tells is right -/
/-- the numbers of a trail, each with its level's place -/
def plM : Nat → Trail → List (Int × Nat)
  | _, [] => []
  | k, l :: t => (l.map fun e => (e.1, k)) ++ plM (k + 1) t
def plD (ps : List (Int × Nat)) : HO := .dK (ps.map fun p => (Sum.inl p.1, V.int (p.2 : Nat)))
def look : List (Int × Nat) → Int → Option Nat
  | [], _ => none
  | p :: r, w => if p.1 = w then some p.2 else look r w
theorem val_pl (ps : List (Int × Nat)) (w : Int) : valV (ps.map fun p => ((Sum.inl p.1 : Key), V.int (p.2 : Nat))) (Sum.inl w) = (look ps w).map fun k => V.int (k : Nat) := by
  induction ps with
  | nil => rfl
  | cons p r ih =>
    rw [List.map_cons]
    show _ = (if p.1 = w then some p.2 else look r w).map _
    by_cases c : p.1 = w
    · rw [valV_pos (by rw [c]), if_pos c]
      rfl
    · rw [valV_neg (fun e => c (Sum.inl.inj e)), ih, if_neg c]
theorem get_pl {H : Hp} {d : Addr} {ps : List (Int × Nat)} (h : H d = some (plD ps)) (w : Int) : DGet H d (.int w) ((look ps w).map fun k => V.int (k : Nat)) := by
  rw [← val_pl]
  exact DGet.k (k := .inl w) h
theorem look_none {ps : List (Int × Nat)} {w : Int} (h : ¬ w ∈ ps.map Prod.fst) : look ps w = none := by
  induction ps with
  | nil => rfl
  | cons p r ih =>
    rw [List.map_cons, List.mem_cons, not_or] at h
    show (if p.1 = w then some p.2 else look r w) = none
    rw [if_neg fun e => h.1 e.symm, ih h.2]
theorem look_some {ps : List (Int × Nat)} {w : Int} (h : w ∈ ps.map Prod.fst) : ∃ k, look ps w = some k ∧ (w, k) ∈ ps := by
  induction ps with
  | nil => cases h
  | cons p r ih =>
    show ∃ k, (if p.1 = w then some p.2 else look r w) = some k ∧ _
    by_cases c : p.1 = w
    · rw [if_pos c]
      exact ⟨p.2, rfl, by rw [← c]; exact List.mem_cons_self⟩
    · rw [if_neg c]
      rw [List.map_cons, List.mem_cons] at h
      obtain ⟨k, h1, h2⟩ := ih (h.resolve_left fun e => c e.symm)
      exact ⟨k, h1, List.mem_cons_of_mem _ h2⟩
theorem put_pl {H : Hp} {d : Addr} {ps : List (Int × Nat)} (h : H d = some (plD ps)) {w : Int} {k : Nat} (nw : ¬ w ∈ ps.map Prod.fst) (hz : ps.length < sizeLine) : DPut H d (.int w) (.int (k : Nat)) (upd H d (plD (ps ++ [(w, k)]))) := by
  have := DPut.k (k := .inl w) (v := V.int (k : Nat)) h (by rw [List.length_map]; exact hz)
  rw [putK_new _ (by rw [val_pl, look_none nw]; rfl)] at this
  have e : plD (ps ++ [(w, k)]) = .dK ((ps.map fun p => ((Sum.inl p.1 : Key), V.int (p.2 : Nat))) ++ [(Sum.inl w, V.int (k : Nat))]) := by
    unfold plD
    rw [List.map_append]
    rfl
  rw [e]
  exact this
theorem pl_fst : ∀ (k : Nat) (t : Trail), (plM k t).map Prod.fst = litsM t
  | _, [] => rfl
  | k, l :: t => by
    show ((l.map fun e => (e.1, k)) ++ plM (k + 1) t).map Prod.fst = _
    rw [List.map_append, pl_fst (k + 1) t, List.map_map]
    unfold litsM
    rw [List.flatten_cons, List.map_append]
    rfl
theorem pl_snoc : ∀ (k : Nat) (t : Trail) (l : Level), plM k (t ++ [l]) = plM k t ++ l.map fun e => (e.1, k + t.length)
  | k, [], l => by
    show (l.map fun e => (e.1, k)) ++ [] = [] ++ _
    rw [List.append_nil]
    rfl
  | k, x :: t, l => by
    show (x.map fun e => (e.1, k)) ++ plM (k + 1) (t ++ [l]) = ((x.map fun e => (e.1, k)) ++ plM (k + 1) t) ++ _
    rw [pl_snoc (k + 1) t l, List.append_assoc, List.length_cons, show k + 1 + t.length = k + (t.length + 1) by omega]
theorem pl_mem : ∀ {k : Nat} {t : Trail} {w : Int} {j : Nat}, (w, j) ∈ plM k t → ∃ i l, j = k + i ∧ t[i]? = some l ∧ w ∈ l.map Prod.fst
  | k, l :: t, w, j, h => by
    rcases List.mem_append.mp (show (w, j) ∈ (l.map fun e => (e.1, k)) ++ plM (k + 1) t from h) with g | g
    · obtain ⟨e, he, q⟩ := List.mem_map.mp g
      obtain ⟨q1, q2⟩ := Prod.mk.inj q
      exact ⟨0, l, by omega, rfl, List.mem_map.mpr ⟨e, he, q1⟩⟩
    · obtain ⟨i, x, h1, h2, h3⟩ := pl_mem g
      exact ⟨i + 1, x, by omega, by rw [List.getElem?_cons_succ]; exact h2, h3⟩
/-- the level of a number -/
def lvOf (T : Trail) (y : Int) : Nat := (look (plM 0 T) (-y)).getD 0
theorem lv_of {T : Trail} {y : Int} (h : -y ∈ litsM T) : look (plM 0 T) (-y) = some (lvOf T y) ∧ ∃ l, T[lvOf T y]? = some l ∧ -y ∈ l.map Prod.fst := by
  obtain ⟨k, h1, h2⟩ := look_some (ps := plM 0 T) (by rw [pl_fst]; exact h)
  have e : lvOf T y = k := by
    unfold lvOf
    rw [h1]
    rfl
  obtain ⟨i, l, g1, g2, g3⟩ := pl_mem h2
  obtain rfl : k = i := by omega
  rw [e]
  exact ⟨h1, l, g2, g3⟩
/-- a number stands in one level alone -/
theorem one_level {m : Nat} {T : Trail} (t : TOk m (litsM T)) {i j : Nat} {a b : Level} {w : Int} (ha : T[i]? = some a) (hb : T[j]? = some b) (wa : w ∈ a.map Prod.fst) (wb : w ∈ b.map Prod.fst) : i = j := by
  have no : ∀ {i j : Nat} {a b : Level}, T[i]? = some a → T[j]? = some b → w ∈ a.map Prod.fst → w ∈ b.map Prod.fst → i < j → False := by
    intro i j a b ha hb wa wb lt
    have e := lits_take hb
    have tk := t
    rw [lits_pre (j + 1), e, List.append_assoc] at tk
    have ain : w ∈ litsM (T.take j) := by
      unfold litsM
      obtain ⟨x, hx, q⟩ := List.mem_map.mp wa
      refine List.mem_map.mpr ⟨x, List.mem_flatten.mpr ⟨a, List.mem_of_getElem? (i := i) ?_, hx⟩, q⟩
      rw [List.getElem?_take_of_lt lt]
      exact ha
    exact apart tk ain (List.mem_append_left _ wb) rfl
  rcases Nat.lt_trichotomy i j with g | g | g
  · exact (no ha hb wa wb g).elim
  · exact g
  · exact (no hb ha wb wa g).elim
/-- the last but one of numbers in order, the greatest of which stands there once -/
theorem top2 {S : List Int} {L v : Int} (up : S.Pairwise (· ≤ ·)) (one : (S.filter fun s => decide (s = L)).length = 1) (le : ∀ s ∈ S, s ≤ L) (vm : v ∈ S) (vl : v < L) (mx : ∀ s ∈ S, s < L → s ≤ v) : ∃ B, S = B ++ [v, L] := by
  obtain ⟨A, x, rfl⟩ : ∃ A x, S = A ++ [x] := by
    rcases List.eq_nil_or_concat S with e | ⟨A, x, e⟩
    · rw [e] at vm
      cases vm
    · exact ⟨A, x, by rw [e, List.concat_eq_append]⟩
  obtain ⟨p1, p2, p3⟩ := List.pairwise_append.mp up
  have Lm : L ∈ A ++ [x] := by
    obtain ⟨y, hy⟩ := List.exists_mem_of_length_pos (by rw [one]; exact Nat.one_pos : 0 < ((A ++ [x]).filter fun s => decide (s = L)).length)
    obtain ⟨h1, h2⟩ := List.mem_filter.mp hy
    rw [← of_decide_eq_true h2]
    exact h1
  have xL : x = L := by
    have h1 := le x (List.mem_append_right _ (List.mem_singleton.mpr rfl))
    rcases List.mem_append.mp Lm with g | g
    · have := p3 L g x (List.mem_singleton.mpr rfl)
      omega
    · exact (List.mem_singleton.mp g).symm
  subst xL
  have nA : ∀ s ∈ A, s ≠ x := fun s hs e => by
    rw [List.filter_append, List.length_append, List.filter_cons_of_pos (by simp)] at one
    have : 0 < (A.filter fun s => decide (s = x)).length := List.length_pos_of_mem (List.mem_filter.mpr ⟨hs, decide_eq_true e⟩)
    rw [List.filter_nil, List.length_singleton] at one
    omega
  have vA : v ∈ A := by
    rcases List.mem_append.mp vm with g | g
    · exact g
    · have := List.mem_singleton.mp g
      omega
  obtain ⟨B, w, rfl⟩ : ∃ B w, A = B ++ [w] := by
    rcases List.eq_nil_or_concat A with e | ⟨B, w, e⟩
    · rw [e] at vA
      cases vA
    · exact ⟨B, w, by rw [e, List.concat_eq_append]⟩
  have wm : w ∈ B ++ [w] := List.mem_append_right _ (List.mem_singleton.mpr rfl)
  have w1 : v ≤ w := by
    rcases List.mem_append.mp vA with g | g
    · exact (List.pairwise_append.mp p1).2.2 v g w (List.mem_singleton.mpr rfl)
    · rw [List.mem_singleton.mp g]
      exact Int.le_refl _
  have w2 := le w (List.mem_append_left _ wm)
  have w3 := nA w wm
  have w4 := mx w (List.mem_append_left _ wm) (by omega)
  obtain rfl : v = w := by omega
  exact ⟨B, by rw [List.append_assoc]; rfl⟩
theorem at_two {B : List V} {x y : V} : atI (B ++ [x, y]) (-2) = some x := by
  unfold atI
  have e : ixN (B ++ [x, y]).length (-2) = some B.length := by
    unfold ixN
    rw [List.length_append, show [x, y].length = 2 from rfl, if_neg (by decide), if_pos (by omega)]
    exact congrArg some (by omega)
  rw [e]
  show (B ++ [x, y])[B.length]? = _
  rw [List.getElem?_append_right (Nat.le_refl _), Nat.sub_self]
  rfl
theorem filter_one {p : Int → Bool} {z : Int} : ∀ {l : List Int}, l.Nodup → z ∈ l → p z = true → (∀ y ∈ l, p y = true → y = z) → l.filter p = [z]
  | [], _, h, _, _ => by cases h
  | x :: l, nd, h, pz, on => by
    obtain ⟨n1, n2⟩ := List.nodup_cons.mp nd
    by_cases c : x = z
    · subst c
      rw [List.filter_cons_of_pos pz]
      have : l.filter p = [] := List.filter_eq_nil_iff.mpr fun y hy e => by
        have := on y (List.mem_cons_of_mem _ hy) e
        rw [this] at hy
        exact n1 hy
      rw [this]
    · have nx : ¬ p x = true := fun e => c (on x List.mem_cons_self e)
      rw [List.filter_cons_of_neg nx]
      exact filter_one n2 ((List.mem_cons.mp h).resolve_left fun e => c e.symm) pz fun y hy => on y (List.mem_cons_of_mem _ hy)
/-- all that the levels of a learnt clause tell -/
theorem levels_ok {m : Nat} {R : CRow} {ts : Trail} {l : Level} {hs S : List Int} (s : StM NoM m R ts l) (v : Iv NoM (litsM ts) l l.length hs) (pm : S.Perm ((byAbs hs).map fun y => (lvOf (ts ++ [l]) y : Int))) (up : S.Pairwise (· ≤ ·)) :
    (S.filter fun x => decide (x = (ts.length : Int))).length = 1 ∧ S.length = hs.length ∧ (1 < S.length → ∃ B, S = B ++ [(lvM hs ts ts.length : Int), (ts.length : Int)]) ∧ (¬ 1 < S.length → lvM hs ts ts.length = 0) := by
  have tk := StM.held s v
  have tT := s.tok
  have hy : ∀ y ∈ hs, -y ∈ litsM (ts ++ [l]) := fun y h => by
    rw [lits_snoc]
    exact v.op y h
  have hl : (ts ++ [l])[ts.length]? = some l := at_last ts l
  obtain ⟨z, z1, z2, z3⟩ := iv_one v
  have lz : lvOf (ts ++ [l]) z = ts.length := by
    obtain ⟨_, a, ha, hb⟩ := lv_of (hy z z1)
    exact one_level tT ha hl hb z2
  have lo : ∀ y ∈ hs, y ≠ z → lvOf (ts ++ [l]) y < ts.length ∧ ∃ a, ts[lvOf (ts ++ [l]) y]? = some a ∧ -y ∈ a.map Prod.fst := fun y h ne => by
    obtain ⟨_, a, ha, hb⟩ := lv_of (hy y h)
    obtain ⟨lt, _⟩ := List.getElem?_eq_some_iff.mp ha
    rw [List.length_append] at lt
    have lt : lvOf (ts ++ [l]) y < ts.length + 1 := lt
    rcases Nat.lt_or_ge (lvOf (ts ++ [l]) y) ts.length with g | g
    · rw [List.getElem?_append_left g] at ha
      exact ⟨g, a, ha, hb⟩
    · have e : lvOf (ts ++ [l]) y = ts.length := by omega
      rw [e, hl] at ha
      rw [← Option.some.inj ha] at hb
      exact absurd (z3 y h hb) ne
  have len : S.length = hs.length := by
    rw [pm.length_eq, List.length_map, (by_perm hs).length_eq]
  have mem : ∀ x, x ∈ S ↔ ∃ y ∈ hs, (lvOf (ts ++ [l]) y : Int) = x := fun x => by
    rw [pm.mem_iff, List.mem_map]
    exact ⟨fun ⟨y, a, b⟩ => ⟨y, by_mem.mp a, b⟩, fun ⟨y, a, b⟩ => ⟨y, by_mem.mpr a, b⟩⟩
  have one : (S.filter fun x => decide (x = (ts.length : Int))).length = 1 := by
    rw [(pm.filter _).length_eq, List.filter_map, List.length_map]
    rw [filter_one (z := z) (by_tok tk).nodup (by_mem.mpr z1) (by show decide ((lvOf (ts ++ [l]) z : Int) = ts.length) = true; rw [lz]; exact decide_eq_true rfl) fun y h e => ?_]
    · rfl
    · have e : (lvOf (ts ++ [l]) y : Int) = ts.length := of_decide_eq_true e
      by_cases c : y = z
      · exact c
      · have := (lo y (by_mem.mp h) c).1
        omega
  refine ⟨one, len, fun g => ?_, fun g => ?_⟩
  · -- some other number
    obtain ⟨y, yh, yz⟩ : ∃ y ∈ hs, y ≠ z := by
      refine Classical.byContradiction fun no => ?_
      have all : ∀ y ∈ hs, y = z := fun y h => Classical.byContradiction fun n => no ⟨y, h, n⟩
      have nd := v.nd
      match hs, g, len, all, nd with
      | [], g, len, _, _ =>
        rw [len] at g
        exact absurd g (by show ¬ 1 < 0; omega)
      | [_], g, len, _, _ =>
        rw [len] at g
        exact absurd g (Nat.lt_irrefl 1)
      | a :: b :: r, _, _, all, nd =>
        have e1 := all a List.mem_cons_self
        have e2 := all b (List.mem_cons_of_mem _ List.mem_cons_self)
        have := (List.nodup_cons.mp nd).1
        rw [e1, ← e2] at this
        exact this List.mem_cons_self
    obtain ⟨q1, a, q2, q3⟩ := lo y yh yz
    obtain ⟨x, x1, x2⟩ := lv_held (hs := hs) (tr := ts) ts.length (Nat.le_refl _) ⟨_, a, q1, q2, List.ne_nil_of_mem (held_mem.mpr ⟨yh, q3⟩)⟩
    obtain ⟨u, hu⟩ := List.exists_mem_of_ne_nil _ x2
    obtain ⟨u1, u2⟩ := held_mem.mp hu
    obtain ⟨lt, _⟩ := List.getElem?_eq_some_iff.mp x1
    have ul : lvOf (ts ++ [l]) u = lvM hs ts ts.length := by
      obtain ⟨_, b, hb, hc⟩ := lv_of (hy u u1)
      exact one_level tT hb (by rw [List.getElem?_append_left lt]; exact x1) hc u2
    refine top2 up one (fun w hw => ?_) ((mem _).mpr ⟨u, u1, by rw [ul]⟩) (by omega) fun w hw wl => ?_
    · obtain ⟨y, h, rfl⟩ := (mem w).mp hw
      by_cases c : y = z
      · rw [c, lz]
        exact Int.le_refl _
      · have := (lo y h c).1
        omega
    · obtain ⟨y, h, rfl⟩ := (mem w).mp hw
      have c : y ≠ z := fun c => by
        rw [c, lz] at wl
        omega
      obtain ⟨b1, b, b2, b3⟩ := lo y h c
      rcases Nat.lt_or_ge (lvM hs ts ts.length) (lvOf (ts ++ [l]) y) with k | k
      · have := lv_none (hs := hs) ts.length _ b b1 k b2
        have m1 := held_mem.mpr ⟨h, b3⟩
        rw [this] at m1
        cases m1
      · omega
  · refine lv_zero _ fun i x hi hx => ?_
    cases e : heldM hs x with
    | nil => rfl
    | cons u us =>
      have hu : u ∈ heldM hs x := by
        rw [e]
        exact List.mem_cons_self
      obtain ⟨u1, u2⟩ := held_mem.mp hu
      have uz : u = z := by
        match hs, len, u1, z1 with
        | [a], _, u1, z1 => rw [List.mem_singleton.mp u1, List.mem_singleton.mp z1]
        | a :: b :: r, len, _, _ => exact absurd (by rw [len]; show 1 < r.length + 1 + 1; omega) g
      rw [uz] at u2
      have := one_level tT (by rw [List.getElem?_append_left hi]; exact hx) hl u2 z2
      omega
end Tv
namespace Bw
open PySem PySem.Spec PyProof.Rows L2
/-! ## len of a list or a tuple within a comprehension -/
def rLen (K : PySem.W.Frag) : List V → Hp → VK → Prop := fun xs H Q => ∃ p ys, xs = [V.ref p] ∧ (SqL K H p ys ∨ SqT K H p ys) ∧ Q (.int ys.length) H
end Bw
namespace Tp
open PySem PySem.Spec PyProof.Rows L2 Pen Dat Ki Fi Gr No Lf Cm Cn Abk Ack Tr Ta Tb Tc Td Sm Sn So Spm Sqm Te Tg Th Tj Tk Tq Tw Ty Tz Tv
/-! ## k27: learnt is right: the law's look -/
theorem sh_ints (r : List Int) : SeqAt.shaped (.tuple (r.map .int)) = true := by
  obtain ⟨a, b⟩ := Tg.lay_int r
  show (PyData.canLayAll0 (r.map .int) && decide (PyData.depthAll (r.map .int) + 1 ≤ 64)) = true
  rw [a, b]
  rfl
def lnD (n : Nat) (ps : List (Nat × Nat)) : PyData := if ps = [] then .tuple [.str "given", .int (n : Nat)] else .tuple [.str "chain", .int (n : Nat), .tuple (ps.map psD)]
theorem ln_dp {K : PySem.W.Frag} {H : Hp} {y : Addr} {n : Nat} {ps : List (Nat × Nat)} (h : LnAt K H y n ps) : Dp K H (.ref y) (lnD n ps) := by
  unfold lnD
  rcases h with ⟨e, h⟩ | ⟨e, t, vs, h1, h2, h3⟩
  · rw [if_pos e]
    exact .tup (SqT.of h) (.cons (.str _) (.cons (.int _) .nil))
  · rw [if_neg e]
    exact .tup (SqT.of h1) (.cons (.str _) (.cons (.int _) (.cons (.tup (SqT.of h2) (ps_dp h3)) .nil)))
theorem can_given : (PyData.str "given").canLay0 = true := by decide +kernel
theorem can_chain : (PyData.str "chain").canLay0 = true := by decide +kernel
theorem sh_given (n : Nat) : SeqAt.shaped (.tuple [.str "given", .int (n : Nat)]) = true := by
  show (((PyData.str "given").canLay0 && ((PyData.int (n : Nat)).canLay0 && true)) && decide (max (PyData.str "given").depth (max (PyData.int (n : Nat)).depth 0) + 1 ≤ 64)) = true
  rw [can_given]
  rfl
theorem sh_ln (n : Nat) (ps : List (Nat × Nat)) : SeqAt.shaped (lnD n ps) = true := by
  unfold lnD
  split
  · exact sh_given n
  · obtain ⟨a, b⟩ := lay_ps ps
    show ((PyData.str "chain").canLay0 && ((PyData.int (n : Nat)).canLay0 && (PyData.canLayAll0 (ps.map psD) && true)) && decide (max (PyData.str "chain").depth (max (PyData.int (n : Nat)).depth (max (PyData.depthAll (ps.map psD) + 1) 0)) + 1 ≤ 64)) = true
    rw [a, can_chain]
    have e1 : (PyData.str "chain").depth = 0 := rfl
    have e2 : (PyData.int (n : Nat)).depth = 0 := rfl
    rw [e1, e2, decide_eq_true (by omega)]
    rfl
def spLRI (K : PySem.W.Frag) : Sp := fun vs H Q _ => ∃ (m n : Nat) (r t pq y c : Addr) (us : List V) (R : CRow) (ts : Trail) (l : Level) (c0 hs : List Int) (ps : List (Nat × Nat)), vs = [.ref r, .ref t, .int (n : Nat), .ref pq] ∧ SqL K H r us ∧ All2 (ClAt K H) us R ∧ m ≤ 10 ∧ TrAt K H t (ts ++ [l]) ∧
  H pq = some (.tup [.ref y, .ref c, .int (lvM hs ts ts.length : Nat)]) ∧ LnAt K H y n ps ∧ H c = some (.tup ((byAbs hs).map V.int)) ∧ R[n]? = some c0 ∧ Steps R c0 ps hs ∧ Iv NoM (litsM ts) l l.length hs ∧ StM NoM m R ts l ∧ (∀ cl ∈ R, cl.Pairwise fun x y => x.natAbs < y.natAbs) ∧
  ∀ H', Same H H' → Q (.bl true) H'
section
variable {P : Program} {w : World} {K : PySem.W.Frag} {mg : Str → Option Value} {base : Heap} {f : Addr} {fd : FuncData}
abbrev nLRI : List Str := ["_law_row", "_law_trail", "_law_n", "_law_told", "_law_line", "_law_clause", "_law_level", "_law_places", "_law_k", "_law_part", "_law_entry", "_law_number", "_law_levels", "_law_one"]
theorem scLRI : FnScope nLRI ["_law_row", "_law_trail", "_law_n", "_law_told"] (defScope sLLearntRight) := ⟨rfl, rfl, rfl, by decide +kernel, rfl, by decide +kernel, by decide +kernel⟩
theorem ok_lri (F : FnP K "_law_learnt_right" sLLearntRight f fd) (T : Tj.Tx mg)
    {fLO : Addr} {dLO : FuncData}
    (GLO : FnOk P w K mg base CX0 3 fLO dLO ["_law_clauses", "_law_ahead", "_law_line"] (spLO K)) (gLO : mg "_law_line_of" = some (.ref fLO)) (kLO : PySem.W.keepIn K (.ref fLO) = true) (bLO : Binds K dLO ["_law_clauses", "_law_ahead", "_law_line"] [])
    : FnOk P w K mg base CX0 4 f fd ["_law_row", "_law_trail", "_law_n", "_law_told"] (spLRI K) := by
  refine F.ok scLRI (fun vs H Q E h => ?_) (fun cdv A outer s H vs Q E hr h => ?_)
  · obtain ⟨m, n, r, t, pq, y, c, us, R, ts, l, c0, hs, ps, rfl, _⟩ := h
    rfl
  · obtain ⟨m, n, r, t, pq, y, c, us, R, ts, l, c0, hs, ps, rfl, hR, au, m10, ⟨ut, ht, aT⟩, hpq, ln, hc, hc0, sts, iv, M, asc, q⟩ := h
    have hu := hu_of hr
    have tR := M.tk
    have tk := StM.held M iv
    have tb := by_tok tk
    have tbl := tb.len
    have tT := M.tok
    have tTl := tT.len
    have tsl := M.levels
    have ul := au.len
    have utl := aT.len
    have kt : PySem.W.kitOne K (.type "tuple") (.type "tuple") = some true := kit_ty (a := "tuple") (b := "tuple") (r := true) (by decide +kernel)
    refine ⟨_, PSs.nox (pss_cons (ps_asg (pv 3) (pg_tup rfl (pgs_cons (pg_name (i := 4) scLRI.nd rfl (Or.inl rfl)) (pgs_cons (pg_name (i := 5) scLRI.nd rfl (Or.inl rfl)) (pgs_cons (pg_name (i := 6) scLRI.nd rfl (Or.inl rfl)) pgs_nil)))))
      (C8.pss_cut (ps_if (PW.pt (pw_and (pt_cmpR (op_neD hr.units) (pv 4) (pe_tup (pa_cons pe_str (pa_cons (pv 2) pa_nil))) (nomark _)) (pw_and1 (PW.pt (pw_or (pt_not (pt_val (pe_callB call_isi (by rfl) T.isinstance (by decide +kernel) (pa_cons (pv 4) (pa_cons (pe_bltn (v := .ty "tuple") (by rfl) T.tuple (by decide +kernel) rfl) pa_nil))))) (pw_or1 (pt_cmpR op_ne (pe_ix (r := L2.rIxT K) (by exact ix_tup) (pv 4) pe_int (fun _ _ => rfl)) pe_str (nomark _))))))))
        (pss_one (ps_ret pe_bl))
        pss_nil)
      (pss_cons (ps_if (pt_cmpR (op_neD hr.units) (pe_call GLO (hr.mono (by decide)) (by rfl) gLO kLO bLO .nil pass0 (pa_cons (pv 0) (pa_cons (pv 0) (pa_cons (pv 4) pa_nil)))) (pv 5) (nomark _))
        (pss_one (ps_ret pe_bl))
        pss_nil)
      (pss_cons (ps_set (i := 7) scLRI.nd rfl (Or.inr rfl) pe_dnewK)
      (pss_cons (ps_for PassesOwn.never rfl (En.pi_enT (by rfl) T.enumerate (pa_cons (pv 1) pa_nil)) (pg_tup rfl (pgs_cons (pg_name (i := 8) scLRI.nd rfl (Or.inl rfl)) (pgs_cons (pg_name (i := 9) scLRI.nd rfl (Or.inl rfl)) pgs_nil)))
        (pss_one (ps_for PassesOwn.never rfl (pi_tup (pv 9)) (pg_name (i := 10) scLRI.nd rfl (Or.inl rfl))
          (pss_one (ps_dput hu (pv 7) (pe_ix (r := L2.rIxT K) (by exact ix_tup) (pv 10) pe_int (fun _ _ => rfl)) (pv 8) rfl)))))
      (pss_cons (ps_if (pt_cmpR (op_neD hr.units) (pe_lc (own := [("_law_number", 11)]) (g := gName 11) rfl scLRI.nd (pi_tup (pv 5)) (blkOk_by (N := nLRI) (sc := defScope sLLearntRight) (by decide +kernel)) (fun _ _ _ _ _ => pg_name (i := 11) scLRI.nd rfl (Or.inl rfl)) (fun _ _ _ _ _ => pts_one (pt_cmp (pc_dnotin hu (pe_un un_neg (pv 11)) (pv 7)))) (fun _ _ _ _ _ => pe_int)) (pe_lst pa_nil) (nomark _))
        (pss_one (ps_ret pe_bl))
        pss_nil)
      (pss_cons (ps_set (i := 12) scLRI.nd rfl (Or.inl rfl) (pe_callB cr_sortedI (by rfl) T.sorted (by decide +kernel) (pa_cons (pe_lc (own := [("_law_number", 11)]) (g := gName 11) (tt := tYes) rfl scLRI.nd (pi_tup (pv 5)) (blkOk_by (N := nLRI) (sc := defScope sLLearntRight) (by decide +kernel)) (fun _ _ _ _ _ => pg_name (i := 11) scLRI.nd rfl (Or.inl rfl)) (fun _ _ _ _ _ => pts_nil) (fun _ _ _ _ _ => (pe_dget hu (pv 7) (pe_un un_neg (pv 11)) (fun _ _ => rfl)))) pa_nil)))
      (pss_cons (ps_if (pt_cmpR (op_neD hr.units) (pe_lc (own := [("_law_one", 13)]) (g := gName 13) rfl scLRI.nd (pi_list (pv 12)) (blkOk_by (N := nLRI) (sc := defScope sLLearntRight) (by decide +kernel)) (fun _ _ _ _ _ => pg_name (i := 13) scLRI.nd rfl (Or.inl rfl)) (fun _ _ _ _ _ => pts_one (pt_cmpR op_eq (pv 13) (pe_op op_sub (pe_callB (r := Bw.rLen K) (by exact call_len_seq) (by rfl) T.len PySem.boot_len (pa_cons (pv 1) pa_nil)) pe_int) (nomark _))) (fun _ _ _ _ _ => pe_int)) (pe_lst (pa_cons pe_int pa_nil)) (nomark _))
        (pss_one (ps_ret pe_bl))
        pss_nil)
      (pss_one (ps_ret (pe_cmpR op_eq (pv 6) (pe_ifExp (pt_cmpR op_gt (pe_callB call_len_seq (by rfl) T.len PySem.boot_len (pa_cons (pv 12) pa_nil)) pe_int (nomark _)) (pe_ix ix_list (pv 12) (pe_un un_neg pe_int) (fun _ _ => rfl)) pe_int) (nomark _)))))))))))), ?_⟩
    refine ⟨_, rfl, pq, _, rfl, SqT.of hpq, rfl, _, _, rfl, _, _, rfl, _, _, rfl, rfl, ?_⟩
    refine ⟨fun σ H' => σ = [some (.ref r), some (.ref t), some (.int (n : Nat)), some (.ref pq), some (.ref y), some (.ref c), some (.int (lvM hs ts ts.length : Nat)), none, none, none, none, none, none, none] ∧ Same H H', ?_, ?_⟩
    · refine ⟨_, rfl, _, rfl, len2, fun u nu => ?_⟩
      have su := same_new (u := .tup [V.str "given", .int (n : Nat)]) nu
      have ln1 := ln.firm (Firm.of su)
      refine ⟨_, _, ln_dp ln1, .tup (SqT.of upd_same) (.cons (.str _) (.cons (.int _) .nil)), sh_ln _ _, sh_given _, _, rfl, ?_⟩
      refine ite2 (fun c1 => ?_) (fun c1 => iteF ⟨rfl, su⟩)
      rcases ln1 with ⟨e, h⟩ | ⟨e, t2, vs, h1, h2, h3⟩
      · exfalso
        have e2 : lnD n ps = .tuple [.str "given", .int (n : Nat)] := if_pos e
        rw [e2, SeqAt.eqv_refl _ (SeqAt.canLay_of_shaped (sh_given n))] at c1
        cases c1
      · exact ⟨_, rfl, _, _, _, _, _, rfl, .ty _, ty_tup (SqT.of h1), kt, _, rfl, goF rfl ⟨_, rfl, y, _, 0, _, rfl, rfl, SqT.of h1, at_of (j := 0) rfl rfl, rfl, _, rfl, goF neF ⟨rfl, su⟩⟩⟩
    rintro σ H1 ⟨rfl, s1⟩
    refine ⟨_, rfl, _, rfl, _, rfl, m, n, r, y, us, R, c0, hs, ps, rfl, s1.seq hR, au.imp fun _ _ h => h.firm (Firm.of s1), m10, tR, hc0, sts, ln.firm (Firm.of s1), fun H2 fa fc s2 hfc mem e0 up tfc => ?_⟩
    have s12 := s1.trans s2
    have efc : fc = byAbs hs := by
      by_cases pe : ps = []
      · have e1 := steps_nil sts pe
        rw [e0 pe, e1]
        exact same_sorted (asc c0 (List.mem_of_getElem? hc0)) (sorted_strict (byAbs_up c0) (by_tok (tR c0 (List.mem_of_getElem? hc0)))) fun z => by_mem.symm
      · exact same_sorted (sorted_strict (up pe) tfc) (sorted_strict (byAbs_up hs) tb) fun z => (mem z).trans by_mem.symm
    subst efc
    refine ⟨_, rfl, _, _, .tup hfc (ints_dp _), .tup (SqT.of (s12 _ _ hc)) (ints_dp _), sh_ints _, sh_ints _, _, rfl, ?_⟩
    rw [SeqAt.eqv_refl _ (SeqAt.canLay_of_shaped (sh_ints _))]
    refine goF rfl fun D nD => ?_
    have s3 := s12.trans (same_new (u := .dK []) nD)
    have hD3 : upd H2 D (.dK []) D = some (plD (plM 0 [])) := upd_same
    have nDH : H D = none := by
      cases e : H D with
      | none => rfl
      | some o =>
        rw [s12 _ _ e] at nD
        cases nD
    generalize upd H2 D _ = H3 at s3 hD3 ⊢
    clear s1 s2 s12 nD hfc mem e0 up tfc
    refine ⟨_, rfl, t, _, rfl, seqT_same s3 ht, En.for_enT (K := K) (a := t) (xs := ut)
      (fun k σ H' => ∃ (x8 x9 x10 : Option V), σ = [some (.ref r), some (.ref t), some (.int (n : Nat)), some (.ref pq), some (.ref y), some (.ref c), some (.int (lvM hs ts ts.length : Nat)), some (.ref D), x8, x9, x10, none, none, none] ∧ Same H H' ∧ H' D = some (plD (plM 0 ((ts ++ [l]).take k))))
      ⟨_, _, _, rfl, s3, by rw [List.take_zero]; exact hD3⟩ (fun k σ H' _ ⟨_, _, _, _, s, _⟩ => seqT_same s ht) ?_ ?_⟩
    · clear s3 hD3
      rintro k v σ H4 T1 hv ⟨x8, x9, x10, rfl, s4, hD4⟩ nT
      obtain ⟨x, hx, b, vs, rfl, hb, av⟩ := aT.get hv
      have vl := av.len
      have sT := same_new (u := .tup [.int (k : Nat), .ref b]) nT
      have s5 := s4.trans sT
      have hD5 := sT _ _ hD4
      refine ⟨T1, _, rfl, SqT.of upd_same, rfl, _, _, rfl, _, _, rfl, rfl, ?_⟩
      generalize upd H4 T1 _ = H5 at s5 hD5 ⊢
      clear s4 hD4 sT nT
      have et : litsM (ts ++ [l]) = litsM ((ts ++ [l]).take k) ++ (x.map Prod.fst ++ litsM ((ts ++ [l]).drop (k + 1))) := by
        rw [lits_pre (k + 1), lits_take hx, List.append_assoc]
      have kl : ((ts ++ [l]).take k).length = k := by
        obtain ⟨lt, _⟩ := List.getElem?_eq_some_iff.mp hx
        rw [List.length_take]
        omega
      refine ⟨_, rfl, b, rfl, ⟨_, seqT_same s5 hb⟩, for_tup (K := K) (a := b) (xs := vs)
        (fun i σ H' => ∃ (x10 : Option V), σ = [some (.ref r), some (.ref t), some (.int (n : Nat)), some (.ref pq), some (.ref y), some (.ref c), some (.int (lvM hs ts ts.length : Nat)), some (.ref D), some (.int (k : Nat)), some (.ref b), x10, none, none, none] ∧ Same H H' ∧ H' D = some (plD (plM 0 ((ts ++ [l]).take k) ++ (x.take i).map fun e => (e.1, k))))
        ⟨_, rfl, s5, by rw [List.take_zero, List.map_nil, List.append_nil]; exact hD5⟩ (fun i σ H' _ ⟨_, _, s, _⟩ => seqT_same s hb) ?_ ?_⟩
      · rintro i z σ H6 hz ⟨x10, rfl, s6, hD6⟩
        obtain ⟨e, he, a, rfl, ha⟩ := av.get hz
        have en : ¬ e.1 ∈ (plM 0 ((ts ++ [l]).take k) ++ (x.take i).map fun e => (e.1, k)).map Prod.fst := by
          rw [List.map_append, pl_fst, List.map_map]
          obtain ⟨lt, e'⟩ := List.getElem?_eq_some_iff.mp he
          have e1 := List.take_append_drop i x
          rw [List.drop_eq_getElem_cons lt, e'] at e1
          rw [← e1, List.map_append, List.map_cons] at et
          have nd' := tT.nodup
          rw [et, List.append_assoc, ← List.append_assoc] at nd'
          exact fun mm => (List.nodup_append.mp nd').2.2 _ mm _ List.mem_cons_self rfl
        have sz : (plM 0 ((ts ++ [l]).take k) ++ (x.take i).map fun e => (e.1, k)).length < sizeLine := by
          have : (plM 0 ((ts ++ [l]).take k)).length = (litsM ((ts ++ [l]).take k)).length := by rw [← pl_fst 0, List.length_map]
          have e2 := congrArg List.length et
          rw [List.length_append, List.length_append, List.length_map] at e2
          refine Nat.lt_of_le_of_lt (?_ : _ ≤ 1000) (by decide)
          rw [List.length_append, this, List.length_map, List.length_take]
          omega
        refine ⟨_, rfl, _, rfl, _, rfl, a, _, 0, _, rfl, rfl, seqT_same s6 ha, at_of (j := 0) rfl rfl, D, _, rfl, put_pl hD6 (k := k) en sz, ?_⟩
        refine ⟨_, rfl, fun b o e => ?_, ?_⟩
        · rw [upd_ne (ne_of_none e nDH)]
          exact s6 _ _ e
        · rw [upd_same, take_more he, List.map_append, List.append_assoc]
          rfl
      · rintro σ H6 ⟨x10, rfl, s6, hD6⟩
        rw [vl, List.take_length] at hD6
        refine ⟨_, _, _, rfl, s6, ?_⟩
        rw [take_more hx, pl_snoc, kl, Nat.zero_add]
        exact hD6
    rintro σ H4 ⟨x8, x9, x10, rfl, s4, hD4⟩
    rw [utl, List.take_length] at hD4
    have hc4 := SqT.of (K := K) (s4 _ _ hc)
    clear s3 hD3
    have inT : ∀ z ∈ byAbs hs, -z ∈ litsM (ts ++ [l]) := fun z hz => by
      rw [lits_snoc]
      exact iv.op z (by_mem.mp hz)
    refine ⟨_, rfl, c, rfl, ⟨_, hc4⟩, fun L nL => ?_⟩
    refine lc_tup (K := K) (a := c) (xs := (byAbs hs).map V.int) (fun i H5 => Same H4 H5 ∧ H5 L = some (.lst [])) ⟨same_new nL, upd_same⟩ (fun i H5 _ ⟨s5, _⟩ => seqT_same s5 hc4) ?_ ?_
    · rintro i v H5 hi ⟨s5, hL⟩
      rw [List.getElem?_map] at hi
      obtain ⟨z, hz, rfl⟩ : ∃ z, (byAbs hs)[i]? = some z ∧ v = .int z := by
        cases e : (byAbs hs)[i]? with
        | none => rw [e] at hi; cases hi
        | some z => rw [e] at hi; exact ⟨z, rfl, (Option.some.inj hi).symm⟩
      have lk := (lv_of (inT z (List.mem_of_getElem? hz))).1
      refine ⟨rfl, ?_⟩
      refine ⟨_, rfl, _, rfl, _, rfl, D, _, rfl, get_pl (s5 _ _ hD4) _, _, rfl, ?_⟩
      rw [lk]
      exact goF rfl ⟨s5, hL⟩
    rintro H5 ⟨s5, hL⟩
    refine ⟨len0, fun u0 n0 => ?_⟩
    have s6 := same_new (u := .lst []) n0
    refine ⟨.list [], .list [], .lst (SqL.of (s6 _ _ hL)) .nil, .lst (SqL.of upd_same) .nil, by decide +kernel, by decide +kernel, _, rfl, goF rfl ?_⟩
    have s46 := s5.trans s6
    have s06 := s4.trans s46
    have hD6 := s46 _ _ hD4
    have hc6 := seqT_same s46 hc4
    generalize upd H5 u0 _ = H6 at s06 hD6 hc6 ⊢
    clear s4 s5 s6 s46 hD4 hc4 hL n0 nL
    refine ⟨_, rfl, c, rfl, ⟨_, hc6⟩, fun L nL => ?_⟩
    refine lc_tup (K := K) (a := c) (xs := (byAbs hs).map V.int) (fun i H7 => Same H6 H7 ∧ H7 L = some (.lst ((((byAbs hs).take i).map fun z => (lvOf (ts ++ [l]) z : Int)).map V.int))) ⟨same_new nL, upd_same⟩ (fun i H7 _ ⟨s7, _⟩ => seqT_same s7 hc6) ?_ ?_
    · rintro i v H7 hi ⟨s7, hL⟩
      rw [List.getElem?_map] at hi
      obtain ⟨z, hz, rfl⟩ : ∃ z, (byAbs hs)[i]? = some z ∧ v = .int z := by
        cases e : (byAbs hs)[i]? with
        | none => rw [e] at hi; cases hi
        | some z => rw [e] at hi; exact ⟨z, rfl, (Option.some.inj hi).symm⟩
      have lk := (lv_of (inT z (List.mem_of_getElem? hz))).1
      have gp := get_pl (s7 _ _ hD6) (-z)
      rw [lk] at gp
      refine ⟨rfl, yes_of ?_⟩
      refine ⟨_, rfl, _, rfl, _, rfl, D, _, rfl, gp, ?_⟩
      refine ⟨_, hL, ?_, fun c o e => ?_, ?_⟩
      · rw [List.length_map, List.length_map, List.length_take]
        exact Nat.lt_of_le_of_lt (by omega : _ ≤ 1000) (by decide)
      · rw [upd_ne (ne_of_none e nL)]
        exact s7 _ _ e
      · rw [upd_same, take_more hz, List.map_append, List.map_append]
        rfl
    rintro H7 ⟨s7, hL⟩
    rw [List.length_map, List.take_length] at hL
    refine ⟨L, _, rfl, SqL.of hL, fun S p pm up np => ?_⟩
    obtain ⟨o1, o2, o3, o4⟩ := levels_ok M iv pm up
    have s8 := same_new (u := .lst (S.map V.int)) np
    have s08 := s06.trans (s7.trans s8)
    have hp := upd_same (H := H7) (a := p) (o := .lst (S.map V.int))
    generalize upd H7 p _ = H8 at s08 hp ⊢
    clear s06 s7 s8 hD6 hc6 nL hL np
    refine ⟨_, rfl, p, rfl, ⟨_, SqL.of hp⟩, fun L2 n2 => ?_⟩
    have Sl : S.length ≤ 10 := by
      rw [o2]
      have := tk.len
      omega
    refine lc_list (K := K) (a := p) (xs := S.map V.int) (fun i H9 => Same H8 H9 ∧ H9 L2 = some (.lst (List.replicate ((S.take i).filter fun x => decide (x = (ts.length : Int))).length (V.int 1)))) ⟨same_new n2, upd_same⟩ (fun i H9 _ ⟨s9, _⟩ => SqL.of (s9 _ _ hp)) ?_ ?_
    · rintro i v H9 hi ⟨s9, hL2⟩
      rw [List.getElem?_map] at hi
      obtain ⟨z, hz, rfl⟩ : ∃ z, S[i]? = some z ∧ v = .int z := by
        cases e : S[i]? with
        | none => rw [e] at hi; cases hi
        | some z => rw [e] at hi; exact ⟨z, rfl, (Option.some.inj hi).symm⟩
      refine ⟨rfl, ?_⟩
      refine ⟨_, rfl, _, rfl, t, ut, rfl, .inr (seqT_same (s08.trans s9) ht), _, _, rfl, rfl, rfl, _, rfl, ?_⟩
      have eo : decide (V.int z = V.int ((ut.length : Int) - 1)) = decide (z = (ts.length : Int)) := by
        rw [utl, List.length_append]
        refine decide_eq_decide.mpr ⟨fun h => ?_, fun h => ?_⟩
        · have := V.int.inj h
          rw [this]
          show ((ts.length + 1 : Nat) : Int) - 1 = _
          omega
        · rw [h]
          exact congrArg V.int (by show _ = ((ts.length + 1 : Nat) : Int) - 1; omega)
      rw [eo, take_more hz, List.filter_append, List.length_append]
      refine ite2 (fun c2 => ?_) (fun c2 => ?_)
      · refine ⟨_, hL2, ?_, fun c o e => ?_, ?_⟩
        · rw [List.length_replicate]
          exact Nat.lt_of_le_of_lt (Nat.le_trans (List.length_filter_le _ _) (by rw [List.length_take]; omega : _ ≤ 1000)) (by decide)
        · rw [upd_ne (ne_of_none e n2)]
          exact s9 _ _ e
        · rw [upd_same, List.filter_cons_of_pos (p := fun x => decide (x = (ts.length : Int))) c2]
          show _ = some (HO.lst (List.replicate (_ + 1) (V.int 1)))
          rw [List.replicate_succ']
      · rw [List.filter_cons_of_neg (p := fun x => decide (x = (ts.length : Int))) c2]
        exact ⟨s9, hL2⟩
    rintro H9 ⟨s9, hL2⟩
    rw [List.length_map, List.take_length, o1] at hL2
    have len1' : 1 ≤ sizeLine := by decide
    refine ⟨len1', fun u0 n0 => ?_⟩
    have s10 := same_new (u := .lst [V.int 1]) n0
    refine ⟨.list [.int 1], .list [.int 1], .lst (SqL.of (s10 _ _ hL2)) (.cons (.int 1) .nil), .lst (SqL.of upd_same) (.cons (.int 1) .nil), by decide +kernel, by decide +kernel, _, rfl, goF (by decide +kernel) ?_⟩
    have sA := s08.trans (s9.trans s10)
    have hpA := SqL.of (K := K) ((s9.trans s10) _ _ hp)
    generalize upd H9 u0 _ = HA at sA hpA ⊢
    refine ⟨_, rfl, _, rfl, p, _, rfl, .inl hpA, _, _, rfl, rfl, _, rfl, ite2 (fun c1 => ?_) (fun c1 => ?_)⟩
    · have c1 := of_decide_eq_true c1
      rw [List.length_map] at c1
      obtain ⟨B, eS⟩ := o3 (by omega)
      subst eS
      rw [List.map_append] at hpA
      refine ⟨_, rfl, _, rfl, p, _, _, _, rfl, rfl, hpA, at_two, rfl, ?_⟩
      rw [decide_eq_true rfl]
      exact q _ sA
    · have c1 : ¬ 1 < S.length := fun h => c1 (decide_eq_true (by rw [List.length_map]; omega))
      rw [o4 c1]
      refine ⟨rfl, ?_⟩
      rw [decide_eq_true (show V.int ((0 : Nat) : Int) = V.int 0 from rfl)]
      exact q _ sA
end
end Tp
namespace Tn
open PySem PySem.Spec PyProof.Rows L2 Pen Dat Ki Fi Gr No Lf Cm Cn Abk Ack Tr Ta Tb Tc Td Sm Sn So Spm Sqm Te Tg Th Tj Tk Tq Tw Ty Tz Tv Tp
/-! ## k27: bent trails -/
/-- lists and tuples stay -/
def isSq : HO → Bool
  | .lst _ => true
  | .tup _ => true
  | .frz _ _ => true
  | _ => false
def Hold (H H' : Hp) : Prop := ∀ b o, H b = some o → isSq o = true → H' b = some o
theorem Hold.of {H H' : Hp} (s : Same H H') : Hold H H' := fun b o e _ => s b o e
theorem Hold.trans {H H1 H2 : Hp} (a : Hold H H1) (b : Hold H1 H2) : Hold H H2 := fun c o e h => b c o (a c o e h) h
theorem Hold.pen {H H' : Hp} {p c : Addr} {m : Nat} (b : But p H H') (h : PenC H p c m) : Hold H H' := by
  obtain ⟨_, _, _, _, _, h1, _⟩ := h
  exact fun a o e hs => b a o e fun z => by
    rw [z, h1] at e
    cases e
    cases hs
section
variable {K : PySem.W.Frag} {H H' : Hp}
theorem seqL_hold {a : Addr} {xs : List V} (s : Hold H H') (h : SqL K H a xs) : SqL K H' a xs := h.elim (fun h => .inl (h.elim (fun h => .inl (s _ _ h rfl)) fun ⟨o, h⟩ => .inr ⟨o, s _ _ h rfl⟩)) .inr
theorem seqT_hold {a : Addr} {xs : List V} (s : Hold H H') (h : SqT K H a xs) : SqT K H' a xs := h.elim (fun h => .inl (h.elim (fun h => .inl (s _ _ h rfl)) fun ⟨o, h⟩ => .inr ⟨o, s _ _ h rfl⟩)) .inr
mutual
theorem dp_hold (s : Hold H H') : ∀ {d : PyData} {v : V}, Dp K H v d → Dp K H' v d
  | .none, _, h => by cases h; exact .non
  | .bool b, _, h => by cases h; exact .bl b
  | .int i, _, h => by cases h; exact .int i
  | .str x, _, h => by cases h; exact .str x
  | .list ds, _, h => by
    cases h with
    | lst hs ha => exact .lst (seqL_hold s hs) (dps_hold s ha)
  | .tuple ds, _, h => by
    cases h with
    | tup hs ha => exact .tup (seqT_hold s hs) (dps_hold s ha)
  | .dict _, _, h => by cases h
theorem dps_hold (s : Hold H H') : ∀ {ds : List PyData} {vs : List V}, DpAll K H vs ds → DpAll K H' vs ds
  | [], _, h => by cases h; exact .nil
  | d :: ds, _, h => by
    cases h with
    | cons h1 h2 => exact .cons (dp_hold s h1) (dps_hold s h2)
end
theorem dps_app : ∀ {as : List PyData} {vs ws : List V} {bs : List PyData}, DpAll K H vs as → DpAll K H ws bs → DpAll K H (vs ++ ws) (as ++ bs)
  | [], vs, ws, bs, h, g => by
    cases h
    exact g
  | a :: as, vs, ws, bs, h, g => by
    cases h with
    | cons h1 h2 => exact .cons h1 (dps_app h2 g)
theorem dps_take : ∀ {as : List PyData} {vs : List V} (n : Nat), DpAll K H vs as → DpAll K H (vs.take n) (as.take n)
  | as, vs, 0, _ => by
    rw [List.take_zero, List.take_zero]
    exact .nil
  | [], vs, n + 1, h => by
    cases h
    exact .nil
  | a :: as, vs, n + 1, h => by
    cases h with
    | cons h1 h2 => exact .cons h1 (dps_take n h2)
theorem dps_drop : ∀ {as : List PyData} {vs : List V} (n : Nat), DpAll K H vs as → DpAll K H (vs.drop n) (as.drop n)
  | as, vs, 0, h => h
  | [], vs, n + 1, h => by
    cases h
    exact .nil
  | a :: as, vs, n + 1, h => by
    cases h with
    | cons h1 h2 => exact dps_drop n h2
theorem dps_rev : ∀ {as : List PyData} {vs : List V}, DpAll K H vs as → DpAll K H vs.reverse as.reverse
  | [], vs, h => by
    cases h
    exact .nil
  | a :: as, vs, h => by
    cases h with
    | cons h1 h2 =>
      rw [List.reverse_cons, List.reverse_cons]
      exact dps_app (dps_rev h2) (.cons h1 .nil)
theorem catA_use {a b : Addr} {xs ys : List V} {Q : VK} (ha : SqT K H a xs) (hb : SqT K H b ys) (hz : xs.length + ys.length ≤ sizeLine) (k : ∀ q H', Same H H' → SqT K H' q (xs ++ ys) → Q (.ref q) H') : rCatA K (.ref a) (.ref b) H Q :=
  ⟨a, b, xs, ys, rfl, rfl, ha, hb, hz, fun e => k b H (Same.refl _) (by rw [e]; exact hb), fun _ e => k a H (Same.refl _) (by rw [e, List.append_nil]; exact ha), fun _ _ p np => k p _ (same_new np) (SqT.of upd_same)⟩
end
/-- data of a bounded depth -/
def AllOk (n : Nat) (ds : List PyData) : Prop := ∀ e ∈ ds, e.canLay0 = true ∧ e.depth ≤ n
theorem all_ok {n : Nat} : ∀ {ds : List PyData}, AllOk n ds → PyData.canLayAll0 ds = true ∧ PyData.depthAll ds ≤ n
  | [], _ => ⟨rfl, Nat.zero_le _⟩
  | d :: ds, h => by
    obtain ⟨a, b⟩ := all_ok fun e he => h e (List.mem_cons_of_mem _ he)
    obtain ⟨x, y⟩ := h d List.mem_cons_self
    refine ⟨?_, ?_⟩
    · show (d.canLay0 && PyData.canLayAll0 ds) = true
      rw [x, a]
      rfl
    · show max d.depth (PyData.depthAll ds) ≤ n
      exact Nat.max_le.mpr ⟨y, b⟩
theorem ok_app {n : Nat} {as bs : List PyData} (a : AllOk n as) (b : AllOk n bs) : AllOk n (as ++ bs) := fun e h => (List.mem_append.mp h).elim (a e) (b e)
theorem ok_sub {n : Nat} {as bs : List PyData} (a : AllOk n as) (s : ∀ e ∈ bs, e ∈ as) : AllOk n bs := fun e h => a e (s e h)
theorem ok_one {n : Nat} {d : PyData} (h : d.canLay0 = true ∧ d.depth ≤ n) : AllOk n [d] := fun e he => by
  rw [List.mem_singleton.mp he]
  exact h
theorem ok_tup {n : Nat} {ds : List PyData} (h : AllOk n ds) : (PyData.tuple ds).canLay0 = true ∧ (PyData.tuple ds).depth ≤ n + 1 := by
  obtain ⟨a, b⟩ := all_ok h
  exact ⟨a, Nat.succ_le_succ b⟩
theorem ok_lst {n : Nat} {ds : List PyData} (h : AllOk n ds) : (PyData.list ds).canLay0 = true ∧ (PyData.list ds).depth ≤ n + 1 := by
  obtain ⟨a, b⟩ := all_ok h
  exact ⟨a, Nat.succ_le_succ b⟩
theorem ens_ok (l : Level) : AllOk 1 (l.map enD) := fun e he => by
  obtain ⟨x, _, rfl⟩ := List.mem_map.mp he
  exact lay_en x
theorem lvs_ok (t : Trail) : AllOk 2 (t.map lvD) := fun e he => by
  obtain ⟨x, _, rfl⟩ := List.mem_map.mp he
  exact ok_tup (ens_ok x)
/-- a value in a level; in a trail; a trail -/
def OddP (K : PySem.W.Frag) (H : Hp) (v : V) : Prop := ∃ d, Dp K H v d ∧ d.canLay0 = true ∧ d.depth ≤ 1
def LvP (K : PySem.W.Frag) (H : Hp) (v : V) : Prop := ∃ d, Dp K H v d ∧ d.canLay0 = true ∧ d.depth ≤ 2 ∧ (rowsD d).length ≤ 100
def TrP (K : PySem.W.Frag) (H : Hp) (v : V) : Prop := ∃ d, Dp K H v d ∧ d.canLay0 = true ∧ d.depth ≤ 3 ∧ (rowsD d).length ≤ 100 ∧ ∀ e ∈ rowsD d, (rowsD e).length ≤ 100
section
variable {K : PySem.W.Frag} {H H' : Hp} {v : V}
theorem OddP.hold (s : Hold H H') (h : OddP K H v) : OddP K H' v := let ⟨d, a, b⟩ := h; ⟨d, dp_hold s a, b⟩
theorem LvP.hold (s : Hold H H') (h : LvP K H v) : LvP K H' v := let ⟨d, a, b⟩ := h; ⟨d, dp_hold s a, b⟩
theorem TrP.hold (s : Hold H H') (h : TrP K H v) : TrP K H' v := let ⟨d, a, b⟩ := h; ⟨d, dp_hold s a, b⟩
theorem odd_two {a : Addr} {x y : V} {dx dy : PyData} (h : SqT K H a [x, y]) (hx : Dp K H x dx) (hy : Dp K H y dy) (ox : dx.canLay0 = true ∧ dx.depth ≤ 0) (oy : dy.canLay0 = true ∧ dy.depth ≤ 0) : OddP K H (.ref a) := by
  refine ⟨_, .tup h (.cons hx (.cons hy .nil)), ok_tup (n := 0) fun e he => ?_⟩
  rcases List.mem_cons.mp he with g | g
  · rw [g]
    exact ox
  · rw [List.mem_singleton.mp g]
    exact oy
theorem lv_tup {a : Addr} {xs : List V} {ds : List PyData} (h : SqT K H a xs) (hd : DpAll K H xs ds) (o : AllOk 1 ds) (l : ds.length ≤ 100) : LvP K H (.ref a) := ⟨_, .tup h hd, (ok_tup o).1, (ok_tup o).2, l⟩
theorem tr_tup {a : Addr} {xs : List V} {ds : List PyData} (h : SqT K H a xs) (hd : DpAll K H xs ds) (o : AllOk 2 ds) (l : ds.length ≤ 100) (le : ∀ e ∈ ds, (rowsD e).length ≤ 100) : TrP K H (.ref a) := ⟨_, .tup h hd, (ok_tup o).1, (ok_tup o).2, l, le⟩
end
theorem last_use {K : PySem.W.Frag} {H : Hp} {q0 : Addr} {xs : List V} {σ : L2.St} {R : VK} (hq : SqT K H q0 xs) (hl : 1 ≤ xs.length) (k : ∀ t H', Same H H' → SqT K H' t (xs.drop (xs.length - 1)) → R (.ref t) H') : L2.tNoPart σ H fun u H3 => L2.rSlA K (.ref q0) (some (-1)) u H3 R := by
  show L2.rSlA K (.ref q0) (some (-1)) none H R
  have ix : HT.sIx xs.length 0 (some (-1)) = xs.length - 1 := by
    show ((-1 : Int) + (xs.length : Int)).toNat = _
    omega
  refine ⟨q0, xs, rfl, hq, fun hw => ?_, fun _ p np => ?_⟩
  · have e := hw.1
    rw [ix] at e
    refine k q0 H (Same.refl _) ?_
    rw [e]
    exact hq
  · refine k p _ (same_new np) (SqT.of ?_)
    rw [upd_same]
    unfold cutV
    rw [ix]
    show some (HO.tup (List.take (xs.length - (xs.length - 1)) (xs.drop (xs.length - 1)))) = _
    rw [List.take_of_length_le (by rw [List.length_drop]; exact Nat.le_refl _)]
theorem six {H : Hp} {a1 a2 a3 a4 a5 a6 : Addr} {o1 o2 o3 o4 o5 o6 : HO} (n1 : H a1 = none) (n2 : upd H a1 o1 a2 = none) (n3 : upd (upd H a1 o1) a2 o2 a3 = none) (n4 : upd (upd (upd H a1 o1) a2 o2) a3 o3 a4 = none) (n5 : upd (upd (upd (upd H a1 o1) a2 o2) a3 o3) a4 o4 a5 = none) (n6 : upd (upd (upd (upd (upd H a1 o1) a2 o2) a3 o3) a4 o4) a5 o5 a6 = none) :
    ∃ H6, H6 = upd (upd (upd (upd (upd (upd H a1 o1) a2 o2) a3 o3) a4 o4) a5 o5) a6 o6 ∧ Same H H6 ∧ H6 a1 = some o1 ∧ H6 a2 = some o2 ∧ H6 a3 = some o3 ∧ H6 a4 = some o4 ∧ H6 a5 = some o5 ∧ H6 a6 = some o6 := by
  have s1 := same_new (u := o1) n1
  have s2 := same_new (u := o2) n2
  have s3 := same_new (u := o3) n3
  have s4 := same_new (u := o4) n4
  have s5 := same_new (u := o5) n5
  have s6 := same_new (u := o6) n6
  exact ⟨_, rfl, s1.trans (s2.trans (s3.trans (s4.trans (s5.trans s6)))), (s2.trans (s3.trans (s4.trans (s5.trans s6)))) _ _ upd_same, (s3.trans (s4.trans (s5.trans s6))) _ _ upd_same, (s4.trans (s5.trans s6)) _ _ upd_same, (s5.trans s6) _ _ upd_same, s6 _ _ upd_same, upd_same⟩
theorem four {H : Hp} {a1 a2 a3 a4 : Addr} {o1 o2 o3 o4 : HO} (n1 : H a1 = none) (n2 : upd H a1 o1 a2 = none) (n3 : upd (upd H a1 o1) a2 o2 a3 = none) (n4 : upd (upd (upd H a1 o1) a2 o2) a3 o3 a4 = none) :
    ∃ H6, H6 = upd (upd (upd (upd H a1 o1) a2 o2) a3 o3) a4 o4 ∧ Same H H6 ∧ H6 a1 = some o1 ∧ H6 a2 = some o2 ∧ H6 a3 = some o3 ∧ H6 a4 = some o4 := by
  have s1 := same_new (u := o1) n1
  have s2 := same_new (u := o2) n2
  have s3 := same_new (u := o3) n3
  have s4 := same_new (u := o4) n4
  exact ⟨_, rfl, s1.trans (s2.trans (s3.trans s4)), (s2.trans (s3.trans s4)) _ _ upd_same, (s3.trans s4) _ _ upd_same, s4 _ _ upd_same, upd_same⟩
def spBT (K : PySem.W.Frag) : Sp := fun vs H Q _ => ∃ (p c t : Addr) (k m : Nat) (tr : Trail), vs = [.ref p, .ref t, .int (m : Nat)] ∧ PenC H p c k ∧ k ≤ 1000000 ∧ TrAt K H t tr ∧ 0 < tr.length ∧ tr.length ≤ 30 ∧ (∀ x ∈ tr, x.length ≤ 30) ∧
  ∀ (H' : Hp) (v : V), PenC H' p c (k + 4) → But p H H' → TrP K H' v → Q v H'
section
variable {P : Program} {w : World} {K : PySem.W.Frag} {mg : Str → Option Value} {base : Heap} {f : Addr} {fd : FuncData}
abbrev nBT : List Str := ["_law_pen_here", "_law_trail", "_law_many", "_law_k", "_law_level", "_law_some", "_law_odd", "_law_fresh", "_law_whole"]
theorem scBT : FnScope nBT ["_law_pen_here", "_law_trail", "_law_many"] (defScope sLBentTrail) := ⟨rfl, rfl, rfl, by decide +kernel, rfl, by decide +kernel, by decide +kernel⟩
theorem ok_bt (F : FnP K "_law_bent_trail" sLBentTrail f fd) (T : Tj.Tx mg)
    {fD fK : Addr} {dD dK : FuncData}
    (GD : FnOk P w K mg base CX0 1 fD dD ["_law_pen_here", "_law_many"] (spDraw)) (gD : mg "_law_draw" = some (.ref fD)) (kD : PySem.W.keepIn K (.ref fD) = true) (bD : Binds K dD ["_law_pen_here", "_law_many"] [])
    (GK : FnOk P w K mg base CX0 2 fK dK ["_law_pen_here", "_law_some"] (spPick K)) (gK : mg "_law_pick" = some (.ref fK)) (kK : PySem.W.keepIn K (.ref fK) = true) (bK : Binds K dK ["_law_pen_here", "_law_some"] [])
    : FnOk P w K mg base CX0 3 f fd ["_law_pen_here", "_law_trail", "_law_many"] (spBT K) := by
  refine F.ok scBT (fun vs H Q E h => ?_) (fun cdv A outer s H vs Q E hr h => ?_)
  · obtain ⟨p, c, t, k, m, tr, rfl, _⟩ := h
    rfl
  · obtain ⟨p, c, t, k, m, tr, rfl, hP, hk, ⟨ut, ht, aT⟩, tp, tl, xl, q⟩ := h
    have utl := aT.len
    have len6 : 6 ≤ sizeLine := by decide
    have len8 : 8 ≤ sizeLine := by decide
    have i0 : (PyData.none).canLay0 = true ∧ (PyData.none).depth ≤ 0 := ⟨rfl, Nat.le_refl 0⟩
    have i1 : ∀ i, (PyData.int i).canLay0 = true ∧ (PyData.int i).depth ≤ 0 := fun i => ⟨rfl, Nat.le_refl 0⟩
    have i2 : ∀ b, (PyData.bool b).canLay0 = true ∧ (PyData.bool b).depth ≤ 0 := fun i => ⟨rfl, Nat.le_refl 0⟩
    refine ⟨_, PSs.nox (pss_cons (ps_set (i := 3) scBT.nd rfl (Or.inl rfl) (pe_call GD (hr.mono (by decide)) (by rfl) gD kD bD .nil pass0 (pa_cons (pv 0) (pa_cons (pe_callB call_len_seq (by rfl) T.len PySem.boot_len (pa_cons (pv 1) pa_nil)) pa_nil))))
      (pss_cons (ps_par (i := 4) (j := 5) rfl scBT.nd rfl rfl (by decide) rfl rfl (pa_cons (pe_ix (r := L2.rIxT K) (by exact ix_tup) (pv 1) (pv 3) (fun _ _ => rfl)) (pa_cons (pe_lst (pa_cons (pe_tup (pa_cons (pe_op op_add (pv 2) pe_int) (pa_cons pe_non pa_nil))) (pa_cons (pe_tup (pa_cons pe_int (pa_cons pe_non pa_nil))) (pa_cons (pe_tup (pa_cons pe_int pa_nil)) (pa_cons (pe_lst (pa_cons pe_int (pa_cons pe_non pa_nil))) (pa_cons pe_non (pa_cons (pe_tup (pa_cons pe_bl (pa_cons pe_non pa_nil))) pa_nil))))))) pa_nil)) (by rfl))
      (pss_cons (ps_set (i := 6) scBT.nd rfl (Or.inl rfl) (pe_call GK (hr.mono (by decide)) (by rfl) gK kK bK .nil pass0 (pa_cons (pv 0) (pa_cons (pe_op op_cat (pv 5) (pe_lst (pa_cons (pe_tup (pa_cons pe_int (pa_cons pe_int pa_nil))) (pa_cons (pe_tup (pa_cons (pe_un un_neg pe_int) (pa_cons pe_int pa_nil))) pa_nil)))) pa_nil))))
      (pss_cons (ps_set (i := 7) scBT.nd rfl (Or.inl rfl) (pe_call GK (hr.mono (by decide)) (by rfl) gK kK bK .nil pass0 (pa_cons (pv 0) (pa_cons (pe_lst (pa_cons (pe_op op_catA (pv 4) (pe_tup (pa_cons (pv 6) pa_nil))) (pa_cons (pe_slice sl_tupA (pv 4) (po_some pe_int) po_none) (pa_cons (pe_op op_catA (pe_tup (pa_cons (pv 6) pa_nil)) (pe_slice sl_tupA (pv 4) (po_some pe_int) po_none)) (pa_cons (Rvt.pe_revT (pv 4)) (pa_cons (pe_callTy call_list_of (by rfl) T.list (by decide +kernel) (pa_cons (pv 4) pa_nil)) (pa_cons (pe_tup pa_nil) pa_nil))))))) pa_nil))))
      (pss_cons (ps_set (i := 8) scBT.nd rfl (Or.inl rfl) (pe_op op_catA (pe_op op_catA (pe_slice sl_tupA (pv 1) po_none (po_some (pv 3))) (pe_tup (pa_cons (pv 7) pa_nil))) (pe_slice sl_tupA (pv 1) (po_some (pe_op op_add (pv 3) pe_int)) po_none)))
      (pss_one (ps_ret (pe_call GK (hr.mono (by decide)) (by rfl) gK kK bK .nil pass0 (pa_cons (pv 0) (pa_cons (pe_lst (pa_cons (pv 8) (pa_cons (pv 8) (pa_cons (pv 8) (pa_cons (pe_callTy call_list_of (by rfl) T.list (by decide +kernel) (pa_cons (pv 1) pa_nil)) (pa_cons (pe_tup pa_nil) (pa_cons pe_non (pa_cons (Rvt.pe_revT (pv 1)) (pa_cons (pe_op op_catA (pv 1) (pe_slice sl_tupA (pv 1) (po_some (pe_un un_neg pe_int)) po_none)) pa_nil))))))))) pa_nil)))))))))), ?_⟩
    refine ⟨_, rfl, _, rfl, t, ut, rfl, .inr ht, p, c, k, (ut.length : Int), rfl, hP, by omega, by omega, by omega, fun d H1 d0 d1 P1 B1 => ?_⟩
    obtain ⟨kk, rfl⟩ : ∃ kk : Nat, d = (kk : Nat) := ⟨d.toNat, by omega⟩
    have hold1 := Hold.pen B1 hP
    have ht1 := seqT_hold hold1 ht
    have dT1 := dps_hold hold1 (lvs_dp aT)
    obtain ⟨y, hy⟩ : ∃ y, ut[kk]? = some y := ⟨_, List.getElem?_eq_getElem (by omega)⟩
    obtain ⟨x, hx, a, es, rfl, ha, ae⟩ := aT.get hy
    have xl1 := xl x (List.mem_of_getElem? hx)
    have esl := ae.len
    have ha1 := seqT_hold hold1 ha
    have dE1 := dps_hold hold1 (ens_dp ae)
    clear hP hold1
    refine ⟨_, rfl, _, rfl, t, ut, _, _, rfl, rfl, ht1, at_of (j := kk) rfl hy, _, rfl, _, _, rfl, rfl, len2, fun a1 n1 => ⟨len2, fun a2 n2 => ⟨len1, fun a3 n3 => ⟨len2, fun a4 n4 => ⟨len2, fun a5 n5 => ⟨len6, fun L nL => ⟨_, _, rfl, ?_⟩⟩⟩⟩⟩⟩⟩
    obtain ⟨H2, eH2, s2, h1, h2, h3, h4, h5, hL⟩ := six (o6 := .lst [V.ref a1, .ref a2, .ref a3, .ref a4, .non, .ref a5]) n1 n2 n3 n4 n5 nL
    have od : ∀ v ∈ [V.ref a1, .ref a2, .ref a3, .ref a4, .non, .ref a5], OddP K H2 v := fun v hv => by
      rcases List.mem_cons.mp hv with rfl | hv
      · exact odd_two (SqT.of h1) (.int _) .non (i1 _) i0
      rcases List.mem_cons.mp hv with rfl | hv
      · exact odd_two (SqT.of h2) (.int _) .non (i1 _) i0
      rcases List.mem_cons.mp hv with rfl | hv
      · exact ⟨_, .tup (SqT.of h3) (.cons (.int _) .nil), ok_tup (n := 0) (ok_one (i1 _))⟩
      rcases List.mem_cons.mp hv with rfl | hv
      · refine ⟨_, .lst (SqL.of h4) (.cons (.int _) (.cons .non .nil)), ok_lst (n := 0) fun e he => ?_⟩
        rcases List.mem_cons.mp he with g | g
        · rw [g]
          exact i1 _
        · rw [List.mem_singleton.mp g]
          exact i0
      rcases List.mem_cons.mp hv with rfl | hv
      · exact ⟨_, .non, i0.1, Nat.zero_le _⟩
      rw [List.mem_singleton.mp hv]
      exact odd_two (SqT.of h5) (.bl _) .non (i2 _) i0
    have P2 := P1.same s2
    have ht2 := seqT_same s2 ht1
    have dT2 := dps_same s2 dT1
    have ha2 := seqT_same s2 ha1
    have dE2 := dps_same s2 dE1
    rw [← eH2]
    clear eH2 n1 n2 n3 n4 n5 nL h1 h2 h3 h4 h5 ht1 dT1 ha1 dE1
    refine ⟨_, rfl, _, rfl, len2, fun b1 m1 => ⟨_, rfl, len2, fun b2 m2 => ⟨len2, fun L2 mL => ?_⟩⟩⟩
    have t1 := same_new (u := .tup [V.int 1, V.int 99]) m1
    have t2 := same_new (u := .tup [V.int (-1), V.int 0]) m2
    have t3 := same_new (u := .lst [V.ref b1, V.ref b2]) mL
    refine ⟨L, L2, _, _, rfl, rfl, (t1.trans (t2.trans t3)) _ _ hL, upd_same, len8, fun L3 nL3 => ?_⟩
    obtain ⟨H3, eH3, s3, g1, g2, g3, g4⟩ := four (o4 := .lst ([V.ref a1, .ref a2, .ref a3, .ref a4, .non, .ref a5] ++ [V.ref b1, .ref b2])) m1 m2 mL nL3
    have L3p := (((P2.same t1).same t2).same t3).free nL3
    have od3 : ∀ v ∈ [V.ref a1, .ref a2, .ref a3, .ref a4, .non, .ref a5] ++ [V.ref b1, .ref b2], OddP K H3 v := fun v hv => by
      rcases List.mem_append.mp hv with hv | hv
      · exact (od v hv).hold (Hold.of s3)
      rcases List.mem_cons.mp hv with rfl | hv
      · exact odd_two (SqT.of g1) (.int _) (.int _) (i1 _) (i1 _)
      rw [List.mem_singleton.mp hv]
      exact odd_two (SqT.of g2) (.int _) (.int _) (i1 _) (i1 _)
    have P3 := P2.same s3
    have ht3 := seqT_same s3 ht2
    have dT3 := dps_same s3 dT2
    have ha3 := seqT_same s3 ha2
    have dE3 := dps_same s3 dE2
    have B3 : But p H H3 := B1.trans ((But.of_same s2).trans (But.of_same s3))
    rw [← eH3]
    clear eH3 m1 m2 mL nL3 t1 t2 t3 s3 s2 od g1 g2 g3 ht2 dT2 ha2 dE2 hL P2 P1 B1
    refine ⟨p, c, L3, _, _, rfl, P3, by omega, L3p.1, SqL.of g4, by show 0 < 8; decide, by show 8 ≤ 1000; decide, fun v0 i0 H4 hv0 P4 B4 => ?_⟩
    have ho4 := Hold.pen B4 P3
    obtain ⟨d0, e1, e2, e3⟩ := (od3 v0 (List.mem_of_getElem? hv0)).hold ho4
    have ht4 := seqT_hold ho4 ht3
    have dT4 := dps_hold ho4 dT3
    have ha4 := seqT_hold ho4 ha3
    have dE4 := dps_hold ho4 dE3
    have B4 := B3.trans B4
    clear od3 ho4 g4 L3p ht3 dT3 ha3 dE3 P3 B3 hv0
    have okd : AllOk 1 [d0] := ok_one ⟨e2, e3⟩
    have okE := ens_ok x
    have xe : (x.map enD).length ≤ 30 := by rw [List.length_map]; exact xl1
    have sz : es.length + 1 ≤ sizeLine := Nat.le_trans (by omega : _ ≤ 1000) (by decide)
    refine ⟨_, rfl, _, rfl, _, rfl, len1, fun b1 m1 => ?_⟩
    have t1 := same_new (u := .tup [v0]) m1
    refine catA_use (seqT_same t1 ha4) (SqT.of upd_same) sz fun q1 H5 s5 h5 => ?_
    have s45 := t1.trans s5
    have v1 : LvP K H5 (.ref q1) := lv_tup h5 (dps_app (dps_same s45 dE4) (.cons (dp_same s45 e1) .nil)) (ok_app okE okd) (by rw [List.length_append]; show _ + 1 ≤ 100; omega)
    refine ⟨_, rfl, _, rfl, from_use (m := 1) (seqT_same s45 ha4) fun q2 H6 s6 h6 => ?_⟩
    have s46 := s45.trans s6
    have v2 : LvP K H6 (.ref q2) := lv_tup h6 (dps_drop 1 (dps_same s46 dE4)) (ok_sub okE fun e he => List.mem_of_mem_drop he) (by rw [List.length_drop]; omega)
    refine ⟨_, rfl, len1, fun b2 m2 => ?_⟩
    have t2 := same_new (u := .tup [v0]) m2
    refine ⟨_, rfl, _, rfl, from_use (m := 1) (seqT_same (s46.trans t2) ha4) fun q3 H7 s7 h7 => ?_⟩
    have s27 := t2.trans s7
    refine catA_use (seqT_same s7 (SqT.of upd_same)) h7 (Nat.le_trans (by rw [List.length_drop]; show 1 + _ ≤ 1000; omega) (by decide)) fun q4 H8 s8 h8 => ?_
    have s48 := s46.trans (s27.trans s8)
    have v4 : LvP K H8 (.ref q4) := lv_tup h8 (dps_app (.cons (dp_same s48 e1) .nil) (dps_drop 1 (dps_same s48 dE4))) (ok_app okd (ok_sub okE fun e he => List.mem_of_mem_drop he)) (by rw [List.length_append, List.length_drop]; show 1 + _ ≤ 100; omega)
    refine ⟨_, rfl, a, es, rfl, seqT_same s48 ha4, fun q5 m5 => ?_⟩
    have t5 := same_new (u := .tup es.reverse) m5
    refine ⟨_, rfl, a, es, rfl, .inr (seqT_same (s48.trans t5) ha4), fun q6 m6 => ⟨len0, fun q7 m7 => ⟨len6, fun L4 m8 => ?_⟩⟩⟩
    obtain ⟨H9, eH9, s9, g1, g2, g3, g4⟩ := four (o4 := .lst [V.ref q1, .ref q2, .ref q4, .ref q5, .ref q6, .ref q7]) m5 m6 m7 m8
    have L4p : L4 ≠ p := by
      have PP := P4.same s48
      exact (((PP.same t5).same (same_new m6)).same (same_new m7)).free m8 |>.1
    have s49 := s48.trans s9
    have lv : ∀ v ∈ [V.ref q1, .ref q2, .ref q4, .ref q5, .ref q6, .ref q7], LvP K H9 v := fun v hv => by
      rcases List.mem_cons.mp hv with rfl | hv
      · exact v1.hold (Hold.of (s6.trans (s27.trans (s8.trans s9))))
      rcases List.mem_cons.mp hv with rfl | hv
      · exact v2.hold (Hold.of (s27.trans (s8.trans s9)))
      rcases List.mem_cons.mp hv with rfl | hv
      · exact v4.hold (Hold.of s9)
      rcases List.mem_cons.mp hv with rfl | hv
      · exact lv_tup (SqT.of g1) (dps_rev (dps_same s49 dE4)) (ok_sub okE fun e he => List.mem_reverse.mp he) (by rw [List.length_reverse]; omega)
      rcases List.mem_cons.mp hv with rfl | hv
      · exact ⟨_, .lst (SqL.of g2) (dps_same s49 dE4), (ok_lst okE).1, (ok_lst okE).2, by show (x.map enD).length ≤ 100; omega⟩
      rw [List.mem_singleton.mp hv]
      exact lv_tup (SqT.of g3) .nil (fun e he => by cases he) (Nat.zero_le _)
    have P9 := P4.same s49
    have ht9 := seqT_same s49 ht4
    have dT9 := dps_same s49 dT4
    have B9 := B4.trans (But.of_same s49)
    rw [← eH9]
    clear eH9 m5 m6 m7 m8 t5 v1 v2 v4 s5 s6 s7 s8 s45 s46 s27 s48 s9 s49 h5 h6 h7 h8 g1 g2 g3 t1 t2 m1 m2 e1 ha4 dE4 ht4 dT4 B4 P4
    refine ⟨p, c, L4, _, _, rfl, P9, by omega, L4p, SqL.of g4, by show 0 < 6; decide, by show 6 ≤ 1000; decide, fun f0 i2' HA hf0 PA BA => ?_⟩
    have hoA := Hold.pen BA P9
    obtain ⟨df, f1, f2, f3, f4⟩ := (lv f0 (List.mem_of_getElem? hf0)).hold hoA
    have htA := seqT_hold hoA ht9
    have dTA := dps_hold hoA dT9
    have BA := B9.trans BA
    clear lv hoA g4 L4p ht9 dT9 P9 B9 hf0
    have okT := lvs_ok tr
    have okf : AllOk 2 [df] := ok_one ⟨f2, f3⟩
    have leT : ∀ e ∈ tr.map lvD, (rowsD e).length ≤ 100 := fun e he => by
      obtain ⟨x, hx, rfl⟩ := List.mem_map.mp he
      have := xl x hx
      show (x.map enD).length ≤ 100
      rw [List.length_map]
      omega
    have tlD : (tr.map lvD).length = tr.length := List.length_map _
    refine ⟨_, rfl, _, rfl, _, rfl, to_use htA fun q1 H5 s5 h5 => ⟨_, rfl, len1, fun b1 m1 => ?_⟩⟩
    have t1 := same_new (u := .tup [f0]) m1
    refine catA_use (seqT_same t1 h5) (SqT.of upd_same) (Nat.le_trans (by rw [List.length_take]; show _ + 1 ≤ 1000; omega) (by decide)) fun q2 H6 s6 h6 => ?_
    have s46 := s5.trans (t1.trans s6)
    have ek : ((kk : Nat) : Int) + 1 = ((kk + 1 : Nat) : Int) := rfl
    refine ⟨_, rfl, _, rfl, _, _, rfl, rfl, _, rfl, ?_⟩
    refine from_use (m := kk + 1) (seqT_same s46 htA) fun q3 H7 s7 h7 => catA_use (seqT_same s7 h6) h7 (Nat.le_trans (by rw [List.length_append, List.length_take, List.length_drop]; show _ + 1 + _ ≤ 1000; omega) (by decide)) fun q4 H8 s8 h8 => ?_
    have s48 := s46.trans (s7.trans s8)
    have dT8 := dps_same s48 dTA
    have w8 : TrP K H8 (.ref q4) := by
      refine tr_tup h8 (dps_app (dps_app (dps_take kk dT8) (.cons (dp_same s48 f1) .nil)) (dps_drop (kk + 1) dT8)) (ok_app (ok_app (ok_sub okT fun e he => List.mem_of_mem_take he) okf) (ok_sub okT fun e he => List.mem_of_mem_drop he)) ?_ fun e he => ?_
      · rw [List.length_append, List.length_append, List.length_take, List.length_drop]
        show _ + 1 + _ ≤ 100
        omega
      · rcases List.mem_append.mp he with g | g
        · rcases List.mem_append.mp g with g | g
          · exact leT e (List.mem_of_mem_take g)
          · rw [List.mem_singleton.mp g]
            exact f4
        · exact leT e (List.mem_of_mem_drop g)
    have ht8 := seqT_same s48 htA
    have P8 := PA.same s48
    have B8 := BA.trans (But.of_same s48)
    clear s5 t1 s6 s46 s7 s8 s48 m1 h5 h6 h7 h8 f1 htA dTA PA BA
    refine ⟨_, rfl, _, rfl, _, rfl, _, rfl, _, rfl, t, ut, rfl, .inr ht8, fun q6 m6 => ⟨len0, fun q7 m7 => ⟨_, rfl, t, ut, rfl, seqT_same ((same_new m6).trans (same_new m7)) ht8, fun q8 m8 => ?_⟩⟩⟩
    have t6 := same_new (u := .lst ut) m6
    have t7 := same_new (u := .tup []) m7
    have t8 := same_new (u := .tup ut.reverse) m8
    have t68 := t6.trans (t7.trans t8)
    have e6 := (t7.trans t8) _ _ (upd_same (H := H8) (a := q6) (o := .lst ut))
    have e7 := t8 _ _ (upd_same (H := upd H8 q6 (.lst ut)) (a := q7) (o := .tup []))
    have e8 := upd_same (H := upd (upd H8 q6 (.lst ut)) q7 (.tup [])) (a := q8) (o := .tup ut.reverse)
    generalize upd (upd (upd H8 q6 _) q7 _) q8 _ = H9 at t68 e6 e7 e8 ⊢
    clear m6 m7 m8 t6 t7 t8
    have ht9 := seqT_same t68 ht8
    refine ⟨_, rfl, _, rfl, _, rfl, _, rfl, last_use ht9 (by omega) fun r1 HB sB hB => catA_use (seqT_same sB ht9) hB (Nat.le_trans (by rw [List.length_drop]; omega : _ ≤ 1000) (by decide)) fun r2 HC sC hC => ⟨len8, fun L5 nL5 => ?_⟩⟩
    have s8D := (t68.trans (sB.trans sC)).trans (same_new (u := .lst [V.ref q4, .ref q4, .ref q4, .ref q6, .ref q7, .non, .ref q8, .ref r2]) nL5)
    have s9D := (sB.trans sC).trans (same_new (u := .lst [V.ref q4, .ref q4, .ref q4, .ref q6, .ref q7, .non, .ref q8, .ref r2]) nL5)
    have sCD := same_new (u := .lst [V.ref q4, .ref q4, .ref q4, .ref q6, .ref q7, .non, .ref q8, .ref r2]) nL5
    have L5p := (P8.same (t68.trans (sB.trans sC))).free nL5
    have hL5 := upd_same (H := HC) (a := L5) (o := .lst [V.ref q4, .ref q4, .ref q4, .ref q6, .ref q7, .non, .ref q8, .ref r2])
    generalize upd HC L5 _ = HD at s8D s9D sCD hL5 ⊢
    have dTD := dps_same s8D dT8
    have tv : ∀ v ∈ [V.ref q4, .ref q4, .ref q4, .ref q6, .ref q7, .non, .ref q8, .ref r2], TrP K HD v := fun v hv => by
      have w4 := w8.hold (Hold.of s8D)
      rcases List.mem_cons.mp hv with rfl | hv
      · exact w4
      rcases List.mem_cons.mp hv with rfl | hv
      · exact w4
      rcases List.mem_cons.mp hv with rfl | hv
      · exact w4
      rcases List.mem_cons.mp hv with rfl | hv
      · exact ⟨_, .lst (SqL.of (s9D _ _ e6)) dTD, (ok_lst okT).1, (ok_lst okT).2, by show (tr.map lvD).length ≤ 100; omega, leT⟩
      rcases List.mem_cons.mp hv with rfl | hv
      · exact tr_tup (SqT.of (s9D _ _ e7)) .nil (fun e he => by cases he) (Nat.zero_le _) (fun e he => by cases he)
      rcases List.mem_cons.mp hv with rfl | hv
      · exact ⟨_, .non, rfl, Nat.zero_le _, Nat.zero_le _, fun e he => by cases he⟩
      rcases List.mem_cons.mp hv with rfl | hv
      · exact tr_tup (SqT.of (s9D _ _ e8)) (dps_rev dTD) (ok_sub okT fun e he => List.mem_reverse.mp he) (by rw [List.length_reverse]; omega) (fun e he => leT e (List.mem_reverse.mp he))
      rw [List.mem_singleton.mp hv]
      refine tr_tup (seqT_same sCD hC) (dps_app dTD (dps_drop (ut.length - 1) dTD)) (ok_app okT (ok_sub okT fun e he => List.mem_of_mem_drop he)) (by rw [List.length_append, List.length_drop]; omega) fun e he => ?_
      rcases List.mem_append.mp he with g | g
      · exact leT e g
      · exact leT e (List.mem_of_mem_drop g)
    have PD := P8.same s8D
    refine ⟨p, c, L5, _, _, rfl, PD, by omega, L5p.1, SqL.of hL5, by show 0 < 8; decide, by show 8 ≤ 1000; decide, fun v i HE hv PE BE => ?_⟩
    exact q HE v PE (B8.trans ((But.of_same s8D).trans BE)) ((tv v (List.mem_of_getElem? hv)).hold (Hold.pen BE PD))
end
end Tn
namespace Tml
open PySem PySem.Spec PyProof.Rows L2 Pen Dat Ki Fi Gr No Lf Cm Cn Abk Ack Tr Ta Tb Tc Td Sm Sn So Spm Sqm Te Tg Th Tj Tk Tq Tw Ty Tz Tv Tp Tn Gd
/-! ## k27: the law -/
def spLaw (K : PySem.W.Frag) : Sp := fun vs H Q _ => ∃ (a : Addr) (ns : List Int), vs = [.ref a] ∧ SqL K H a (ns.map V.int) ∧ ns.length ≤ 63 ∧ ∀ H', Q (.bl true) H'
/-- what the laps keep -/
structure Sr (K : PySem.W.Frag) (H : Hp) (p c : Addr) (k : Nat) (r : Addr) (us : List V) (R : CRow) : Prop where
  pen : PenC H p c k
  row : H r = some (.lst us)
  cls : All2 (ClAt K H) us R
  rp : r ≠ p
  rc : r ≠ c
section
variable {K : PySem.W.Frag} {R : CRow} {H H' : Hp} {p c r : Addr} {k k' : Nat} {us : List V}
theorem Sr.same (s : Same H H') (h : Sr K H p c k r us R) : Sr K H' p c k r us R := ⟨h.pen.same s, s _ _ h.row, h.cls.imp fun _ _ z => z.firm (Firm.of s), h.rp, h.rc⟩
theorem Sr.more (l : k ≤ k') (h : Sr K H p c k r us R) : Sr K H p c k' r us R := ⟨h.pen.more l, h.row, h.cls, h.rp, h.rc⟩
theorem Sr.drawn (b : But p H H') (P : PenC H' p c k') (h : Sr K H p c k r us R) : Sr K H' p c k' r us R := ⟨P, b _ _ h.row h.rp, h.cls.imp fun _ _ z => z.firm (Firm.pen b h.pen), h.rp, h.rc⟩
theorem Sr.app {v : V} {cl : List Int} (h : Sr K H p c k r us R) (hv : ClAt K H v cl) : Sr K (upd H r (.lst (us ++ [v]))) p c k r (us ++ [v]) (R ++ [cl]) := by
  have f : Firm H (upd H r (.lst (us ++ [v]))) := Firm.upd h.row rfl
  exact ⟨h.pen.upd h.rp h.rc, upd_same, (h.cls.imp fun _ _ z => z.firm f).snoc (hv.firm f), h.rp, h.rc⟩
end
theorem lst_nilI (r : List Int) : PyData.eqv (.list (r.map .int)) (.list []) = decide (r = []) := by
  cases r with
  | nil => rfl
  | cons x r => simp [PyData.eqv, PyData.eqvAll]
theorem sh_lints (r : List Int) : SeqAt.shaped (.list (r.map .int)) = true := by
  obtain ⟨a, b⟩ := Tg.lay_int r
  show (PyData.canLayAll0 (r.map .int) && decide (PyData.depthAll (r.map .int) + 1 ≤ 64)) = true
  rw [a, b]
  rfl
/-- the variables that nothing tells, of the first j -/
def freeB (T : List Int) (v : Int) : Bool := !decide (v ∈ T) && !decide (-v ∈ T)
def leftV (T : List Int) (j : Nat) : List Int := ((List.range j).map fun (k : Nat) => 1 + (k : Int)).filter (freeB T)
theorem leftV_succ (T : List Int) (j : Nat) : leftV T (j + 1) = if freeB T (1 + (j : Int)) = true then leftV T j ++ [1 + (j : Int)] else leftV T j := by
  unfold leftV
  rw [List.range_succ, List.map_append, List.filter_append]
  by_cases c : freeB T (1 + (j : Int)) = true
  · rw [if_pos c]
    exact congrArg _ (List.filter_cons_of_pos c)
  · rw [if_neg c]
    rw [show List.filter (freeB T) (List.map (fun (k : Nat) => 1 + (k : Int)) [j]) = [] from List.filter_cons_of_neg c, List.append_nil]
theorem leftV_len (T : List Int) (j : Nat) : (leftV T j).length ≤ j := by
  refine Nat.le_trans (List.length_filter_le _ _) ?_
  rw [List.length_map, List.length_range]
  exact Nat.le_refl _
theorem leftV_mem {T : List Int} {m : Nat} {z : Int} (h : z ∈ leftV T m) : 1 ≤ z ∧ z ≤ m ∧ ¬ z ∈ T ∧ ¬ -z ∈ T := by
  obtain ⟨h1, h2⟩ := List.mem_filter.mp h
  obtain ⟨k, hk, rfl⟩ := List.mem_map.mp h1
  have := List.mem_range.mp hk
  unfold freeB at h2
  obtain ⟨a, b⟩ := (Bool.and_eq_true _ _).mp h2
  refine ⟨by omega, by omega, fun c => ?_, fun c => ?_⟩
  · rw [decide_eq_true c] at a
    cases a
  · rw [decide_eq_true c] at b
    cases b
section
variable {P : Program} {w : World} {K : PySem.W.Frag} {mg : Str → Option Value} {base : Heap} {f : Addr} {fd : FuncData}
abbrev nLaw : List Str := ["_law_script", "_law_pen_here", "_law_many", "_law_row", "_law_trail", "_law_lap", "_law_told", "_law_n", "_law_tried", "_law_answer", "_law_trues", "_law_entry", "_law_last", "_law_number", "_law_literal", "_law_fresh", "_law_variable", "_law_left"]
theorem scLaw : FnScope nLaw ["_law_script"] (defScope sLaw) := ⟨rfl, rfl, rfl, by decide +kernel, rfl, by decide +kernel, by decide +kernel⟩
theorem ok_law (F : FnP K "law" sLaw f fd) (T : Tj.Tx mg)
    {fPP fD fDR fU fUR fIT fBT fLT fLL fLE fLRI fGB fK : Addr} {dPP dD dDR dU dUR dIT dBT dLT dLL dLE dLRI dGB dK : FuncData}
    (GPP : FnOk P w K mg base CX0 1 fPP dPP ["_law_script"] (spPen K)) (gPP : mg "_law_pen" = some (.ref fPP)) (kPP : PySem.W.keepIn K (.ref fPP) = true) (bPP : Binds K dPP ["_law_script"] [])
    (GD : FnOk P w K mg base CX0 1 fD dD ["_law_pen_here", "_law_many"] (spDraw)) (gD : mg "_law_draw" = some (.ref fD)) (kD : PySem.W.keepIn K (.ref fD) = true) (bD : Binds K dD ["_law_pen_here", "_law_many"] [])
    (GDR : FnOk P w K mg base CX0 4 fDR dDR ["_law_pen_here", "_law_many", "_law_rows"] (spDR K)) (gDR : mg "_law_drawn_row" = some (.ref fDR)) (kDR : PySem.W.keepIn K (.ref fDR) = true) (bDR : Binds K dDR ["_law_pen_here", "_law_many", "_law_rows"] [])
    (GU : FnOk P w K mg base CX0 2 fU dU ["many", "row", "trail"] (spUnits K)) (gU : mg "units" = some (.ref fU)) (kU : PySem.W.keepIn K (.ref fU) = true) (bU : Binds K dU ["many", "row", "trail"] [])
    (GUR : FnOk P w K mg base CX0 4 fUR dUR ["_law_many", "_law_row", "_law_trail", "_law_told"] (spUR K)) (gUR : mg "_law_units_right" = some (.ref fUR)) (kUR : PySem.W.keepIn K (.ref fUR) = true) (bUR : Binds K dUR ["_law_many", "_law_row", "_law_trail", "_law_told"] [])
    (GIT : FnOk P w K mg base CX0 4 fIT dIT ["many", "row", "trail"] (spIT K)) (gIT : mg "is_trail" = some (.ref fIT)) (kIT : PySem.W.keepIn K (.ref fIT) = true) (bIT : Binds K dIT ["many", "row", "trail"] [])
    (GBT : FnOk P w K mg base CX0 3 fBT dBT ["_law_pen_here", "_law_trail", "_law_many"] (spBT K)) (gBT : mg "_law_bent_trail" = some (.ref fBT)) (kBT : PySem.W.keepIn K (.ref fBT) = true) (bBT : Binds K dBT ["_law_pen_here", "_law_trail", "_law_many"] [])
    (GLT : FnOk P w K mg base CX0 3 fLT dLT ["_law_many", "_law_row", "_law_trail"] (spLT K)) (gLT : mg "_law_is_trail" = some (.ref fLT)) (kLT : PySem.W.keepIn K (.ref fLT) = true) (bLT : Binds K dLT ["_law_many", "_law_row", "_law_trail"] [])
    (GLL : FnOk P w K mg base CX0 1 fLL dLL ["_law_trail"] (spLits K)) (gLL : mg "_law_literals" = some (.ref fLL)) (kLL : PySem.W.keepIn K (.ref fLL) = true) (bLL : Binds K dLL ["_law_trail"] [])
    (GLE : FnOk P w K mg base CX0 2 fLE dLE ["many", "row", "trail", "n"] (spLearnt K)) (gLE : mg "learnt" = some (.ref fLE)) (kLE : PySem.W.keepIn K (.ref fLE) = true) (bLE : Binds K dLE ["many", "row", "trail", "n"] [])
    (GLRI : FnOk P w K mg base CX0 4 fLRI dLRI ["_law_row", "_law_trail", "_law_n", "_law_told"] (spLRI K)) (gLRI : mg "_law_learnt_right" = some (.ref fLRI)) (kLRI : PySem.W.keepIn K (.ref fLRI) = true) (bLRI : Binds K dLRI ["_law_row", "_law_trail", "_law_n", "_law_told"] [])
    (GGB : FnOk P w K mg base CX0 1 fGB dGB ["trail", "level", "literal", "n"] (spGone K)) (gGB : mg "gone_back" = some (.ref fGB)) (kGB : PySem.W.keepIn K (.ref fGB) = true) (bGB : Binds K dGB ["trail", "level", "literal", "n"] [])
    (GK : FnOk P w K mg base CX0 2 fK dK ["_law_pen_here", "_law_some"] (spPick K)) (gK : mg "_law_pick" = some (.ref fK)) (kK : PySem.W.keepIn K (.ref fK) = true) (bK : Binds K dK ["_law_pen_here", "_law_some"] [])
    : FnG P w K mg base CX0 5 f fd ["_law_script"] (spLaw K) := by
  refine FnG.mk_of F scLaw (fun vs H Q E h => ?_) (fun cdv A outer s H vs Q E hg hr h => ?_)
  · obtain ⟨a, ns, rfl, _⟩ := h
    rfl
  · obtain ⟨a, ns, rfl, hS, hl, q⟩ := h
    have hu := hu_of hr
    have h65 : (A.deeper (envOfC (Str.ofString "law") (defScope sLaw) s.heap.objs.size f cdv)).units + 65 < cLine := by
      have := hr.un
      omega
    have kb : PySem.W.kitOne K (.type "bool") (.type "bool") = some true := kit_ty (a := "bool") (b := "bool") (r := true) (by decide +kernel)
    refine ⟨_, PSs.nox (pss_cons (ps_set (i := 1) scLaw.nd rfl (Or.inl rfl) (pe_call GPP (hr.mono (by decide)) (by rfl) gPP kPP bPP .nil pass0 (pa_cons (pv 0) pa_nil)))
      (pss_cons (ps_set (i := 2) scLaw.nd rfl (Or.inl rfl) (pe_op op_add pe_int (pe_call GD (hr.mono (by decide)) (by rfl) gD kD bD .nil pass0 (pa_cons (pv 1) (pa_cons pe_int pa_nil)))))
      (pss_cons (ps_par (i := 3) (j := 4) rfl scLaw.nd rfl rfl (by decide) rfl rfl (pa_cons (pe_callTy call_list_of (by rfl) T.list (by decide +kernel) (pa_cons (pe_call GDR (hr.mono (by decide)) (by rfl) gDR kDR bDR .nil pass0 (pa_cons (pv 1) (pa_cons (pv 2) (pa_cons (pe_op op_add pe_int (pe_call GD (hr.mono (by decide)) (by rfl) gD kD bD .nil pass0 (pa_cons (pv 1) (pa_cons pe_int pa_nil)))) pa_nil)))) pa_nil)) (pa_cons (pe_tup (pa_cons (pe_tup pa_nil) pa_nil)) pa_nil)) (by rfl))
      (pss_cons (ps_for PassesOwn.never rfl (pi_range1 (by rfl) T.range (pa_cons pe_int pa_nil)) (pg_name (i := 5) scLaw.nd rfl (Or.inl rfl))
        (pss_cons (ps_set (i := 6) scLaw.nd rfl (Or.inl rfl) (pe_call GU (hr.mono (by decide)) (by rfl) gU kU bU .nil pass0 (pa_cons (pv 2) (pa_cons (pe_callTy (T := "tuple") (r := rTupOf K) (by exact call_tuple_of) (by rfl) T.tuple (by decide +kernel) (pa_cons (pv 3) pa_nil)) (pa_cons (pv 4) pa_nil)))))
        (pss_cons (ps_if (pt_not (pt_val (pe_call GUR (hr.mono (by decide)) (by rfl) gUR kUR bUR .nil pass0 (pa_cons (pv 2) (pa_cons (pv 3) (pa_cons (pv 4) (pa_cons (pv 6) pa_nil)))))))
          (pss_one (ps_ret pe_bl))
          pss_nil)
        (pss_cons (ps_asg (pv 6) (pg_tup rfl (pgs_cons (pg_name (i := 4) scLaw.nd rfl (Or.inl rfl)) (pgs_cons (pg_name (i := 7) scLaw.nd rfl (Or.inl rfl)) pgs_nil))))
        (pss_cons (ps_if (pt_cmpR op_notBl (pe_call GIT (hr.mono (by decide)) (by rfl) gIT kIT bIT .nil pass0 (pa_cons (pv 2) (pa_cons (pv 3) (pa_cons (pv 4) pa_nil)))) pe_bl (nomark _))
          (pss_one (ps_ret pe_bl))
          pss_nil)
        (pss_cons (ps_set (i := 8) scLaw.nd rfl (Or.inl rfl) (pe_call GBT (hr.mono (by decide)) (by rfl) gBT kBT bBT .nil pass0 (pa_cons (pv 1) (pa_cons (pv 4) (pa_cons (pv 2) pa_nil)))))
        (pss_cons (ps_set (i := 9) scLaw.nd rfl (Or.inl rfl) (pe_call GIT (hr.mono (by decide)) (by rfl) gIT kIT bIT .nil pass0 (pa_cons (pv 2) (pa_cons (pv 3) (pa_cons (pv 8) pa_nil)))))
        (C8.pss_cut (ps_if (PW.pt (pw_or (pt_not (pt_val (pe_callB call_isi (by rfl) T.isinstance (by decide +kernel) (pa_cons (pv 9) (pa_cons (pe_bltn (v := .ty "bool") (by rfl) T.bool (by decide +kernel) rfl) pa_nil))))) (pw_or1 (pt_cmpR op_ne (pv 9) (pe_call GLT (hr.mono (by decide)) (by rfl) gLT kLT bLT .nil pass0 (pa_cons (pv 2) (pa_cons (pv 3) (pa_cons (pv 8) pa_nil)))) (nomark _)))))
          (pss_one (ps_ret pe_bl))
          pss_nil)
        (pss_cons (ps_set (i := 10) scLaw.nd rfl (Or.inr rfl) (pe_call GLL (hr.mono (by decide)) (by rfl) gLL kLL bLL .nil pass0 (pa_cons (pv 4) pa_nil)))
        (C8.pss_cut (ps_if (PW.pt (pw_and (pt_cmpR op_notN (pv 7) pe_non (nomark _)) (pw_and1 (pt_cmpR (op_neD hr.units) (pe_ix (r := L2.rIxT K) (by exact ix_tup) (pe_call GU (hr.mono (by decide)) (by rfl) gU kU bU .nil pass0 (pa_cons (pv 2) (pa_cons (pe_callTy (T := "tuple") (r := rTupOf K) (by exact call_tuple_of) (by rfl) T.tuple (by decide +kernel) (pa_cons (pv 3) pa_nil)) (pa_cons (pv 4) pa_nil)))) pe_int (fun _ _ => rfl)) (pv 4) (nomark _)))))
          (pss_one (ps_ret pe_bl))
          pss_nil)
        (pss_cons (ps_if (pt_cmpR op_notN (pv 7) pe_non (nomark _))
          (pss_cons (ps_set (i := 12) scLaw.nd rfl (Or.inr rfl) (pe_lc (own := [("_law_entry", 11)]) (g := gName 11) (tt := tYes) rfl scLaw.nd (pi_tup (pe_ix (r := L2.rIxT K) (by exact ix_tup) (pv 4) (pe_un un_neg pe_int) (fun _ _ => rfl))) (blkOk_by (N := nLaw) (sc := defScope sLaw) (by decide +kernel)) (fun _ _ _ _ _ => pg_name (i := 11) scLaw.nd rfl (Or.inl rfl)) (fun _ _ _ _ _ => pts_nil) (fun _ _ _ _ _ => (pe_ix (r := L2.rIxT K) (by exact ix_tup) (pv 11) pe_int (fun _ _ => rfl)))))
          (pss_cons (ps_if (PW.pt (pw_or (pt_cmpR op_eq (pe_callB call_len_seq (by rfl) T.len PySem.boot_len (pa_cons (pv 4) pa_nil)) pe_int (nomark _)) (pw_or1 (pt_cmpR (op_eqD hr.units) (pe_lc (own := [("_law_number", 13)]) (g := gName 13) rfl scLaw.nd (pi_tup (pe_ix ix_list (pv 3) (pv 7) (fun _ _ => rfl))) (blkOk_by (N := nLaw) (sc := defScope sLaw) (by decide +kernel)) (fun _ _ _ _ _ => pg_name (i := 13) scLaw.nd rfl (Or.inl rfl)) (fun _ _ _ _ _ => pts_one (pt_cmpR (r := rIn K false) (by exact op_in_seq) (pe_un un_neg (pv 13)) (pv 12) (by rfl))) (fun _ _ _ _ _ => pe_int)) (pe_lst pa_nil) (nomark _)))))
            (pss_one (ps_ret pe_bl))
            pss_nil)
          (pss_cons (ps_set (i := 6) scLaw.nd rfl (Or.inl rfl) (pe_call GLE (hr.mono (by decide)) (by rfl) gLE kLE bLE .nil pass0 (pa_cons (pv 2) (pa_cons (pe_callTy (T := "tuple") (r := rTupOf K) (by exact call_tuple_of) (by rfl) T.tuple (by decide +kernel) (pa_cons (pv 3) pa_nil)) (pa_cons (pv 4) (pa_cons (pv 7) pa_nil))))))
          (pss_cons (ps_if (pt_not (pt_val (pe_call GLRI (hr.mono (by decide)) (by rfl) gLRI kLRI bLRI .nil pass0 (pa_cons (pv 3) (pa_cons (pv 4) (pa_cons (pv 7) (pa_cons (pv 6) pa_nil)))))))
            (pss_one (ps_ret pe_bl))
            pss_nil)
          (pss_cons (ps_set (i := 14) scLaw.nd rfl (Or.inl rfl) (pe_ix ix_list (pe_lc (own := [("_law_number", 13)]) (g := gName 13) rfl scLaw.nd (pi_tup (pe_ix (r := L2.rIxT K) (by exact ix_tup) (pv 6) pe_int (fun _ _ => rfl))) (blkOk_by (N := nLaw) (sc := defScope sLaw) (by decide +kernel)) (fun _ _ _ _ _ => pg_name (i := 13) scLaw.nd rfl (Or.inl rfl)) (fun _ _ _ _ _ => pts_one (pt_cmpR (r := rIn K false) (by exact op_in_seq) (pe_un un_neg (pv 13)) (pv 12) (by rfl))) (fun _ _ _ _ _ => (pv 13))) pe_int (fun _ _ => rfl)))
          (pss_cons (ps_expr (pe_bm PySem.F.plainAttrs_list PySem.F.slot_list_append PySem.F.type_list_append mt_append (pv 3) (pa_cons (pe_ix (r := L2.rIxT K) (by exact ix_tup) (pv 6) pe_int (fun _ _ => rfl)) pa_nil)))
          (pss_cons (ps_set (i := 15) scLaw.nd rfl (Or.inl rfl) (pe_op op_catA (pe_slice sl_tupA (pv 4) po_none (po_some (pe_ix (r := L2.rIxT K) (by exact ix_tup) (pv 6) pe_int (fun _ _ => rfl)))) (pe_tup (pa_cons (pe_op op_catA (pe_ix (r := L2.rIxT K) (by exact ix_tup) (pv 4) (pe_ix (r := L2.rIxT K) (by exact ix_tup) (pv 6) pe_int (fun _ _ => rfl)) (fun _ _ => rfl)) (pe_tup (pa_cons (pe_tup (pa_cons (pv 14) (pa_cons (pe_op op_sub (pe_callB call_len_seq (by rfl) T.len PySem.boot_len (pa_cons (pv 3) pa_nil)) pe_int) pa_nil))) pa_nil))) pa_nil))))
          (pss_cons (ps_if (pt_cmpR (op_neD hr.units) (pe_call GGB (hr.mono (by decide)) (by rfl) gGB kGB bGB .nil pass0 (pa_cons (pv 4) (pa_cons (pe_ix (r := L2.rIxT K) (by exact ix_tup) (pv 6) pe_int (fun _ _ => rfl)) (pa_cons (pv 14) (pa_cons (pe_op op_sub (pe_callB call_len_seq (by rfl) T.len PySem.boot_len (pa_cons (pv 3) pa_nil)) pe_int) pa_nil))))) (pv 15) (nomark _))
            (pss_one (ps_ret pe_bl))
            pss_nil)
          (pss_cons (ps_set (i := 4) scLaw.nd rfl (Or.inl rfl) (pv 15))
          (pss_one ps_continue))))))))))
          pss_nil)
        (pss_cons (ps_setLc (i := 17) (own := [("_law_variable", 16)]) (g := gName 16) (by rfl) scLaw.nd rfl rfl (sw_true rfl rfl rfl (by decide +kernel)) (pi_range2 (by rfl) T.range (pa_cons pe_int (pa_cons (pe_op op_add (pv 2) pe_int) pa_nil))) (blkOk_by (N := nLaw) (sc := defScope sLaw) (by decide +kernel)) (fun _ _ _ _ _ => pg_name (i := 16) scLaw.nd rfl (Or.inl rfl)) (fun _ _ _ _ _ => pts_one (PW.pt (pw_and (pt_cmpR (r := rIn K true) (by exact op_notIn_seq) (pv 16) (pv 10) (by rfl)) (pw_and1 (pt_cmpR (r := rIn K true) (by exact op_notIn_seq) (pe_un un_neg (pv 16)) (pv 10) (by rfl)))))) (fun _ _ _ _ _ => (pv 16)))
        (pss_cons (ps_if (pt_cmpR (op_eqD hr.units) (pv 17) (pe_lst pa_nil) (nomark _))
          (pss_one (ps_ret pe_bl))
          pss_nil)
        (pss_one (ps_set (i := 4) scLaw.nd rfl (Or.inl rfl) (pe_op op_catA (pv 4) (pe_tup (pa_cons (pe_tup (pa_cons (pe_tup (pa_cons (pe_op op_mul (pe_call GK (hr.mono (by decide)) (by rfl) gK kK bK .nil pass0 (pa_cons (pv 1) (pa_cons (pv 17) pa_nil))) (pe_call GK (hr.mono (by decide)) (by rfl) gK kK bK .nil pass0 (pa_cons (pv 1) (pa_cons (pe_lst (pa_cons pe_int (pa_cons (pe_un un_neg pe_int) pa_nil))) pa_nil)))) (pa_cons pe_non pa_nil))) pa_nil)) pa_nil))))))))))))))))))
      (pss_one (ps_ret pe_bl)))))), ?_⟩
    refine ⟨_, rfl, a, ns, rfl, hS, hl, fun p c H1 np s1 P1 => ?_⟩
    refine ⟨_, rfl, p, c, _, 5, rfl, P1, by decide, by decide, by decide, fun d H2 d0 d1 P2 B2 => ⟨_, _, rfl, rfl, ?_⟩⟩
    obtain ⟨m, em⟩ : ∃ m : Nat, 2 + d = (m : Nat) := ⟨(2 + d).toNat, by omega⟩
    rw [show ((fun i j => V.int (i + j)) 2 d : V) = V.int ((m : Nat) : Int) from congrArg V.int em]
    have m1 : 1 ≤ m := by omega
    have m6 : m ≤ 6 := by omega
    clear em d0 d1
    refine ⟨_, rfl, _, rfl, _, rfl, p, c, _, 12, rfl, P2, by decide, by decide, by decide, fun d2 H3 e0 e1 P3 B3 => ⟨_, _, rfl, rfl, ?_⟩⟩
    obtain ⟨n, en⟩ : ∃ n : Nat, 4 + d2 = (n : Nat) := ⟨(4 + d2).toNat, by omega⟩
    rw [show ((fun i j => V.int (i + j)) 4 d2 : V) = V.int ((n : Nat) : Int) from congrArg V.int en]
    have n15 : n ≤ 15 := by omega
    clear en e0 e1
    refine ⟨p, c, _, m, n, rfl, P3, by decide, m1, by omega, by omega, fun H4 t0 us0 R0 P4 B4 ht0 au0 l0 ok0 => ?_⟩
    have au4 : All2 (ClAt K H4) us0 R0 := au0.imp fun _ _ ⟨q, e, h⟩ => ⟨q, e, SqT.of h⟩
    refine ⟨t0, us0, rfl, .inr (SqT.of ht0), fun r nr => ⟨len0, fun e1 ne1 => ⟨len1, fun t1 nt1 => ⟨_, _, rfl, ?_⟩⟩⟩⟩
    have sr := same_new (u := .lst us0) nr
    have se := same_new (u := .tup []) ne1
    have st := same_new (u := .tup [V.ref e1]) nt1
    obtain ⟨rp, rc⟩ := P4.free nr
    have s5 := sr.trans (se.trans st)
    have S0 : Sr K (upd (upd (upd H4 r (.lst us0)) e1 (.tup [])) t1 (.tup [V.ref e1])) p c 300 r us0 R0 := ⟨(P4.same s5).more (by omega), (se.trans st) _ _ upd_same, au4.imp fun _ _ h => h.firm (Firm.of s5), rp, rc⟩
    have hT5 : TrAt K (upd (upd (upd H4 r (.lst us0)) e1 (.tup [])) t1 (.tup [V.ref e1])) t1 ([] ++ [[]]) := ⟨[.ref e1], SqT.of upd_same, .cons ⟨e1, [], rfl, SqT.of (st _ _ upd_same), .nil⟩ .nil⟩
    generalize upd (upd (upd H4 r _) e1 _) t1 _ = H5 at S0 hT5 ⊢
    clear nr ne1 nt1 sr se st s5 P4 B4 ht0 au0 au4 P3 B3 P2 B2 P1 s1 np rp rc
    have M0 := StM.start ok0
    have A0 : ∀ cl ∈ R0, cl.Pairwise fun x y => x.natAbs < y.natAbs := fun cl hc => List.pairwise_map.mp (ok0 cl hc).up
    refine ⟨14, rfl, by decide, by decide, for_range (lo := 0) (n := (14 : Int).toNat)
      (fun j σ H' => ∃ (t : Addr) (x5 x6 x7 x8 x9 x10 x12 x14 x15 x17 : Option V) (us : List V) (R : CRow) (ts : Trail) (l : Level), σ = [some (.ref a), some (.ref p), some (.int (m : Nat)), some (.ref r), some (.ref t), x5, x6, x7, x8, x9, x10, none, x12, none, x14, x15, none, x17] ∧
        Sr K H' p c (300 + 10 * j) r us R ∧ TrAt K H' t (ts ++ [l]) ∧ StM NoM m R ts l ∧ R.length ≤ 15 + j ∧ ∀ cl ∈ R, cl.Pairwise fun x y => x.natAbs < y.natAbs)
      ⟨t1, _, _, _, _, _, _, _, _, _, _, us0, R0, [], [], rfl, S0, hT5, M0, by omega, A0⟩ ?_ ?_⟩
    · clear S0 hT5 M0 A0
      rintro j σ H6 hj ⟨t, x5, x6, x7, x8, x9, x10, x12, x14, x15, x17, us, R, ts, l, rfl, S, hT, M, Rl, asc⟩
      have hj : j < 14 := hj
      refine ⟨_, rfl, _, rfl, r, us, rfl, .inl ⟨SqL.of S.row, fun q0 nq0 => ?_⟩⟩
      have s6 := same_new (u := .tup us) nq0
      have tsl := M.levels
      have ll : l.length ≤ m := lvl_len M.tok l (List.mem_append_right _ (List.mem_singleton.mpr rfl))
      have cz : ∀ cl ∈ R, cl.length ≤ 6 ∧ ∀ z ∈ cl, z ≠ 0 ∧ z.natAbs ≤ m := fun cl hc => ⟨Nat.le_trans (M.tk cl hc).len m6, (M.tk cl hc).ok⟩
      have cz1 : ∀ cl ∈ R, cl.length ≤ 1000 := fun cl hc => by have := (cz cl hc).1; omega
      refine ⟨_, rfl, m, q0, t, us, R, ts, l, rfl, by omega, SqT.of upd_same, (S.same s6).cls, fun cl hc => ⟨cz1 cl hc, (cz cl hc).2⟩, hT.firm (Firm.of s6), by omega, M.tok, by omega, fun H7 pp t' hs' l' n' s7 hU tk' hp hT' => ?_⟩
      have s67 := s6.trans s7
      have S7 := S.same s67
      have hT7 := hT.firm (Firm.of s67)
      have pre := units_pre hU
      obtain ⟨M', e1, ⟨more, e2⟩, ak⟩ := M.units hU tk'
      subst e1
      refine ⟨_, rfl, _, rfl, _, rfl, _, rfl, m, r, t, pp, t', us, R, ts, l, l', more, n', rfl, SqL.of S7.row, S7.cls, by omega, hT7, hp, hT', M', e2, pre, ak, fun H8 s8 => ⟨_, rfl, goF rfl ?_⟩⟩
      have hp8 := SqT.of (K := K) (s8 _ _ hp)
      have S8 := S7.same s8
      have hT8 := hT'.firm (Firm.of s8)
      clear s6 s7 s67 S hT nq0 hp hU S7 hT7 hT' s8 pre
      refine ⟨_, rfl, pp, _, rfl, hp8, rfl, _, _, rfl, _, _, rfl, rfl, ?_⟩
      have ll' : l'.length ≤ m := lvl_len M'.tok l' (List.mem_append_right _ (List.mem_singleton.mpr rfl))
      have lx' : ∀ x ∈ ts ++ [l'], x.length ≤ m := lvl_len M'.tok
      have tl' : (ts ++ [l']).length = ts.length + 1 := List.length_append
      obtain ⟨big1, big2⟩ := tr_big (m := m) (by omega) (by omega : (ts ++ [l']).length ≤ 200) M'.tok
      refine ⟨_, rfl, _, rfl, _, rfl, m, r, _, us, R, trD (ts ++ [l']), rfl, SqL.of S8.row, S8.cls, cz1, tr_dp hT8, big1, big2, fun H9 s9 => ⟨_, _, rfl, rfl, _, rfl, goF (by rw [StM.trail M']; rfl) ?_⟩⟩
      have S9 := S8.same s9
      have hT9 := hT8.firm (Firm.of s9)
      clear S8 hT8 hp8 s9
      refine ⟨_, rfl, _, rfl, _, rfl, p, c, t', _, m, ts ++ [l'], rfl, S9.pen, by omega, hT9, by omega, by omega, fun x hx => by have := lx' x hx; omega, fun HA v PA BA tv => ?_⟩
      obtain ⟨dd, e1, e2', e3, e4, e5⟩ := tv
      have SA := S9.drawn BA PA
      have hTA := hT9.firm (Firm.pen BA S9.pen)
      clear S9 hT9 BA PA
      have shd : SeqAt.shaped dd = true := by
        show (dd.canLay0 && decide (dd.depth ≤ 64)) = true
        rw [e2', decide_eq_true (by omega)]
        rfl
      have e4' : (rowsD dd).length ≤ 1000 := by omega
      have e5' : ∀ e ∈ rowsD dd, (rowsD e).length ≤ 1000 := fun e he => by have := e5 e he; omega
      refine ⟨_, rfl, _, rfl, _, rfl, m, r, v, us, R, dd, rfl, SqL.of SA.row, SA.cls, cz1, e1, e4', e5', fun HB sB => ?_⟩
      have SB := SA.same sB
      have hTB := hTA.firm (Firm.of sB)
      have dB := dp_same sB e1
      clear SA hTA e1 e2' e3 e4 e5
      refine ⟨fun σ H' => σ = [some (.ref a), some (.ref p), some (.int (m : Nat)), some (.ref r), some (.ref t'), some (.int (0 + (j : Int))), some (.ref pp), some (rV n'), some v, some (.bl (trailB m R dd)), x10, none, x12, none, x14, x15, none, x17] ∧ Same HB H', ?_, ?_⟩
      · exact ⟨_, rfl, _, _, _, _, _, rfl, .ty _, .base (.bl _), kb, _, rfl, goF rfl ⟨_, rfl, _, rfl, _, rfl, _, rfl, m, r, v, us, R, dd, rfl, SqL.of SB.row, SB.cls, cz1, dB, shd, e4', e5', fun HC sC => ⟨rfl, _, rfl, goF neF ⟨rfl, sC⟩⟩⟩⟩
      rintro σ HC ⟨rfl, sC⟩
      have SC := SB.same sC
      have hTC := hTB.firm (Firm.of sC)
      clear SB hTB dB sB sC e4' e5' shd
      have lt1 : (litsM (ts ++ [l'])).length ≤ 1000 := by
        have := M'.tok.len
        omega
      refine ⟨_, rfl, t', ts ++ [l'], rfl, hTC, lt1, fun HD L sD hL => ?_⟩
      have SD := SC.same sD
      have hTD := hTC.firm (Firm.of sD)
      clear SC hTC sD
      refine ⟨fun σ H' => σ = [some (.ref a), some (.ref p), some (.int (m : Nat)), some (.ref r), some (.ref t'), some (.int (0 + (j : Int))), some (.ref pp), some (rV n'), some v, some (.bl (trailB m R dd)), some (.ref L), none, x12, none, x14, x15, none, x17] ∧ Same HD H', ?_, ?_⟩
      · refine ⟨_, rfl, rfl, _, rfl, ?_⟩
        cases n' with
        | none => exact goF neF (iteF ⟨rfl, Same.refl _⟩)
        | some n =>
          refine goT (neT fun z => by cases z) ⟨_, rfl, _, rfl, r, us, rfl, .inl ⟨SqL.of SD.row, fun q1 nq1 => ?_⟩⟩
          have s1 := same_new (u := .tup us) nq1
          refine ⟨_, rfl, m, q1, t', us, R, ts, l', rfl, by omega, SqT.of upd_same, (SD.same s1).cls, fun cl hc => ⟨cz1 cl hc, (cz cl hc).2⟩, hTD.firm (Firm.of s1), by omega, M'.tok, by omega, fun HE p2 t2 hs2 l2 n2 s2 hU2 tk2 hp2 hT2 => ?_⟩
          obtain ⟨_, el2, _⟩ := units_stop hU2 ak
          subst el2
          refine ⟨p2, _, 0, _, rfl, rfl, SqT.of hp2, at_of (j := 0) rfl rfl, _, rfl, _, _, tr_dp hT2, tr_dp (hTD.firm (Firm.of (s1.trans s2))), sh_tr _, sh_tr _, _, rfl, goF (congrArg not (SeqAt.eqv_refl _ (SeqAt.canLay_of_shaped (sh_tr _)))) ⟨rfl, s1.trans s2⟩⟩
      rintro σ HE ⟨rfl, sE⟩
      have SE := SD.same sE
      have hTE := hTD.firm (Firm.of sE)
      have hLE := sE _ _ hL
      clear SD hTD sE hL
      obtain ⟨us', htE, aTE⟩ := hTE
      have hTE : TrAt K HE t' (ts ++ [l']) := ⟨us', htE, aTE⟩
      have ul' := aTE.len
      have ul := SE.cls.len
      refine ⟨_, rfl, rfl, _, rfl, ?_⟩
      cases n' with
      | some n =>
        refine goT (neT fun z => by cases z) ?_
        obtain ⟨vs, v', e3, aV, hlv⟩ := all2_snoc aTE
        subst e3
        obtain ⟨la, es, rfl, hla, ae⟩ := hlv
        have el := ae.len
        refine ⟨_, rfl, _, rfl, t', _, _, _, rfl, rfl, htE, at_end, la, rfl, ⟨_, hla⟩, fun D nD => ?_⟩
        refine lc_tup (K := K) (a := la) (xs := es) (fun i H1 => Same HE H1 ∧ H1 D = some (.lst (((l'.take i).map Prod.fst).map V.int))) ⟨same_new nD, upd_same⟩ (fun i H1 _ ⟨s1, _⟩ => seqT_same s1 hla) ?_ ?_
        · rintro i z H1 hi ⟨s1, hD⟩
          obtain ⟨e, he, b, rfl, hb⟩ := ae.get hi
          refine ⟨rfl, yes_of ?_⟩
          refine ⟨_, rfl, b, _, 0, _, rfl, rfl, seqT_same s1 hb, at_of (j := 0) rfl rfl, _, hD, ?_, fun c o e => ?_, ?_⟩
          · rw [List.length_map, List.length_map, List.length_take]
            exact Nat.lt_of_le_of_lt (by omega : min i l'.length ≤ 1000) (by decide)
          · rw [upd_ne (ne_of_none e nD)]
            exact s1 _ _ e
          · rw [upd_same, take_more he, List.map_append, List.map_append]
            rfl
        rintro HF ⟨sF, hD⟩
        rw [el, List.take_length] at hD
        have SF := SE.same sF
        have hTF := hTE.firm (Firm.of sF)
        have htF := seqT_same sF htE
        clear SE hTE htE aTE aV hla ae sF nD hLE
        obtain ⟨cn, hcn, _⟩ := ask_at ak
        obtain ⟨y0, hy0, a0, rfl, ha0⟩ := SF.cls.get' hcn
        have cnl := cz1 cn (List.mem_of_getElem? hcn)
        refine ⟨_, rfl, t', _, rfl, .inr htF, rfl, _, rfl, ite2 (fun _ => iteT (q _)) (fun c1 => ?_)⟩
        have tpos : 0 < ts.length := by
          refine Nat.pos_of_ne_zero fun z => c1 (decide_eq_true ?_)
          rw [ul', List.length_append, z]
          rfl
        refine ⟨_, rfl, _, rfl, r, us, _, _, rfl, rfl, SqL.of SF.row, at_of (j := n) rfl hy0, a0, rfl, ⟨_, ha0⟩, fun D1 nD1 => ?_⟩
        refine lc_tup (K := K) (a := a0) (xs := cn.map V.int) (fun i H1 => Same HF H1 ∧ H1 D1 = some (.lst (List.replicate ((cn.take i).filter fun y => decide (-y ∈ l'.map Prod.fst)).length (V.int 1)))) ⟨same_new nD1, upd_same⟩ (fun i H1 _ ⟨s1, _⟩ => seqT_same s1 ha0) ?_ ?_
        · rintro i z H1 hi ⟨s1, hD1⟩
          rw [List.getElem?_map] at hi
          obtain ⟨y, hy, rfl⟩ : ∃ y, cn[i]? = some y ∧ z = .int y := by
            cases e : cn[i]? with
            | none => rw [e] at hi; cases hi
            | some y => rw [e] at hi; exact ⟨y, rfl, (Option.some.inj hi).symm⟩
          refine ⟨rfl, ?_⟩
          refine ⟨_, rfl, _, rfl, _, rfl, D, _, rfl, .inl (SqL.of (s1 _ _ hD)), rfl, all_flat _, _, rfl, ?_⟩
          have i1 : (if false = true then !inV (V.int (-y)) ((l'.map Prod.fst).map V.int) else inV (V.int (-y)) ((l'.map Prod.fst).map V.int)) = decide (-y ∈ l'.map Prod.fst) := in_ints (-y) (l'.map Prod.fst)
          rw [i1, take_more hy, List.filter_append, List.length_append]
          refine ite2 (fun c2 => ?_) (fun c2 => ?_)
          · refine ⟨_, hD1, ?_, fun c o e => ?_, ?_⟩
            · rw [List.length_replicate]
              exact Nat.lt_of_le_of_lt (Nat.le_trans (List.length_filter_le _ _) (by rw [List.length_take]; omega : _ ≤ 1000)) (by decide)
            · rw [upd_ne (ne_of_none e nD1)]
              exact s1 _ _ e
            · rw [upd_same, List.filter_cons_of_pos (p := fun y => decide (-y ∈ l'.map Prod.fst)) c2]
              show _ = some (HO.lst (List.replicate (_ + 1) (V.int 1)))
              rw [List.replicate_succ']
          · rw [List.filter_cons_of_neg (p := fun y => decide (-y ∈ l'.map Prod.fst)) c2]
            exact ⟨s1, hD1⟩
        rintro HG ⟨sG, hD1⟩
        rw [List.length_map, List.take_length] at hD1
        refine ⟨len0, fun u0 n0 => ?_⟩
        have su := same_new (u := .lst []) n0
        refine ⟨_, _, .lst (SqL.of (su _ _ hD1)) (dp_ones K _ _), .lst (SqL.of upd_same) .nil, sh_list1 _, by decide +kernel, _, rfl, ite2 (fun _ => q _) (fun _ => ?_)⟩
        have sFH := sG.trans su
        have SH := SF.same sFH
        have hTH := hTF.firm (Firm.of sFH)
        have hDH := sFH _ _ hD
        generalize upd HG u0 _ = HH at SH hTH hDH ⊢
        clear SF hTF htF ha0 sG su sFH hD hD1 n0 nD1 hy0
        obtain ⟨c0, hc0, nd0, RU⟩ := StM.learn M' (by omega) tpos ak
        refine ⟨_, rfl, _, rfl, r, us, rfl, .inl ⟨SqL.of SH.row, fun q1 nq1 => ?_⟩⟩
        have s1 := same_new (u := .tup us) nq1
        refine ⟨_, rfl, _, rfl, m, q1, t', n, us, R, ts, l', c0, _, rfl, SqT.of upd_same, (SH.same s1).cls, fun cl hc => by have := (cz cl hc).1; omega, hTH.firm (Firm.of s1), by omega, fun x hx => by have := lx' x (List.mem_append_left _ hx); omega, by omega, hc0, nd0, RU, fun HI pq y cc hs ps s2 iv sts ln hpq hcc => ?_⟩
        have s12 := s1.trans s2
        have SI := SH.same s12
        have hTI := hTH.firm (Firm.of s12)
        have hDI := s12 _ _ hDH
        clear SH hTH hDH s1 s2 s12 nq1 RU
        have hsl := StM.held M' iv
        have hbl := by_tok hsl
        refine ⟨_, rfl, _, rfl, _, rfl, _, rfl, m, n, r, t', pq, y, cc, us, R, ts, l', c0, hs, ps, rfl, SqL.of SI.row, SI.cls, by omega, hTI, hpq, ln, hcc, hc0, sts, iv, M', asc, fun HJ sJ => ⟨_, rfl, goF rfl ?_⟩⟩
        have SJ := SI.same sJ
        have hTJ := hTI.firm (Firm.of sJ)
        have hDJ := sJ _ _ hDI
        have hpqJ := SqT.of (K := K) (sJ _ _ hpq)
        have hccJ := sJ _ _ hcc
        clear SI hTI hDI sJ hpq hcc ln
        refine ⟨_, rfl, pq, _, 1, _, rfl, rfl, hpqJ, at_of (j := 1) rfl rfl, cc, rfl, ⟨_, SqT.of hccJ⟩, fun D2 nD2 => ?_⟩
        refine lc_tup (K := K) (a := cc) (xs := (byAbs hs).map V.int) (fun i H1 => Same HJ H1 ∧ H1 D2 = some (.lst ((((byAbs hs).take i).filter fun y => decide (-y ∈ l'.map Prod.fst)).map V.int))) ⟨same_new nD2, upd_same⟩ (fun i H1 _ ⟨s1, _⟩ => SqT.of (s1 _ _ hccJ)) ?_ ?_
        · rintro i z H1 hi ⟨s1, hD2⟩
          rw [List.getElem?_map] at hi
          obtain ⟨y, hy, rfl⟩ : ∃ y, (byAbs hs)[i]? = some y ∧ z = .int y := by
            cases e : (byAbs hs)[i]? with
            | none => rw [e] at hi; cases hi
            | some y => rw [e] at hi; exact ⟨y, rfl, (Option.some.inj hi).symm⟩
          have hbl1 := hbl.len
          refine ⟨rfl, ?_⟩
          refine ⟨_, rfl, _, rfl, _, rfl, D, _, rfl, .inl (SqL.of (s1 _ _ hDJ)), rfl, all_flat _, _, rfl, ?_⟩
          have e1 : (if false = true then !inV (V.int (-y)) ((l'.map Prod.fst).map V.int) else inV (V.int (-y)) ((l'.map Prod.fst).map V.int)) = decide (-y ∈ l'.map Prod.fst) := in_ints (-y) (l'.map Prod.fst)
          rw [e1, take_more hy, List.filter_append, List.map_append]
          refine ite2 (fun c => ?_) (fun c => ?_)
          · refine ⟨_, rfl, _, hD2, ?_, fun c o e => ?_, ?_⟩
            · rw [List.length_map]
              exact Nat.lt_of_le_of_lt (Nat.le_trans (List.length_filter_le _ _) (by rw [List.length_take]; omega : _ ≤ 1000)) (by decide)
            · rw [upd_ne (ne_of_none e nD2)]
              exact s1 _ _ e
            · rw [upd_same, List.filter_cons_of_pos (p := fun y => decide (-y ∈ l'.map Prod.fst)) c]
              rfl
          · rw [List.filter_cons_of_neg (p := fun y => decide (-y ∈ l'.map Prod.fst)) c]
            refine ⟨s1, ?_⟩
            rw [hD2]
            exact congrArg (fun x => some (HO.lst x)) (List.append_nil _).symm
        rintro HK ⟨sK, hD2⟩
        rw [List.length_map, List.take_length] at hD2
        obtain ⟨z, z1, z2, z3⟩ := iv_one iv
        rw [filter_one hbl.nodup (by_mem.mpr z1) (decide_eq_true z2) fun y hy e => z3 y (by_mem.mp hy) (of_decide_eq_true e)] at hD2
        have SK := SJ.same sK
        have hTK := hTJ.firm (Firm.of sK)
        have hpqK := seqT_same sK hpqJ
        have hccK := sK _ _ hccJ
        clear SJ hTJ hpqJ hccJ sK hDJ nD2
        refine ⟨D2, _, 0, _, rfl, rfl, SqL.of hD2, at_of (j := 0) rfl rfl, ?_⟩
        refine ⟨_, rfl, .inl ⟨rfl, _, SqL.of SK.row⟩, _, rfl, pq, _, 1, _, rfl, rfl, hpqK, at_of (j := 1) rfl rfl, r, us, _, rfl, rfl, SK.row, Nat.lt_of_le_of_lt (by omega : us.length ≤ 60000) (by decide), ?_⟩
        have fE : Firm HK (upd HK r (.lst (us ++ [.ref cc]))) := Firm.upd SK.row rfl
        have SL := SK.app (cl := byAbs hs) ⟨cc, rfl, SqT.of hccK⟩
        have hTL := hTK.firm fE
        have hpqL := firm_seq fE hpqK
        generalize upd HK r _ = HL at SL hTL hpqL ⊢
        clear SK hTK fE hD2 hccK hpqK
        have en : (((us ++ [V.ref cc]).length : Nat) : Int) - 1 = ((R.length : Nat) : Int) := by
          rw [List.length_append, ul]
          show ((R.length + 1 : Nat) : Int) - 1 = _
          omega
        have kl : lvM hs ts ts.length < ts.length := lv_lt _ tpos
        obtain ⟨l0, hl0⟩ : ∃ l0, ts[lvM hs ts ts.length]? = some l0 := ⟨_, List.getElem?_eq_getElem kl⟩
        have l0l : l0.length ≤ m := lx' l0 (List.mem_append_left _ (List.mem_of_getElem? hl0))
        have hl0' : (ts ++ [l'])[lvM hs ts ts.length]? = some l0 := by
          rw [List.getElem?_append_left kl]
          exact hl0
        obtain ⟨ut, htL, aTL⟩ := hTL
        have hTL : TrAt K HL t' (ts ++ [l']) := ⟨ut, htL, aTL⟩
        have utl := aTL.len
        obtain ⟨y1, hy1, b0, es0, rfl, hb0, ae0⟩ := aTL.get' hl0'
        have e0l := ae0.len
        refine ⟨_, rfl, _, rfl, pq, _, 2, _, rfl, rfl, hpqL, at_of (j := 2) rfl rfl, _, rfl, to_use htL fun q1 H1 s1 h1 => ?_⟩
        have SM := SL.same s1
        refine ⟨_, rfl, _, rfl, pq, _, 2, _, rfl, rfl, seqT_same s1 hpqL, at_of (j := 2) rfl rfl, t', ut, _, _, rfl, rfl, seqT_same s1 htL, at_of (j := lvM hs ts ts.length) rfl hy1, _, rfl, _, rfl, r, _, rfl, .inl (SqL.of SM.row), _, _, rfl, rfl, len2, fun g1 ng1 => ⟨len1, fun g2 ng2 => ?_⟩⟩
        have t1 := same_new (u := .tup [V.int z, V.int ((((us ++ [V.ref cc]).length : Nat) : Int) - 1)]) ng1
        have t2 := same_new (u := .tup [V.ref g1]) ng2
        refine catA_use (seqT_same (s1.trans (t1.trans t2)) hb0) (SqT.of upd_same) (Nat.le_trans (by show es0.length + 1 ≤ 1000; omega) (by decide)) fun q2 H2 s2 h2 => ⟨len1, fun g3 ng3 => ?_⟩
        have t3 := same_new (u := .tup [V.ref q2]) ng3
        refine catA_use (seqT_same (t1.trans (t2.trans (s2.trans t3))) h1) (SqT.of upd_same) (Nat.le_trans (by rw [List.length_take]; show _ + 1 ≤ 1000; omega) (by decide)) fun q3 H3 s3 h3 => ?_
        have sL3 := s1.trans (t1.trans (t2.trans (s2.trans (t3.trans s3))))
        have hfr : TrAt K H3 q3 (ts.take (lvM hs ts ts.length) ++ [l0 ++ [(z, some R.length)]]) := by
          have a1 := aTL.take (lvM hs ts ts.length)
          rw [List.take_append_of_le_length (Nat.le_of_lt kl)] at a1
          refine ⟨_, h3, (a1.imp fun _ _ h => h.firm (Firm.of sL3)).append (.cons ⟨q2, _, rfl, seqT_same (t3.trans s3) h2, (ae0.imp fun _ _ h => h.firm (Firm.of sL3)).append (.cons ⟨g1, rfl, ?_⟩ .nil)⟩ .nil)⟩
          have g1h := (t2.trans (s2.trans (t3.trans s3))) _ _ (upd_same (H := H1) (a := g1) (o := .tup [V.int z, V.int ((((us ++ [V.ref cc]).length : Nat) : Int) - 1)]))
          rw [en] at g1h
          exact SqT.of g1h
        have SN := SL.same sL3
        have hTN := hTL.firm (Firm.of sL3)
        have hpqN := seqT_same sL3 hpqL
        clear SL SM hTL hpqL htL aTL hb0 ae0 s1 t1 t2 s2 t3 s3 sL3 h1 h2 h3 ng1 ng2 ng3
        refine ⟨_, rfl, _, rfl, pq, _, 2, _, rfl, rfl, hpqN, at_of (j := 2) rfl rfl, _, rfl, _, rfl, r, _, rfl, .inl (SqL.of SN.row), _, _, rfl, rfl, ?_⟩
        refine ⟨t', lvM hs ts ts.length, z, R.length, ts ++ [l'], l0, by rw [← en]; rfl, hTN, hl0', by omega, by omega, fun HP t2 sP hT2 => ?_⟩
        rw [List.take_append_of_le_length (Nat.le_of_lt kl)] at hT2
        have hfrP := hfr.firm (Firm.of sP)
        refine ⟨_, rfl, _, _, tr_dp hT2, tr_dp hfrP, sh_tr _, sh_tr _, _, rfl, goF (congrArg not (SeqAt.eqv_refl _ (SeqAt.canLay_of_shaped (sh_tr _)))) ?_⟩
        have MB := StM.back M' iv (fun y => by_mem) hbl z1 z2 z3 hl0
        refine ⟨_, rfl, ?_⟩
        refine ⟨q3, _, _, _, _, _, _, _, _, _, _, us ++ [.ref cc], R ++ [byAbs hs], _, _, rfl, (SN.same sP).more (by omega), hfrP, MB, by rw [List.length_append]; show R.length + 1 ≤ _; omega, fun cl hc => ?_⟩
        rcases List.mem_append.mp hc with g | g
        · exact asc cl g
        · rw [List.mem_singleton.mp g]
          exact sorted_strict (byAbs_up hs) hbl
      | none =>
        refine goF neF ?_
        have rng : ((m : Int) + 1 - 1).toNat = m := by omega
        refine ⟨_, rfl, _, _, rfl, rfl, 1, (m : Int) + 1, rfl, ⟨by decide, by decide, by omega, by omega⟩, fun D nD => ?_⟩
        rw [rng]
        refine lc_range (lo := 1) (n := m) (fun i H1 => Same HE H1 ∧ H1 D = some (.lst ((leftV (litsM (ts ++ [l'])) i).map V.int))) ⟨same_new nD, upd_same⟩ ?_ ?_
        · rintro i H1 hi ⟨s1, hD⟩
          refine ⟨rfl, ?_⟩
          have n1 := in_ints (1 + (i : Int)) (litsM (ts ++ [l']))
          have n2 := in_ints (-(1 + (i : Int))) (litsM (ts ++ [l']))
          refine ⟨_, rfl, _, rfl, L, _, rfl, .inl (SqL.of (s1 _ _ hLE)), rfl, all_flat _, _, rfl, ?_⟩
          rw [leftV_succ]
          have fb : freeB (litsM (ts ++ [l'])) (1 + (i : Int)) = (!inV (.int (1 + (i : Int))) ((litsM (ts ++ [l'])).map V.int) && !inV (.int (-(1 + (i : Int)))) ((litsM (ts ++ [l'])).map V.int)) := by
            rw [n1, n2]
            rfl
          rw [fb]
          refine ite2 (fun c1 => ?_) (fun c1 => ?_)
          · have c1 : (!inV (.int (1 + (i : Int))) ((litsM (ts ++ [l'])).map V.int)) = true := c1
            refine ⟨_, rfl, _, rfl, _, rfl, L, _, rfl, .inl (SqL.of (s1 _ _ hLE)), rfl, all_flat _, _, rfl, ?_⟩
            refine ite2 (fun c2 => ?_) (fun c2 => ?_)
            · have c2 : (!inV (.int (-(1 + (i : Int)))) ((litsM (ts ++ [l'])).map V.int)) = true := c2
              rw [if_pos ((Bool.and_eq_true _ _).mpr ⟨c1, c2⟩)]
              refine ⟨_, rfl, _, hD, ?_, fun c o e => ?_, ?_⟩
              · rw [List.length_map]
                have := leftV_len (litsM (ts ++ [l'])) i
                exact Nat.lt_of_le_of_lt (by omega : _ ≤ 1000) (by decide)
              · rw [upd_ne (ne_of_none e nD)]
                exact s1 _ _ e
              · rw [upd_same, List.map_append]
                rfl
            · have c2 : ¬ (!inV (.int (-(1 + (i : Int)))) ((litsM (ts ++ [l'])).map V.int)) = true := c2
              rw [if_neg fun z => c2 ((Bool.and_eq_true _ _).mp z).2]
              exact ⟨s1, hD⟩
          · have c1 : ¬ (!inV (.int (1 + (i : Int))) ((litsM (ts ++ [l'])).map V.int)) = true := c1
            refine iteF ⟨s1, ?_⟩
            rw [if_neg fun z => c1 ((Bool.and_eq_true _ _).mp z).1]
            exact hD
        rintro HB' ⟨sB, hDB⟩
        have SF := SE.same sB
        have hTF := hTE.firm (Firm.of sB)
        have Dp := (SE.pen.free nD).1
        clear SE hTE htE aTE hLE sB nD
        refine ⟨_, rfl, len0, fun e0 ne0 => ?_⟩
        have s0 := same_new (u := .lst []) ne0
        refine ⟨_, _, .lst (SqL.of (s0 _ _ hDB)) (ints_dp _), .lst (SqL.of upd_same) .nil, sh_lints _, by decide +kernel, _, rfl, ?_⟩
        rw [lst_nilI]
        have SG := SF.same s0
        have hTG := hTF.firm (Firm.of s0)
        have hDG := s0 _ _ hDB
        generalize upd HB' e0 _ = HG at SG hTG hDG ⊢
        clear SF hTF hDB s0 ne0
        refine ite2 (fun _ => q _) (fun cq => ?_)
        have lp : 0 < (leftV (litsM (ts ++ [l'])) m).length := List.length_pos_iff.mpr fun z => cq (decide_eq_true z)
        have lle := leftV_len (litsM (ts ++ [l'])) m
        refine ⟨_, rfl, _, rfl, _, rfl, p, c, D, _, _, rfl, SG.pen, by omega, Dp, SqL.of hDG, by rw [List.length_map]; exact lp, by rw [List.length_map]; omega, fun v1 i1 HD' hv1 PD BD => ?_⟩
        rw [List.getElem?_map] at hv1
        obtain ⟨z, hz, rfl⟩ : ∃ z, (leftV (litsM (ts ++ [l'])) m)[i1]? = some z ∧ v1 = .int z := by
          cases e : (leftV (litsM (ts ++ [l'])) m)[i1]? with
          | none => rw [e] at hv1; cases hv1
          | some z => rw [e] at hv1; exact ⟨z, rfl, (Option.some.inj hv1).symm⟩
        obtain ⟨zl, zm, zn1, zn2⟩ := leftV_mem (List.mem_of_getElem? hz)
        have SI := SG.drawn BD PD
        have hTI := hTG.firm (Firm.pen BD SG.pen)
        clear SG hTG hDG BD PD
        refine ⟨_, rfl, _, rfl, len2, fun Lq nLq => ?_⟩
        have sL := same_new (u := .lst [V.int 1, V.int (-1)]) nLq
        have SJ := SI.same sL
        have hTJ := hTI.firm (Firm.of sL)
        refine ⟨p, c, Lq, _, [V.int 1, V.int (-1)], rfl, SJ.pen, by omega, (SI.pen.free nLq).1, SqL.of upd_same, (by show 0 < 2; decide), (by show 2 ≤ 1000; decide), fun v2 i2 HF hv2 PF BF => ?_⟩
        obtain ⟨x, rfl, hx⟩ : ∃ x : Int, v2 = .int x ∧ (x = 1 ∨ x = -1) := by
          match i2, hv2 with
          | 0, hv => exact ⟨1, (Option.some.inj hv).symm, .inl rfl⟩
          | 1, hv => exact ⟨-1, (Option.some.inj hv).symm, .inr rfl⟩
          | e + 2, hv => cases hv
        have SK := SJ.drawn BF PF
        have hTK := hTJ.firm (Firm.pen BF SJ.pen)
        clear SI hTI sL SJ hTJ BF PF nLq
        have y0 : z * x ≠ 0 := by rcases hx with rfl | rfl <;> omega
        have ym : (z * x).natAbs ≤ m := by rcases hx with rfl | rfl <;> omega
        have yn : ¬ z * x ∈ litsM (ts ++ [l']) ∧ ¬ -(z * x) ∈ litsM (ts ++ [l']) := by
          rcases hx with rfl | rfl
          · rw [Int.mul_one]
            exact ⟨zn1, zn2⟩
          · rw [show z * -1 = -z by omega, Int.neg_neg]
            exact ⟨zn2, zn1⟩
        refine ⟨z, x, rfl, rfl, .inl ⟨by omega, by omega⟩, len2, fun g1 ng1 => ⟨len1, fun g2 ng2 => ⟨len1, fun g3 ng3 => ?_⟩⟩⟩
        have s1 := same_new (u := .tup [V.int (z * x), .non]) ng1
        have s2 := same_new (u := .tup [V.ref g1]) ng2
        have s3 := same_new (u := .tup [V.ref g2]) ng3
        have s13 := s1.trans (s2.trans s3)
        have SM := SK.same s13
        have hTM := hTK.firm (Firm.of s13)
        have hg3 := upd_same (H := upd (upd HF g1 (.tup [V.int (z * x), .non])) g2 (.tup [V.ref g1])) (a := g3) (o := .tup [V.ref g2])
        have hg2 := s3 _ _ (upd_same (H := upd HF g1 (.tup [V.int (z * x), .non])) (a := g2) (o := .tup [V.ref g1]))
        have hg1 := (s2.trans s3) _ _ (upd_same (H := HF) (a := g1) (o := .tup [V.int (z * x), .non]))
        generalize upd (upd (upd HF g1 _) g2 _) g3 _ = HM at SM hTM hg1 hg2 hg3 ⊢
        clear SK hTK s1 s2 s3 s13 ng1 ng2 ng3
        have MD := M'.decide y0 ym yn.1 yn.2 fun cl hc => (ask_done R 0 ak cl hc).1
        obtain ⟨ut, htM, aTM⟩ := hTM
        have utl := aTM.len
        refine catA_use htM (SqT.of hg3) (Nat.le_trans (by show ut.length + 1 ≤ 1000; omega) (by decide)) fun t2 HN sN hN => ?_
        exact ⟨t2, _, _, _, _, _, _, _, _, _, _, us, R, _, _, rfl, (SM.same sN).more (by omega), ⟨_, hN, (aTM.imp fun _ _ h => h.firm (Firm.of sN)).append (.cons ⟨g2, _, rfl, SqT.of (sN _ _ hg2), .cons ⟨g1, rfl, SqT.of (sN _ _ hg1)⟩ .nil⟩ .nil)⟩, MD, by omega, asc⟩
    · rintro σ H6 ⟨t, x5, x6, x7, x8, x9, x10, x12, x14, x15, x17, us, R, ts, l, rfl, S, hT, M, Rl, asc⟩
      exact q _
end
end Tml
namespace E27
open PySem PySem.Spec PyProof.Rows L2 Pen Dat Ki Fi Gr No Lf Cm Cn Tr Ta Tb Tc Td Te Tg Th Tj Tk Tq Tw Ty Tz Tv Tp Tn Tml Gd He
def ds_is_between : DefD := ⟨("is_between", none), "is_between", "is_between", defArgs sBetween, defBody sBetween, defScope sBetween, [], []⟩
def ds_clause_with : DefD := ⟨("clause_with", none), "clause_with", "clause_with", defArgs sClauseWith, defBody sClauseWith, defScope sClauseWith, [], []⟩
def ds_resolve_in : DefD := ⟨("resolve_in", none), "resolve_in", "resolve_in", defArgs sResolveIn, defBody sResolveIn, defScope sResolveIn, [], []⟩
def ds_is_literal : DefD := ⟨("is_literal", none), "is_literal", "is_literal", defArgs sIsLiteral, defBody sIsLiteral, defScope sIsLiteral, [], []⟩
def ds_is_trail : DefD := ⟨("is_trail", none), "is_trail", "is_trail", defArgs sIsTrail, defBody sIsTrail, defScope sIsTrail, [], []⟩
def ds_is_entry : DefD := ⟨("is_entry", none), "is_entry", "is_entry", defArgs sIsEntry, defBody sIsEntry, defScope sIsEntry, [], []⟩
def ds_is_reason : DefD := ⟨("is_reason", none), "is_reason", "is_reason", defArgs sIsReason, defBody sIsReason, defScope sIsReason, [], []⟩
def ds_true_literals : DefD := ⟨("true_literals", none), "true_literals", "true_literals", defArgs sTrueLiterals, defBody sTrueLiterals, defScope sTrueLiterals, [], []⟩
def ds_units : DefD := ⟨("units", none), "units", "units", defArgs sUnits, defBody sUnits, defScope sUnits, [], []⟩
def ds_what_is_asked : DefD := ⟨("what_is_asked", none), "what_is_asked", "what_is_asked", defArgs sWhatIsAsked, defBody sWhatIsAsked, defScope sWhatIsAsked, [], []⟩
def ds_learnt : DefD := ⟨("learnt", none), "learnt", "learnt", defArgs sLearnt, defBody sLearnt, defScope sLearnt, [], []⟩
def ds_held_in : DefD := ⟨("held_in", none), "held_in", "held_in", defArgs sHeldIn, defBody sHeldIn, defScope sHeldIn, [], []⟩
def ds_gone_back : DefD := ⟨("gone_back", none), "gone_back", "gone_back", defArgs sGoneBack, defBody sGoneBack, defScope sGoneBack, [], []⟩
def ds__law_pen : DefD := ⟨("_law_pen", none), "_law_pen", "_law_pen", defArgs sPen, defBody sPen, defScope sPen, [], []⟩
def ds__law_draw : DefD := ⟨("_law_draw", none), "_law_draw", "_law_draw", defArgs sDraw, defBody sDraw, defScope sDraw, [], []⟩
def ds__law_pick : DefD := ⟨("_law_pick", none), "_law_pick", "_law_pick", defArgs sPick, defBody sPick, defScope sPick, [], []⟩
def ds__law_is_whole : DefD := ⟨("_law_is_whole", none), "_law_is_whole", "_law_is_whole", defArgs sWhole, defBody sWhole, defScope sWhole, [], []⟩
def ds__law_drawn_clause : DefD := ⟨("_law_drawn_clause", none), "_law_drawn_clause", "_law_drawn_clause", defArgs sLDrawnClause, defBody sLDrawnClause, defScope sLDrawnClause, [], []⟩
def ds__law_drawn_row : DefD := ⟨("_law_drawn_row", none), "_law_drawn_row", "_law_drawn_row", defArgs sLDrawnRow, defBody sLDrawnRow, defScope sLDrawnRow, [], []⟩
def ds__law_sorted : DefD := ⟨("_law_sorted", none), "_law_sorted", "_law_sorted", defArgs sLSorted, defBody sLSorted, defScope sLSorted, [], []⟩
def ds__law_resolved : DefD := ⟨("_law_resolved", none), "_law_resolved", "_law_resolved", defArgs sLResolved, defBody sLResolved, defScope sLResolved, [], []⟩
def ds__law_line_of : DefD := ⟨("_law_line_of", none), "_law_line_of", "_law_line_of", defArgs sLLineOf, defBody sLLineOf, defScope sLLineOf, [], []⟩
def ds__law_is_index : DefD := ⟨("_law_is_index", none), "_law_is_index", "_law_is_index", defArgs sLIsIndex, defBody sLIsIndex, defScope sLIsIndex, [], []⟩
def ds__law_literals : DefD := ⟨("_law_literals", none), "_law_literals", "_law_literals", defArgs sLits, defBody sLits, defScope sLits, [], []⟩
def ds__law_is_trail : DefD := ⟨("_law_is_trail", none), "_law_is_trail", "_law_is_trail", defArgs sLIsTrail, defBody sLIsTrail, defScope sLIsTrail, [], []⟩
def ds__law_is_unit : DefD := ⟨("_law_is_unit", none), "_law_is_unit", "_law_is_unit", defArgs sLIsUnit, defBody sLIsUnit, defScope sLIsUnit, [], []⟩
def ds__law_all_false : DefD := ⟨("_law_all_false", none), "_law_all_false", "_law_all_false", defArgs sLAllFalse, defBody sLAllFalse, defScope sLAllFalse, [], []⟩
def ds__law_units_right : DefD := ⟨("_law_units_right", none), "_law_units_right", "_law_units_right", defArgs sLUnitsRight, defBody sLUnitsRight, defScope sLUnitsRight, [], []⟩
def ds__law_learnt_right : DefD := ⟨("_law_learnt_right", none), "_law_learnt_right", "_law_learnt_right", defArgs sLLearntRight, defBody sLLearntRight, defScope sLLearntRight, [], []⟩
def ds__law_bent_trail : DefD := ⟨("_law_bent_trail", none), "_law_bent_trail", "_law_bent_trail", defArgs sLBentTrail, defBody sLBentTrail, defScope sLBentTrail, [], []⟩
def ds_law : DefD := ⟨("law", none), "law", "law", defArgs sLaw, defBody sLaw, defScope sLaw, [], []⟩
def fn : List DefD := [ds_is_between, ds_clause_with, ds_resolve_in, ds_is_literal, ds_is_trail, ds_is_entry, ds_is_reason, ds_true_literals, ds_units, ds_what_is_asked, ds_learnt, ds_held_in, ds_gone_back, ds__law_pen, ds__law_draw, ds__law_pick, ds__law_is_whole, ds__law_drawn_clause, ds__law_drawn_row, ds__law_sorted, ds__law_resolved, ds__law_line_of, ds__law_is_index, ds__law_literals, ds__law_is_trail, ds__law_is_unit, ds__law_all_false, ds__law_units_right, ds__law_learnt_right, ds__law_bent_trail, ds_law]
def fa : List Fa := [.glo "is_between", .glo "clause_with", .glo "resolve_in", .glo "is_literal", .glo "is_trail", .glo "is_entry", .glo "is_reason", .glo "true_literals", .glo "units", .glo "what_is_asked", .glo "learnt", .glo "held_in", .glo "gone_back", .glo "_law_pen", .glo "_law_draw", .glo "_law_pick", .glo "_law_is_whole", .glo "_law_drawn_clause", .glo "_law_drawn_row", .glo "_law_sorted", .glo "_law_resolved", .glo "_law_line_of", .glo "_law_is_index", .glo "_law_literals", .glo "_law_is_trail", .glo "_law_is_unit", .glo "_law_all_false", .glo "_law_units_right", .glo "_law_learnt_right", .glo "_law_bent_trail", .glo "law", .free "isinstance", .free "int", .free "bool", .free "tuple", .free "list", .free "len", .free "all", .free "abs", .free "range", .free "enumerate", .free "sorted", .free "set", .free "dict"]
def exB (K : PySem.W.Frag) : Bool := true
abbrev R : PySem.W.OpenRow := PySem.W.OpenLaw.row PySem.Challenge.rw_everycycle_k27_whole_trails_and_acts
abbrev hk : PySem.W.Hook := hookX 6 fa fn [] [] exB
def ob (s : PySem.W.SharedT) : AlX := obsX 6 fa fn [] [] exB (HandSHeadRun.getT s)
theorem ob_eq (s : PySem.W.SharedT) : ob s = hk.obs s.abs := obsX_eq (HandSHeadRun.getT_eq s)
theorem run (w : World) : HandSHeadRun.RunEq R (PySem.W.view R.prog [34]) hk ob 4000 [("is_between" : PySem.Str), ("clause_with" : PySem.Str), ("resolve_in" : PySem.Str), ("is_literal" : PySem.Str), ("is_trail" : PySem.Str), ("is_entry" : PySem.Str), ("is_reason" : PySem.Str), ("true_literals" : PySem.Str), ("units" : PySem.Str), ("what_is_asked" : PySem.Str), ("learnt" : PySem.Str), ("held_in" : PySem.Str), ("gone_back" : PySem.Str), ("_law_pen" : PySem.Str), ("_law_draw" : PySem.Str), ("_law_pick" : PySem.Str), ("_law_is_whole" : PySem.Str), ("_law_drawn_clause" : PySem.Str), ("_law_drawn_row" : PySem.Str), ("_law_sorted" : PySem.Str), ("_law_resolved" : PySem.Str), ("_law_line_of" : PySem.Str), ("_law_is_index" : PySem.Str), ("_law_literals" : PySem.Str), ("_law_is_trail" : PySem.Str), ("_law_is_unit" : PySem.Str), ("_law_all_false" : PySem.Str), ("_law_units_right" : PySem.Str), ("_law_learnt_right" : PySem.Str), ("_law_bent_trail" : PySem.Str)] w := by
  intro os
  kernel_rfl
theorem and2 {a b : Bool} (h : (a && b) = true) : a = true ∧ b = true := Bool.and_eq_true_iff.mp h
theorem facts {P : Program} {w : World} {K : PySem.W.Frag} {h : Heap} {mg : Str → Option Value} {f : Addr} (X : K.In h) (G : h.Ns mainGlobals mg) (hfa : mg ("law" : Str) = some (.ref f)) (c : SaysX fa fn [] [] exB w h K) :
    ∃ fd : FuncData, (∀ (s : Shared) (v : Value), BindsTo s fd ⟨[v], []⟩ [("_law_script", v)]) ∧ ∀ base : Heap, K.In base → base.Ns mainGlobals mg → FnG P w K mg base CX0 5 f fd ["_law_script"] (Tml.spLaw K) := by
  have cd := c.t.d
  obtain ⟨fd0, F0⟩ := cd.def_ 0 (d := ds_is_between) rfl
  obtain ⟨fd1, F1⟩ := cd.def_ 1 (d := ds_clause_with) rfl
  obtain ⟨fd2, F2⟩ := cd.def_ 2 (d := ds_resolve_in) rfl
  obtain ⟨fd3, F3⟩ := cd.def_ 3 (d := ds_is_literal) rfl
  obtain ⟨fd4, F4⟩ := cd.def_ 4 (d := ds_is_trail) rfl
  obtain ⟨fd5, F5⟩ := cd.def_ 5 (d := ds_is_entry) rfl
  obtain ⟨fd6, F6⟩ := cd.def_ 6 (d := ds_is_reason) rfl
  obtain ⟨fd7, F7⟩ := cd.def_ 7 (d := ds_true_literals) rfl
  obtain ⟨fd8, F8⟩ := cd.def_ 8 (d := ds_units) rfl
  obtain ⟨fd9, F9⟩ := cd.def_ 9 (d := ds_what_is_asked) rfl
  obtain ⟨fd10, F10⟩ := cd.def_ 10 (d := ds_learnt) rfl
  obtain ⟨fd11, F11⟩ := cd.def_ 11 (d := ds_held_in) rfl
  obtain ⟨fd12, F12⟩ := cd.def_ 12 (d := ds_gone_back) rfl
  obtain ⟨fd13, F13⟩ := cd.def_ 13 (d := ds__law_pen) rfl
  obtain ⟨fd14, F14⟩ := cd.def_ 14 (d := ds__law_draw) rfl
  obtain ⟨fd15, F15⟩ := cd.def_ 15 (d := ds__law_pick) rfl
  obtain ⟨fd16, F16⟩ := cd.def_ 16 (d := ds__law_is_whole) rfl
  obtain ⟨fd17, F17⟩ := cd.def_ 17 (d := ds__law_drawn_clause) rfl
  obtain ⟨fd18, F18⟩ := cd.def_ 18 (d := ds__law_drawn_row) rfl
  obtain ⟨fd19, F19⟩ := cd.def_ 19 (d := ds__law_sorted) rfl
  obtain ⟨fd20, F20⟩ := cd.def_ 20 (d := ds__law_resolved) rfl
  obtain ⟨fd21, F21⟩ := cd.def_ 21 (d := ds__law_line_of) rfl
  obtain ⟨fd22, F22⟩ := cd.def_ 22 (d := ds__law_is_index) rfl
  obtain ⟨fd23, F23⟩ := cd.def_ 23 (d := ds__law_literals) rfl
  obtain ⟨fd24, F24⟩ := cd.def_ 24 (d := ds__law_is_trail) rfl
  obtain ⟨fd25, F25⟩ := cd.def_ 25 (d := ds__law_is_unit) rfl
  obtain ⟨fd26, F26⟩ := cd.def_ 26 (d := ds__law_all_false) rfl
  obtain ⟨fd27, F27⟩ := cd.def_ 27 (d := ds__law_units_right) rfl
  obtain ⟨fd28, F28⟩ := cd.def_ 28 (d := ds__law_learnt_right) rfl
  obtain ⟨fd29, F29⟩ := cd.def_ 29 (d := ds__law_bent_trail) rfl
  obtain ⟨fd30, F30⟩ := cd.def_ 30 (d := ds_law) rfl
  have glo : ∀ i x, fa[i]? = some (Fa.glo x) → mg x = some (.ref (ga K x)) := fun i x e => glo_ok X G (cd.fact i e)
  have fre : ∀ i x, fa[i]? = some (Fa.free x) → mg x = none := fun i x e => free_ok X G (cd.fact i e)
  have e := hfa.symm.trans (glo 30 "law" rfl)
  cases e
  have b0 : Binds K fd0 ["value", "least", "most"] [] := F0.bindsN fun _ _ _ _ _ _ us hl => match us, hl with | [_, _, _], _ => rfl
  have b1 : Binds K fd1 ["held"] [] := F1.bindsN fun _ _ _ _ _ _ us hl => match us, hl with | [_], _ => rfl
  have b2 : Binds K fd2 ["held", "clause", "variable"] [] := F2.bindsN fun _ _ _ _ _ _ us hl => match us, hl with | [_, _, _], _ => rfl
  have b3 : Binds K fd3 ["many", "value"] [] := F3.bindsN fun _ _ _ _ _ _ us hl => match us, hl with | [_, _], _ => rfl
  have b4 : Binds K fd4 ["many", "row", "trail"] [] := F4.bindsN fun _ _ _ _ _ _ us hl => match us, hl with | [_, _, _], _ => rfl
  have b5 : Binds K fd5 ["many", "row", "ahead", "entry", "decides"] [] := F5.bindsN fun _ _ _ _ _ _ us hl => match us, hl with | [_, _, _, _, _], _ => rfl
  have b6 : Binds K fd6 ["clause", "literal", "ahead"] [] := F6.bindsN fun _ _ _ _ _ _ us hl => match us, hl with | [_, _, _], _ => rfl
  have b7 : Binds K fd7 ["trail"] [] := F7.bindsN fun _ _ _ _ _ _ us hl => match us, hl with | [_], _ => rfl
  have b8 : Binds K fd8 ["many", "row", "trail"] [] := F8.bindsN fun _ _ _ _ _ _ us hl => match us, hl with | [_, _, _], _ => rfl
  have b9 : Binds K fd9 ["row", "true"] [] := F9.bindsN fun _ _ _ _ _ _ us hl => match us, hl with | [_, _], _ => rfl
  have b10 : Binds K fd10 ["many", "row", "trail", "n"] [] := F10.bindsN fun _ _ _ _ _ _ us hl => match us, hl with | [_, _, _, _], _ => rfl
  have b11 : Binds K fd11 ["held", "level"] [] := F11.bindsN fun _ _ _ _ _ _ us hl => match us, hl with | [_, _], _ => rfl
  have b12 : Binds K fd12 ["trail", "level", "literal", "n"] [] := F12.bindsN fun _ _ _ _ _ _ us hl => match us, hl with | [_, _, _, _], _ => rfl
  have b13 : Binds K fd13 ["_law_script"] [] := F13.bindsN fun _ _ _ _ _ _ us hl => match us, hl with | [_], _ => rfl
  have b14 : Binds K fd14 ["_law_pen_here", "_law_many"] [] := F14.bindsN fun _ _ _ _ _ _ us hl => match us, hl with | [_, _], _ => rfl
  have b15 : Binds K fd15 ["_law_pen_here", "_law_some"] [] := F15.bindsN fun _ _ _ _ _ _ us hl => match us, hl with | [_, _], _ => rfl
  have b16 : Binds K fd16 ["_law_thing"] [] := F16.bindsN fun _ _ _ _ _ _ us hl => match us, hl with | [_], _ => rfl
  have b17 : Binds K fd17 ["_law_pen_here", "_law_many", "_law_most"] [] := F17.bindsN fun _ _ _ _ _ _ us hl => match us, hl with | [_, _, _], _ => rfl
  have b18 : Binds K fd18 ["_law_pen_here", "_law_many", "_law_rows"] [] := F18.bindsN fun _ _ _ _ _ _ us hl => match us, hl with | [_, _, _], _ => rfl
  have b19 : Binds K fd19 ["_law_numbers"] [] := F19.bindsN fun _ _ _ _ _ _ us hl => match us, hl with | [_], _ => rfl
  have b20 : Binds K fd20 ["_law_one", "_law_two", "_law_variable"] [] := F20.bindsN fun _ _ _ _ _ _ us hl => match us, hl with | [_, _, _], _ => rfl
  have b21 : Binds K fd21 ["_law_clauses", "_law_ahead", "_law_line"] [] := F21.bindsN fun _ _ _ _ _ _ us hl => match us, hl with | [_, _, _], _ => rfl
  have b22 : Binds K fd22 ["_law_thing", "_law_many"] [] := F22.bindsN fun _ _ _ _ _ _ us hl => match us, hl with | [_, _], _ => rfl
  have b23 : Binds K fd23 ["_law_trail"] [] := F23.bindsN fun _ _ _ _ _ _ us hl => match us, hl with | [_], _ => rfl
  have b24 : Binds K fd24 ["_law_many", "_law_row", "_law_trail"] [] := F24.bindsN fun _ _ _ _ _ _ us hl => match us, hl with | [_, _, _], _ => rfl
  have b25 : Binds K fd25 ["_law_clause", "_law_literal", "_law_ahead"] [] := F25.bindsN fun _ _ _ _ _ _ us hl => match us, hl with | [_, _, _], _ => rfl
  have b26 : Binds K fd26 ["_law_clause", "_law_trues"] [] := F26.bindsN fun _ _ _ _ _ _ us hl => match us, hl with | [_, _], _ => rfl
  have b27 : Binds K fd27 ["_law_many", "_law_row", "_law_trail", "_law_told"] [] := F27.bindsN fun _ _ _ _ _ _ us hl => match us, hl with | [_, _, _, _], _ => rfl
  have b28 : Binds K fd28 ["_law_row", "_law_trail", "_law_n", "_law_told"] [] := F28.bindsN fun _ _ _ _ _ _ us hl => match us, hl with | [_, _, _, _], _ => rfl
  have b29 : Binds K fd29 ["_law_pen_here", "_law_trail", "_law_many"] [] := F29.bindsN fun _ _ _ _ _ _ us hl => match us, hl with | [_, _, _], _ => rfl
  have b := FunD.bindsA (ps := ["_law_script"]) F30 fun _ _ _ _ _ _ us hl => match us, hl with | [_], _ => rfl
  have g0 := glo 0 "is_between" rfl
  have g1 := glo 1 "clause_with" rfl
  have g2 := glo 2 "resolve_in" rfl
  have g3 := glo 3 "is_literal" rfl
  have g4 := glo 4 "is_trail" rfl
  have g5 := glo 5 "is_entry" rfl
  have g6 := glo 6 "is_reason" rfl
  have g7 := glo 7 "true_literals" rfl
  have g8 := glo 8 "units" rfl
  have g9 := glo 9 "what_is_asked" rfl
  have g10 := glo 10 "learnt" rfl
  have g11 := glo 11 "held_in" rfl
  have g12 := glo 12 "gone_back" rfl
  have g13 := glo 13 "_law_pen" rfl
  have g14 := glo 14 "_law_draw" rfl
  have g15 := glo 15 "_law_pick" rfl
  have g16 := glo 16 "_law_is_whole" rfl
  have g17 := glo 17 "_law_drawn_clause" rfl
  have g18 := glo 18 "_law_drawn_row" rfl
  have g19 := glo 19 "_law_sorted" rfl
  have g20 := glo 20 "_law_resolved" rfl
  have g21 := glo 21 "_law_line_of" rfl
  have g22 := glo 22 "_law_is_index" rfl
  have g23 := glo 23 "_law_literals" rfl
  have g24 := glo 24 "_law_is_trail" rfl
  have g25 := glo 25 "_law_is_unit" rfl
  have g26 := glo 26 "_law_all_false" rfl
  have g27 := glo 27 "_law_units_right" rfl
  have g28 := glo 28 "_law_learnt_right" rfl
  have g29 := glo 29 "_law_bent_trail" rfl
  have g30 := glo 30 "law" rfl
  have z_isinstance := fre 31 "isinstance" rfl
  have z_int := fre 32 "int" rfl
  have z_bool := fre 33 "bool" rfl
  have z_tuple := fre 34 "tuple" rfl
  have z_list := fre 35 "list" rfl
  have z_len := fre 36 "len" rfl
  have z_all := fre 37 "all" rfl
  have z_abs := fre 38 "abs" rfl
  have z_range := fre 39 "range" rfl
  have z_enumerate := fre 40 "enumerate" rfl
  have z_sorted := fre 41 "sorted" rfl
  have z_set := fre 42 "set" rfl
  have z_dict := fre 43 "dict" rfl
  have ki : Ki.Tx mg := ⟨z_isinstance, z_int, z_bool, z_tuple, z_list, z_len, z_all⟩
  have pt : Pen.Txt mg := ⟨z_len, z_int, z_list⟩
  have T0 : Tr.Tx mg := ⟨z_range, z_sorted, z_dict, z_enumerate, z_tuple, z_list, z_int, z_abs, z_len⟩
  have T : Tj.Tx mg := ⟨z_isinstance, z_int, z_bool, z_tuple, z_list, z_len, z_all, z_abs, z_range, z_enumerate, z_sorted, z_set⟩
  refine ⟨fd30, fun s v => b s [v] rfl, fun base _ _ => ?_⟩
  have G0 : FnOk P w K mg base CX0 _ _ _ _ _ := ok_between F0 ki
  have G1 : FnOk P w K mg base CX0 _ _ _ _ _ := ok_cw F1 T0
  have G2 : FnOk P w K mg base CX0 _ _ _ _ _ := ok_res F2 T0
  have G7 : FnOk P w K mg base CX0 _ _ _ _ _ := ok_true F7 T0
  have G9 : FnOk P w K mg base CX0 _ _ _ _ _ := ok_asked F9 T0
  have G8 : FnOk P w K mg base CX0 _ _ _ _ _ := ok_units F8 T0 G7 g7 F7.kp b7 G9 g9 F9.kp b9
  have G11 : FnOk P w K mg base CX0 _ _ _ _ _ := ok_heldin F11 T0
  have G10 : FnOk P w K mg base CX0 _ _ _ _ _ := ok_learnt F10 T0 G11 g11 F11.kp b11 G2 g2 F2.kp b2 G1 g1 F1.kp b1
  have G12 : FnOk P w K mg base CX0 _ _ _ _ _ := ok_gone F12 T0
  have G3 : FnOk P w K mg base CX0 _ _ _ _ _ := ok_il F3 T G0 g0 F0.kp b0
  have G6 : FnOk P w K mg base CX0 _ _ _ _ _ := ok_ir F6 T
  have G5 : FnOk P w K mg base CX0 _ _ _ _ _ := ok_ie F5 T G3 g3 F3.kp b3 G0 g0 F0.kp b0 G6 g6 F6.kp b6
  have G4 : FnOk P w K mg base CX0 _ _ _ _ _ := ok_it F4 T G5 g5 F5.kp b5
  have G13 : FnOk P w K mg base CX0 _ _ _ _ _ := ok_pen F13 pt
  have G14 : FnOk P w K mg base CX0 _ _ _ _ _ := ok_draw F14 pt
  have G15 : FnOk P w K mg base CX0 _ _ _ _ _ := ok_pick F15 pt F14 g14
  have G17 : FnOk P w K mg base CX0 _ _ _ _ _ := ok_dc F17 T0 G14 g14 F14.kp b14 G15 g15 F15.kp b15
  have G18 : FnOk P w K mg base CX0 _ _ _ _ _ := ok_dr F18 T0 G17 g17 F17.kp b17 G15 g15 F15.kp b15
  have G16 : FnOk P w K mg base CX0 _ _ _ _ _ := ok_whole F16 T
  have G22 : FnOk P w K mg base CX0 _ _ _ _ _ := ok_ix F22 T G16 g16 F16.kp b16
  have G25 : FnOk P w K mg base CX0 _ _ _ _ _ := ok_iu F25 T
  have G26 : FnOk P w K mg base CX0 _ _ _ _ _ := ok_af F26 T
  have G24 : FnOk P w K mg base CX0 _ _ _ _ _ := ok_lt F24 T G16 g16 F16.kp b16 G22 g22 F22.kp b22 G25 g25 F25.kp b25
  have G19 : FnOk P w K mg base CX0 _ _ _ _ _ := Tw.ok_sorted F19 T
  have G20 : FnOk P w K mg base CX0 _ _ _ _ _ := ok_re F20 T G19 g19 F19.kp b19
  have G21 : FnOk P w K mg base CX0 _ _ _ _ _ := ok_lo F21 T G22 g22 F22.kp b22 G16 g16 F16.kp b16 G20 g20 F20.kp b20
  have G23 : FnOk P w K mg base CX0 _ _ _ _ _ := ok_llits F23 T0
  have G27 : FnOk P w K mg base CX0 _ _ _ _ _ := ok_ur F27 T G24 g24 F24.kp b24 G23 g23 F23.kp b23 G26 g26 F26.kp b26 G22 g22 F22.kp b22
  have G28 : FnOk P w K mg base CX0 _ _ _ _ _ := ok_lri F28 T G21 g21 F21.kp b21
  have G29 : FnOk P w K mg base CX0 _ _ _ _ _ := ok_bt F29 T G14 g14 F14.kp b14 G15 g15 F15.kp b15
  exact ok_law F30 T G13 g13 F13.kp b13 G14 g14 F14.kp b14 G18 g18 F18.kp b18 G8 g8 F8.kp b8 G27 g27 F27.kp b27 G4 g4 F4.kp b4 G29 g29 F29.kp b29 G24 g24 F24.kp b24 G23 g23 F23.kp b23 G10 g10 F10.kp b10 G28 g28 F28.kp b28 G12 g12 F12.kp b12 G15 g15 F15.kp b15
end E27
open PySem PySem.W PySem.Calls PyProof.Rows
theorem PySem.Challenge.cw_everycycle_k27_whole_trails_and_acts_holds : PySem.Challenge.rw_everycycle_k27_whole_trails_and_acts.Holds := by
  w_on; o_law
  refine HandSHeadRun.head_any (r := OpenLaw.row PySem.Challenge.rw_everycycle_k27_whole_trails_and_acts) (q := view (OpenLaw.row PySem.Challenge.rw_everycycle_k27_whole_trails_and_acts).prog [34]) (H := E27.hk) (ob := E27.ob) (M := 4000) (loose := [("is_between" : PySem.Str), ("clause_with" : PySem.Str), ("resolve_in" : PySem.Str), ("is_literal" : PySem.Str), ("is_trail" : PySem.Str), ("is_entry" : PySem.Str), ("is_reason" : PySem.Str), ("true_literals" : PySem.Str), ("units" : PySem.Str), ("what_is_asked" : PySem.Str), ("learnt" : PySem.Str), ("held_in" : PySem.Str), ("gone_back" : PySem.Str), ("_law_pen" : PySem.Str), ("_law_draw" : PySem.Str), ("_law_pick" : PySem.Str), ("_law_is_whole" : PySem.Str), ("_law_drawn_clause" : PySem.Str), ("_law_drawn_row" : PySem.Str), ("_law_sorted" : PySem.Str), ("_law_resolved" : PySem.Str), ("_law_line_of" : PySem.Str), ("_law_is_index" : PySem.Str), ("_law_literals" : PySem.Str), ("_law_is_trail" : PySem.Str), ("_law_is_unit" : PySem.Str), ("_law_all_false" : PySem.Str), ("_law_units_right" : PySem.Str), ("_law_learnt_right" : PySem.Str), ("_law_bent_trail" : PySem.Str)]) (d := HandSHeadRun.topDef (OpenLaw.row PySem.Challenge.rw_everycycle_k27_whole_trails_and_acts).prog 34) (kwd := []) E27.ob_eq
    (by kernel_rfl) (fun s => by kernel_rfl) E27.run (by kernel_rfl) (by kernel_rfl) (by kernel_rfl) (by rfl) (by first | assumption | decide +kernel) (by decide +kernel) ⟨rfl, rfl, rfl, rfl, rfl, by decide +kernel⟩ ?hw ?hc
  case hw => w_witness2
  case hc =>
    refine Gd.walk_go (l := PySem.Challenge.rw_everycycle_k27_whole_trails_and_acts) (n := 63) (k := 5) (x := "_law_script") (CX := L2.CX0) rfl (by decide) (by kernel_rfl) ⟨rfl, by decide, by decide⟩ ?F (fun _ _ _ _ z => z)
    intro w mg fa h Y G hmg0
    obtain ⟨K, KX, c⟩ := Y
    have hmg : mg ("law" : PySem.Str) = some (.ref fa) := by
      have e : (HandSHeadRun.topDef (OpenLaw.row PySem.Challenge.rw_everycycle_k27_whole_trails_and_acts).prog 34).name = ("law" : PySem.Str) := by kernel_rfl
      rw [← e]
      exact hmg0
    obtain ⟨fd, hb, hF⟩ := E27.facts (P := (PySem.Challenge.rw_everycycle_k27_whole_trails_and_acts).prog) (w := w) KX G hmg c
    exact ⟨K, fd, Tml.spLaw K, KX, hb, fun H a ns hl _ hS => ⟨a, ns, rfl, hS, hl, fun _ => rfl⟩, hF⟩
