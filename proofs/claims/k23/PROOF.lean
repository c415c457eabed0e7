import PyProof.Rows.All
import Wide.All
import OpenK.AllK
import Wide.FinOn
import Lean
import HandS.ForMost
import HandS.Codes
import HandS.Defaults
import HandS.Wide
import HandS.DeepEq
import HandS.Exc
import HandS.ExcInit
import HandS.ExcValue
import HandS.IsInst
import HandS.TupAny
import HandS.OwnEq
import HandS.Star
import HandS.SortInts
import HandS.Conv
import HandS.Style
import HandS.Head0
import HandS.Head1
import HandS.Head2
import HandS.HeadEnd
import HandS.HeadHook1
import HandS.HeadHook2
import HandS.HeadHook3
import HandS.HeadHook4
import HandS.ExcIs
import HandS.ExcField
import KE.KExcIs
import KE.GoesEnum
import HandS.Lambda
import HandS.EndTab
import HandS.ExcField
import HandS.ExcInit
import HandS.ExcIs
import PySem.Challenge.RW_everycycle_k23_machines_refused
set_option Elab.async false
set_option linter.all false
set_option maxRecDepth 100000
set_option maxHeartbeats 4000000
namespace Gd
open PySem PySem.Spec PyProof.Rows L2
/-! ## What a def does where no repr is under way: the promise of FnOk, for such callers alone -/
structure FnG (P : Program) (w : World) (K : PySem.W.Frag) (mg : Str → Option Value) (base : Heap) (CX : CXT) (k : Nat) (f : Addr) (fd : FuncData) (ps : List Str) (sp : Sp) : Prop where
  many : ∀ vs H Q E, sp vs H Q E → vs.length = ps.length
  go : ∀ (A : Around) (fs : List Env) (s : Shared) (H : Hp) (ag : Args) (us : List Value) (vs : List V) (Q : VK) (E : XK), A.guards = some [] → Room k A → Env0 P w K mg base A fs s H →
    BindsTo s fd ag (ps.zip us) → Vals vs us → sp vs H Q E → codeAny (model P w) A (.call (.ref f) ag) (CR CX fs P w H s Q E) s
section
variable {P : Program} {w : World} {K : PySem.W.Frag} {mg : Str → Option Value} {base : Heap} {CX : CXT} {k : Nat} {f : Addr} {fd : FuncData} {ps : List Str} {sp : Sp}
theorem FnG.of (F : FnOk P w K mg base CX k f fd ps sp) : FnG P w K mg base CX k f fd ps sp := ⟨F.len, fun A fs s H ag us vs Q E _ => F.run A fs s H ag us vs Q E⟩
/-- from the def's body -/
theorem FnG.mk_of {x qual : Str} {params : Arguments} {body : List Stmt} {scope : Scope} {dvs : List V} {kws : List (Str × V)} {N : List Str}
    (F : FunD K x qual params body scope dvs kws f fd) (S : FnScope N ps scope) (many : ∀ vs H Q E, sp vs H Q E → vs.length = ps.length)
    (walk : ∀ (cv : Value) (A : Around) (fs : List Env) (s : Shared) (H : Hp) (vs : List V) (Q : VK) (E : XK), A.guards = some [] → Room k (A.deeper (envOfC qual scope s.heap.objs.size f cv)) → sp vs H Q E →
      ∃ t, PSs (cxOf CX P w K mg base N qual scope f cv A fs s H E) body t ∧ t { nx := fun _ H' => Q .non H', rt := Q } (start N vs) H) :
    FnG P w K mg base CX (k + 1) f fd ps sp := by
  obtain ⟨_, _, _, _, _, _, _, cv, _, _, rfl, look, code, _, _⟩ := F.ex
  refine ⟨many, fun A fs s H ag us vs Q E hg room e bind rel prom => ?_⟩
  have kin : K.In s.heap := e.mod.kin.keeps fun b u z => (e.bs b u z).1
  have kinds : ∀ y ∈ ps.zip us, scope.names.lookup y.1 = some .local ∨ (scope.names.lookup y.1 = some .cell ∧ ((cellsFrom (s.heap.objs.size + 1) scope.names []).lookup y.1).isSome = true) := by
    rintro ⟨y, u⟩ hy
    rcases S.par y (List.of_mem_zip hy).1 with q | q
    · exact Or.inl q
    · exact Or.inr ⟨q, PySem.W.cellsFrom_some _ _ _ (Or.inl q)⟩
  refine codeAny_call_function room.depth (kin _ _ look) rfl S.co S.gen rfl (PySem.W.codeRec_of kin code) (bind _ _ _ _ ?_)
  refine wpAny_newFunctionEnv_cells S.kind kinds ?_
  rintro env rfl s1 hs1
  refine ⟨(e.mod.nolimit.keeps fun b u z => (e.bs b u z).1).keeps hs1.toInCall.keep, codeAny_func ?_⟩
  obtain ⟨t, ht, q⟩ := walk cv A fs s H vs Q E hg (room.deeper _) prom
  have I := inv_start (CX := CX) (E := E) S room.hd e (many _ _ _ _ prom) rel hs1
  refine wpAny_mono (ht.run [] s1 (start N vs) H _ I q) (fun fl s2 z => ?_) (fun _ _ z => z)
  match fl, z with
  | .ret u, ⟨v, σ', H', J, rv, q⟩ => exact ⟨v, H', J.os, J.bare, J.base, J.hok, rv, q⟩
  | .next, ⟨σ', H', J, q⟩ => exact ⟨V.non, H', J.os, J.bare, J.base, J.hok, rfl, q⟩
  | .brk, ⟨_, _, _, q⟩ => exact q.elim
  | .cont, ⟨_, _, _, q⟩ => exact q.elim
end
/-- the script's object -/
abbrev scr (vs : List Value) : Obj := { cls := .type "list", data := .seq vs.toArray }
/-- the heap in which the script alone is tracked, if the top did not write it -/
def onlyScr (K : PySem.W.Frag) (a : Addr) (vs : List Value) (ns : List Int) : Hp := fun b => if b = a ∧ (K.lookup a).isNone = true then some (.frz (scr vs) (.lst (ns.map V.int))) else none
theorem onlyScr_get {K : PySem.W.Frag} {a b : Addr} {vs : List Value} {ns : List Int} {o : HO} (h : onlyScr K a vs ns b = some o) : b = a ∧ K.lookup a = none ∧ o = .frz (scr vs) (.lst (ns.map V.int)) := by
  unfold onlyScr at h
  split at h
  · rename_i c
    exact ⟨c.1, Option.isNone_iff_eq_none.mp c.2, (Option.some.inj h).symm⟩
  · cases h
/-- the law is called with its script -/
theorem law_go {P : Program} {w : World} {K : PySem.W.Frag} {mg mb : Str → Option Value} {CX : CXT} {k : Nat} {f a : Addr} {fd : FuncData} {x : Str} {sp : Sp} {s : Shared} {vs : List Value} {ns : List Int}
    (kin : K.In s.heap) (hm : s.heap.Ns mainGlobals mg) (hb : s.heap.Ns builtinsNs mb) (hbb : ∀ y : Str, y ≠ "__name__" → mb y = bootBuiltins y) (lim : s.heap.NoLimit) (hgen : s.gens = #[])
    (ha : s.heap.get? a = some (scr vs)) (hi : IntsAre vs ns) (hl : ns.length ≤ sizeLine) (hr : Room k callerA)
    (F : ∀ base : Heap, K.In base → base.Ns mainGlobals mg → FnG P w K mg base CX k f fd [x] sp) (bind : ∀ (s : Shared) (u : Value), BindsTo s fd ⟨[u], []⟩ [(x, u)])
    (prom : ∀ H : Hp, Only H → SqL K H a (ns.map V.int) → sp [.ref a] H (fun v _ => v = .bl true) fun _ _ _ => False)
    (none_out : ∀ H e s', CX [] H s (fun _ _ _ => False) e s' → False) :
    codeAny (model P w) callerA (.call (.ref f) ⟨[.ref a], []⟩) (fun r s' => r = .ok (.ret (.bool true)) ∧ OldK s.heap s'.heap ∧ s'.os = s.os ∧ AllBare s'.gens) s := by
  have hv := vals_ints hi
  have hlen := hi.length
  let H := onlyScr K a vs ns
  have gone : ∀ {b : Addr} {o : Obj}, K.lookup b = some o → H b = none := fun {b o} q => by
    cases e : H b with
    | none => rfl
    | some u =>
      obtain ⟨rfl, n, _⟩ := onlyScr_get e
      rw [n] at q
      cases q
  have ns_free : ∀ {b : Addr} {o : Obj} {es : Array DictEntry} {ep : Nat}, s.heap.get? b = some o → o.data = .dict es ep → H b = none := fun {b o es ep} q d => by
    cases e : H b with
    | none => rfl
    | some u =>
      obtain ⟨rfl, _, _⟩ := onlyScr_get e
      rw [ha] at q
      cases q
      cases d
  have stays : ∀ {b : Addr} {m : Str → Option Value}, s.heap.Ns b m → (hidT s.heap H).Ns b m := fun ⟨o, es, ep, q, d, r⟩ => ⟨o, es, ep, hidT_get q (ns_free q d), d, r⟩
  have kinT : K.In (hidT s.heap H) := fun b o q => hidT_get (kin b o q) (gone q)
  have hok : HOk P w H s.heap := fun b u q => by
    obtain ⟨rfl, _, rfl⟩ := onlyScr_get q
    exact ⟨ha, by rw [List.length_map]; exact hl, vs, _, hv, ha⟩
  have hO : Only H := fun b => by
    cases e : H b with
    | none => exact Or.inl rfl
    | some u =>
      obtain ⟨_, _, rfl⟩ := onlyScr_get e
      exact Or.inr ⟨_, _, rfl⟩
  have hS : SqL K H a (ns.map V.int) := by
    cases e : K.lookup a with
    | none => exact .inl (.inr ⟨scr vs, if_pos ⟨rfl, by rw [e]; rfl⟩⟩)
    | some o =>
      have q := kin a o e
      rw [ha] at q
      cases q
      exact .inr ⟨_, vs.toArray, _, e, rfl, rfl, rfl, by rw [List.size_toArray, hlen]; exact hl, by simpa using hv⟩
  obtain ⟨mc, l1, l2⟩ := lim
  have e0 : Env0 P w K mg (hidT s.heap H) callerA [] s H := by
    refine ⟨rfl, ⟨kinT, stays hm, ⟨mb, stays hb, hbb⟩, ⟨mc, stays l1, l2⟩⟩, fun b o q => of_hidT q, Nat.le_of_eq (hidT_size _ _), trivial, fun b q => ?_, hok, .of_eq hgen⟩
    cases q
  refine codeAny_mono ((F _ kinT (stays hm)).go callerA [] s H ⟨[.ref a], []⟩ [.ref a] [.ref a] _ _ rfl hr e0 (bind s (.ref a)) (.cons rfl .nil) (prom H hO hS)) fun r s' h => ?_
  match r, h with
  | .error e, h => exact (none_out H e s' h).elim
  | .ok .next, h => exact h.elim
  | .ok .brk, h => exact h.elim
  | .ok .cont, h => exact h.elim
  | .ok (.ret u), ⟨v, H', os, bare, un, hok', rv, q⟩ =>
    have q' : v = .bl true := q
    subst q'
    have hu : u = Value.bool true := rv
    subst hu
    refine ⟨rfl, OldK.of_keep fun b o z => ?_, os, bare⟩
    cases e : H b with
    | none => exact un.keep b o z e (by intro y; cases y) (by simp)
    | some t =>
      obtain ⟨rfl, _, rfl⟩ := onlyScr_get e
      rw [ha] at z
      cases z
      exact (hok' b _ (un.frzs b _ _ e)).1
/-- the end of a law -/
theorem walk_go {l : PySem.W.OpenLaw} {n k : Nat} {q : Program} {loose : List Str} {XP : (Str → Option Value) → Heap → Prop} {YP : World → Heap → Prop} {d : DefRec} {CX : CXT} {x : Str}
    (hn : l.most = some n) (hn2 : n ≤ sizeLine) (hdf : d.params.defaults = []) (hr : Room k callerA)
    (F : ∀ (w : World) (mg : Str → Option Value) (f : Addr) (h : Heap), YP w h → h.Ns mainGlobals mg → mg d.name = some (.ref f) → ∃ (K : PySem.W.Frag) (fd : FuncData) (sp : Sp), K.In h ∧ (∀ (s : Shared) (u : Value), BindsTo s fd ⟨[u], []⟩ [(x, u)]) ∧
      (∀ (H : Hp) (a : Addr) (ns : List Int), ns.length ≤ n → Only H → SqL K H a (ns.map V.int) → sp [.ref a] H (fun v _ => v = .bl true) fun _ _ _ => False) ∧ ∀ base : Heap, K.In base → base.Ns mainGlobals mg → FnG l.prog w K mg base CX k f fd [x] sp)
    (none_out : ∀ (H : Hp) (s : Shared) (e : Value) (s' : Shared), CX [] H s (fun _ _ _ => False) e s' → False) : PySem.W.WalkO q loose XP YP l.row.toRowW d [] (fun f vs => PySem.call f vs) :=
  Att.attach_call hn hdf fun w _ s _ _ f _ _ _ _ a _ ns G Y _ _ _ hmg hobj hints hlen hgen =>
    let ⟨_, _, _, kin, bind, prom, ok⟩ := F w _ f _ Y G.T.g hmg
    law_go kin G.T.g G.T.b G.T.builtins G.T.nolimit hgen hobj hints (Nat.le_trans hlen hn2) hr ok bind (fun H hO hS => prom H a ns hlen hO hS) fun H e s' => none_out H s e s'
/-! ## repr of data -/
section
variable {X : Cx}
/-- repr(x), x data of any depth but dicts -/
def rRepr (K : PySem.W.Frag) : List V → Hp → VK → Prop := fun xs H Q => ∃ (a : Addr) (d : PyData), xs = [.ref a] ∧ Dp K H (.ref a) d ∧ d.showable = true ∧ d.hasDict = false ∧ d.depth ≤ 60 ∧ d.shown.length ≤ sizeLine ∧ Q (.str d.shown) H
theorem call_repr {k : Nat} (hg : X.A.guards = some []) (hr : Room k X.A) : CallR X (.builtin "repr") (rRepr X.K) := by
  intro pins s σ H xs us Q I r h
  obtain ⟨a, d, rfl, hd, h1, h2, h3, h4, q⟩ := h
  obtain ⟨u, rfl, ru⟩ := vals1 r
  obtain ⟨as, rd⟩ := Dp.reads I d _ u hd ru
  have hu : u = Value.ref a := ru
  subst hu
  have room := hr.un
  refine repr_of_reads' rd h1 (fun z => by rw [h2] at z; cases z) hg (by omega) (fun _ _ e => e) (fun h' t tk hk => ?_) h4
  exact ⟨.str d.shown, H, I.kept hk, ⟨t, rfl⟩, q⟩
end
end Gd
namespace Gv
open PySem PySem.Spec PyProof.Rows L2
/-- repr(x), x any data but dicts -/
def rReprV (K : PySem.W.Frag) : List V → Hp → VK → Prop := fun xs H Q => ∃ (v : V) (d : PyData), xs = [v] ∧ Dp K H v d ∧ d.showable = true ∧ d.hasDict = false ∧ d.depth ≤ 60 ∧ d.shown.length ≤ sizeLine ∧ Q (.str d.shown) H
theorem call_reprV {X : Cx} {k : Nat} (hg : X.A.guards = some []) (hr : Room k X.A) : CallR X (.builtin "repr") (rReprV X.K) := by
  intro pins s σ H xs us Q I r h
  obtain ⟨v, d, rfl, hd, h1, h2, h3, h4, q⟩ := h
  cases hd with
  | lst a b => exact Gd.call_repr hg hr pins s σ H _ us Q I r ⟨_, _, rfl, .lst a b, h1, h2, h3, h4, q⟩
  | tup a b => exact Gd.call_repr hg hr pins s σ H _ us Q I r ⟨_, _, rfl, .tup a b, h1, h2, h3, h4, q⟩
  | non =>
    obtain ⟨u, rfl, ru⟩ := vals1 r
    have hu : u = Value.none := ru
    subst hu
    exact PySem.P.repr_of_none ⟨.str "None", H, I.tok _, ⟨_, rfl⟩, q⟩
  | bl b =>
    obtain ⟨u, rfl, ru⟩ := vals1 r
    have hu : u = Value.bool b := ru
    subst hu
    exact PySem.P.repr_of_bool ⟨.str _, H, I.tok _, ⟨_, rfl⟩, q⟩
  | int i =>
    obtain ⟨u, rfl, t, rfl⟩ := vals1 r
    exact PySem.P.repr_of_int (of_decide_eq_true h1) ⟨.str _, H, I.tok _, ⟨_, rfl⟩, q⟩
  | str x =>
    obtain ⟨u, rfl, t, rfl⟩ := vals1 r
    exact PySem.P.repr_of_str ⟨.str _, H, I.tok _, ⟨_, rfl⟩, q⟩ h4
end Gv
namespace Dat
open PySem PySem.Spec PyProof.Rows L2
/-! ## Data of any depth: its kind, and that it stays -/
def isIntD : PyData → Bool
  | .int _ => true
  | .bool _ => true
  | _ => false
def isBoolD : PyData → Bool
  | .bool _ => true
  | _ => false
def isRowD : PyData → Bool
  | .list _ => true
  | .tuple _ => true
  | _ => false
def clsD : PyData → String
  | .none => "NoneType"
  | .bool _ => "bool"
  | .int _ => "int"
  | .str _ => "str"
  | .list _ => "list"
  | .tuple _ => "tuple"
  | .dict _ => "dict"
section
variable {K : PySem.W.Frag} {H H' : Hp} {v : V} {d : PyData}
theorem ty_list {a : Addr} {xs : List V} (h : SqL K H a xs) : TyX K H (.ref a) (.type "list") := by
  rcases h with (h | ⟨o, h⟩) | ⟨o, its, n, h1, h2, _⟩
  · exact .base (.lst h)
  · exact .base (.frz h)
  · exact .kList h1 h2
theorem ty_tup {a : Addr} {xs : List V} (h : SqT K H a xs) : TyX K H (.ref a) (.type "tuple") := by
  rcases h with (h | ⟨o, h⟩) | ⟨o, its, n, h1, h2, _⟩
  · exact .base (.tup h)
  · exact .fTuple h
  · exact .kTuple h1 h2
theorem ty_of (h : Dp K H v d) : TyX K H v (.type (clsD d)) := by
  cases h with
  | non => exact .base .non
  | bl b => exact .base (.bl b)
  | int i => exact .base (.int i)
  | str x => exact .base (.str x)
  | lst hs _ => exact ty_list hs
  | tup hs _ => exact ty_tup hs
theorem kit_int (h : Dp K H v d) : PySem.W.kitOne K (.type (clsD d)) (.type "int") = some (isIntD d) := by
  cases h with
  | non => exact kit_ty (a := "NoneType") (b := "int") (r := false) (by decide +kernel)
  | bl _ => exact kit_ty (a := "bool") (b := "int") (r := true) (by decide +kernel)
  | int _ => exact kit_ty (a := "int") (b := "int") (r := true) (by decide +kernel)
  | str _ => exact kit_ty (a := "str") (b := "int") (r := false) (by decide +kernel)
  | lst _ _ => exact kit_ty (a := "list") (b := "int") (r := false) (by decide +kernel)
  | tup _ _ => exact kit_ty (a := "tuple") (b := "int") (r := false) (by decide +kernel)
theorem kit_bool (h : Dp K H v d) : PySem.W.kitOne K (.type (clsD d)) (.type "bool") = some (isBoolD d) := by
  cases h with
  | non => exact kit_ty (a := "NoneType") (b := "bool") (r := false) (by decide +kernel)
  | bl _ => exact kit_ty (a := "bool") (b := "bool") (r := true) (by decide +kernel)
  | int _ => exact kit_ty (a := "int") (b := "bool") (r := false) (by decide +kernel)
  | str _ => exact kit_ty (a := "str") (b := "bool") (r := false) (by decide +kernel)
  | lst _ _ => exact kit_ty (a := "list") (b := "bool") (r := false) (by decide +kernel)
  | tup _ _ => exact kit_ty (a := "tuple") (b := "bool") (r := false) (by decide +kernel)
theorem kit_row (h : Dp K H v d) : PySem.W.kitAny K (.type (clsD d)) [.type "tuple", .type "list"] = some (isRowD d) := by
  cases h with
  | non => exact kitAny_cons (b := false) (kit_ty (a := "NoneType") (b := "tuple") (r := false) (by decide +kernel)) (fun _ => kitAny_cons (b := false) (kit_ty (a := "NoneType") (b := "list") (r := false) (by decide +kernel)) (fun _ => rfl) (fun z => by cases z)) (fun z => by cases z)
  | bl _ => exact kitAny_cons (b := false) (kit_ty (a := "bool") (b := "tuple") (r := false) (by decide +kernel)) (fun _ => kitAny_cons (b := false) (kit_ty (a := "bool") (b := "list") (r := false) (by decide +kernel)) (fun _ => rfl) (fun z => by cases z)) (fun z => by cases z)
  | int _ => exact kitAny_cons (b := false) (kit_ty (a := "int") (b := "tuple") (r := false) (by decide +kernel)) (fun _ => kitAny_cons (b := false) (kit_ty (a := "int") (b := "list") (r := false) (by decide +kernel)) (fun _ => rfl) (fun z => by cases z)) (fun z => by cases z)
  | str _ => exact kitAny_cons (b := false) (kit_ty (a := "str") (b := "tuple") (r := false) (by decide +kernel)) (fun _ => kitAny_cons (b := false) (kit_ty (a := "str") (b := "list") (r := false) (by decide +kernel)) (fun _ => rfl) (fun z => by cases z)) (fun z => by cases z)
  | lst _ _ => exact kitAny_cons (b := false) (kit_ty (a := "list") (b := "tuple") (r := false) (by decide +kernel)) (fun _ => kitAny_cons (b := true) (kit_ty (a := "list") (b := "list") (r := true) (by decide +kernel)) (fun z => by cases z) (fun _ => rfl)) (fun z => by cases z)
  | tup _ _ => exact kitAny_cons (b := true) (kit_ty (a := "tuple") (b := "tuple") (r := true) (by decide +kernel)) (fun z => by cases z) (fun _ => rfl)
theorem seqT_same {a : Addr} {xs : List V} (s : Same H H') (h : SqT K H a xs) : SqT K H' a xs :=
  h.elim (fun h => .inl (h.elim (fun h => .inl (s _ _ h)) fun ⟨o, h⟩ => .inr ⟨o, s _ _ h⟩)) .inr
mutual
theorem dp_same (s : Same H H') : ∀ {d : PyData} {v : V}, Dp K H v d → Dp K H' v d
  | .none, _, h => by
    cases h
    exact .non
  | .bool b, _, h => by
    cases h
    exact .bl b
  | .int i, _, h => by
    cases h
    exact .int i
  | .str x, _, h => by
    cases h
    exact .str x
  | .list ds, _, h => by
    cases h with
    | lst hs ha => exact .lst (s.seq hs) (dps_same s ha)
  | .tuple ds, _, h => by
    cases h with
    | tup hs ha => exact .tup (seqT_same s hs) (dps_same s ha)
  | .dict _, _, h => by cases h
theorem dps_same (s : Same H H') : ∀ {ds : List PyData} {vs : List V}, DpAll K H vs ds → DpAll K H' vs ds
  | [], _, h => by
    cases h
    exact .nil
  | d :: ds, _, h => by
    cases h with
    | cons h1 h2 => exact .cons (dp_same s h1) (dps_same s h2)
end
theorem dps_len : ∀ {vs : List V} {ds : List PyData}, DpAll K H vs ds → vs.length = ds.length
  | _, [], h => by
    cases h
    rfl
  | _, _ :: _, h => by
    cases h with
    | cons _ h2 => exact congrArg Nat.succ (dps_len h2)
theorem dps_get : ∀ {vs : List V} {ds : List PyData}, DpAll K H vs ds → ∀ {i : Nat} {v : V}, vs[i]? = some v → ∃ d, ds[i]? = some d ∧ Dp K H v d
  | _, [], h, i, v, e => by
    cases h
    simp at e
  | _, d :: ds, h, i, v, e => by
    cases h with
    | cons h1 h2 =>
      cases i with
      | zero =>
        simp at e
        subst e
        exact ⟨d, rfl, h1⟩
      | succ i =>
        simp at e
        obtain ⟨d', q1, q2⟩ := dps_get h2 e
        exact ⟨d', by simpa using q1, q2⟩
end
end Dat
namespace Pen
open PySem
def top (i : Nat) : Stmt := PySem.Challenge.pw_everycycle_k23_machines_refused.main.body.getD i (.Pass ⟨0, 0, 0, 0⟩)
abbrev cBadN : Stmt := top 2
abbrev cBadR : Stmt := top 3
abbrev sBetween : Stmt := top 5
abbrev sFrom : Stmt := top 6
abbrev sRow : Stmt := top 7
abbrev sRowB : Stmt := top 8
abbrev sKeptR : Stmt := top 9
abbrev cGraph : Stmt := top 11
abbrev sNeed : Stmt := top 12
abbrev sGates : Stmt := top 13
abbrev cMach : Stmt := top 15
abbrev cUnr : Stmt := top 16
abbrev sPen : Stmt := top 18
abbrev sDraw : Stmt := top 19
abbrev sPick : Stmt := top 20
abbrev sWhy : Stmt := top 21
abbrev sLaw : Stmt := top 22
end Pen
namespace Pen
open PySem PySem.Spec PyProof.Rows L2
/-! ## The pen: the source of all draws. Its three defs, once for each law -/
abbrev FnP (K : PySem.W.Frag) (x : Str) (st : Stmt) (f : Addr) (fd : FuncData) : Prop := FunD K x x (defArgs st) (defBody st) (defScope st) [] [] f fd
/-- the pen's pairs: cells, at, digits, count, fold -/
def cols (c : Addr) (a d n f : Int) : List (Key × V) := [(.inr "cells", .ref c), (.inr "at", .int a), (.inr "digits", .int d), (.inr "count", .int n), (.inr "fold", .int f)]
section
variable {c : Addr} {a d n f z : Int}
theorem get_cells : valV (cols c a d n f) (.inr "cells" : Key) = some (.ref c) := by rfl
theorem get_at : valV (cols c a d n f) (.inr "at" : Key) = some (.int a) := by rfl
theorem get_digits : valV (cols c a d n f) (.inr "digits" : Key) = some (.int d) := by rfl
theorem get_count : valV (cols c a d n f) (.inr "count" : Key) = some (.int n) := by rfl
theorem get_fold : valV (cols c a d n f) (.inr "fold" : Key) = some (.int f) := by rfl
theorem put_at : putK (cols c a d n f) (.inr "at" : Key) (.int z) = cols c z d n f := by rfl
theorem put_digits : putK (cols c a d n f) (.inr "digits" : Key) (.int z) = cols c a z n f := by rfl
theorem put_count : putK (cols c a d n f) (.inr "count" : Key) (.int z) = cols c a d z f := by rfl
theorem put_fold : putK (cols c a d n f) (.inr "fold" : Key) (.int z) = cols c a d n z := by rfl
variable {H : Hp} {p : Addr}
theorem dg_cells (h : H p = some (.dK (cols c a d n f))) : DGet H p (.str "cells") (some (.ref c)) := DGet.k (k := .inr "cells") h
theorem dg_at (h : H p = some (.dK (cols c a d n f))) : DGet H p (.str "at") (some (.int a)) := DGet.k (k := .inr "at") h
theorem dg_digits (h : H p = some (.dK (cols c a d n f))) : DGet H p (.str "digits") (some (.int d)) := DGet.k (k := .inr "digits") h
theorem dg_count (h : H p = some (.dK (cols c a d n f))) : DGet H p (.str "count") (some (.int n)) := DGet.k (k := .inr "count") h
theorem dg_fold (h : H p = some (.dK (cols c a d n f))) : DGet H p (.str "fold") (some (.int f)) := DGet.k (k := .inr "fold") h
theorem five : 5 < sizeLine := by decide
theorem dp_at (h : H p = some (.dK (cols c a d n f))) : DPut H p (.str "at") (.int z) (upd H p (.dK (cols c z d n f))) := DPut.k (k := .inr "at") h five
theorem dp_digits (h : H p = some (.dK (cols c a d n f))) : DPut H p (.str "digits") (.int z) (upd H p (.dK (cols c a z n f))) := DPut.k (k := .inr "digits") h five
theorem dp_count (h : H p = some (.dK (cols c a d n f))) : DPut H p (.str "count") (.int z) (upd H p (.dK (cols c a d z f))) := DPut.k (k := .inr "count") h five
theorem dp_fold (h : H p = some (.dK (cols c a d n f))) : DPut H p (.str "fold") (.int z) (upd H p (.dK (cols c a d n z))) := DPut.k (k := .inr "fold") h five
end
/-- a pen stands at p, its cells at c; so many draws were made at most -/
def PenC (H : Hp) (p c : Addr) (m : Nat) : Prop :=
  ∃ (ns : List Int) (a d n f : Int), H p = some (.dK (cols c a d n f)) ∧ H c = some (.lst (ns.map V.int)) ∧ ns.length ≤ 1000 ∧ 0 ≤ a ∧ 0 ≤ n ∧ n ≤ m ∧ 0 ≤ f ∧ f < 2147483648
/-- all but the object at p stands as it stood -/
def But (p : Addr) (H H' : Hp) : Prop := ∀ b o, H b = some o → b ≠ p → H' b = some o
theorem But.upd {p : Addr} {H : Hp} {o : HO} : But p H (upd H p o) := fun b o e h => by
  rw [upd_ne h]
  exact e
theorem But.trans {p : Addr} {H H1 H2 : Hp} (a : But p H H1) (b : But p H1 H2) : But p H H2 := fun c o e h => b c o (a c o e h) h
theorem But.refl {p : Addr} {H : Hp} : But p H H := fun _ _ e _ => e
theorem But.of_same {p : Addr} {H H' : Hp} (s : Same H H') : But p H H' := fun c o e _ => s c o e
theorem PenC.same {H H' : Hp} {p c : Addr} {m : Nat} (h : PenC H p c m) (s : Same H H') : PenC H' p c m := by
  obtain ⟨ns, a, d, n, f, h1, h2, r⟩ := h
  exact ⟨ns, a, d, n, f, s _ _ h1, s _ _ h2, r⟩
theorem PenC.more {H : Hp} {p c : Addr} {m m' : Nat} (h : PenC H p c m) (s : m ≤ m') : PenC H p c m' := by
  obtain ⟨ns, a, d, n, f, h1, h2, h3, ha, h4, h5, r⟩ := h
  exact ⟨ns, a, d, n, f, h1, h2, h3, ha, h4, by omega, r⟩
theorem PenC.upd {H : Hp} {p c q : Addr} {m : Nat} {o : HO} (h : PenC H p c m) (n1 : q ≠ p) (n2 : q ≠ c) : PenC (upd H q o) p c m := by
  obtain ⟨ns, a, d, n, f, h1, h2, r⟩ := h
  exact ⟨ns, a, d, n, f, by rw [upd_ne n1.symm]; exact h1, by rw [upd_ne n2.symm]; exact h2, r⟩
theorem PenC.free {H : Hp} {p c q : Addr} {m : Nat} (h : PenC H p c m) (e : H q = none) : q ≠ p ∧ q ≠ c := by
  obtain ⟨ns, a, d, n, f, h1, h2, r⟩ := h
  refine ⟨fun z => ?_, fun z => ?_⟩
  · rw [z, h1] at e
    cases e
  · rw [z, h2] at e
    cases e
/-- the script, as each def is handed it -/
def spPen (K : PySem.W.Frag) : Sp := fun vs H Q _ => ∃ (a : Addr) (ns : List Int), vs = [.ref a] ∧ SqL K H a (ns.map V.int) ∧ ns.length ≤ 63 ∧
  ∀ (p c : Addr) (H' : Hp), H p = none → Same H H' → PenC H' p c 0 → Q (.ref p) H'
def spDraw : Sp := fun vs H Q _ => ∃ (p c : Addr) (m : Nat) (many : Int), vs = [.ref p, .int many] ∧ PenC H p c m ∧ m ≤ 1000000000000 ∧ 0 < many ∧ many < 1073741824 ∧
  ∀ (r : Int) (H' : Hp), 0 ≤ r → r < many → PenC H' p c (m + 1) → But p H H' → Q (.int r) H'
def spPick (K : PySem.W.Frag) : Sp := fun vs H Q _ => ∃ (p c l : Addr) (m : Nat) (xs : List V), vs = [.ref p, .ref l] ∧ PenC H p c m ∧ m ≤ 1000000000000 ∧ l ≠ p ∧ SqL K H l xs ∧ 0 < xs.length ∧ xs.length ≤ 1000 ∧
  ∀ (v : V) (i : Nat) (H' : Hp), xs[i]? = some v → PenC H' p c (m + 1) → But p H H' → Q v H'
abbrev pN : List Str := ["_law_script", "_law_fold", "_law_cell"]
abbrev dN : List Str := ["_law_pen_here", "_law_many", "_law_cell", "_law_digit", "_law_blend"]
abbrev kN : List Str := ["_law_pen_here", "_law_some"]
theorem int_item {ns : List Int} {i : Nat} {y : V} (h : (ns.map V.int)[i]? = some y) : ∃ z, y = V.int z := by
  rw [List.getElem?_map] at h
  cases e : ns[i]? with
  | none =>
    rw [e] at h
    cases h
  | some u =>
    rw [e] at h
    exact ⟨u, (Option.some.inj h).symm⟩
structure Txt (mg : Str → Option Value) : Prop where
  len : mg "len" = none
  int : mg "int" = none
  list : mg "list" = none
section
variable {P : Program} {w : World} {K : PySem.W.Frag} {mg : Str → Option Value} {base : Heap} {f : Addr} {fd : FuncData}
theorem scPen : FnScope pN ["_law_script"] (defScope sPen) := ⟨rfl, rfl, rfl, by decide +kernel, rfl, by decide +kernel, by decide +kernel⟩
theorem scDraw : FnScope dN ["_law_pen_here", "_law_many"] (defScope sDraw) := ⟨rfl, rfl, rfl, by decide +kernel, rfl, by decide +kernel, by decide +kernel⟩
theorem scPick : FnScope kN ["_law_pen_here", "_law_some"] (defScope sPick) := ⟨rfl, rfl, rfl, by decide +kernel, rfl, by decide +kernel, by decide +kernel⟩
theorem ok_pen {CX : CXT} (F : FnP K "_law_pen" sPen f fd) (T : Txt mg) : FnOk P w K mg base CX 1 f fd ["_law_script"] (spPen K) := by
  refine F.ok scPen (fun vs H Q E h => ?_) (fun cdv A outer s H vs Q E hr h => ?_)
  · obtain ⟨a, ns, rfl, _⟩ := h
    rfl
  · obtain ⟨a, ns, rfl, hS, hl, k⟩ := h
    refine ⟨_, PSs.nox (pss_cons (ps_set (i := 1) scPen.nd rfl (Or.inl rfl) pe_int)
      (pss_cons (ps_for PassesOwn.never rfl (pi_list (pv 0)) (pg_name (i := 2) scPen.nd rfl (Or.inl rfl))
        (pss_one (ps_set (i := 1) scPen.nd rfl (Or.inl rfl) (pe_op op_mod (pe_callTy call_int1 (by rfl) T.int (by decide +kernel) (pa_cons (pe_op op_add (pe_op op_mul (pv 1) pe_int) (pv 2)) pa_nil)) pe_int))))
      (pss_one (ps_ret (pe_disp (pps_cons pe_str (pe_callTy call_list_of (by rfl) T.list (by decide +kernel) (pa_cons (pv 0) pa_nil)) (pps_cons pe_str pe_int (pps_cons pe_str pe_int (pps_cons pe_str pe_int (pps_cons pe_str (pv 1) pps_nil))))) (by rfl) (by rfl) (fun z => by cases z) (by decide)))))), ?_⟩
    refine ⟨_, rfl, a, rfl, ⟨_, hS⟩, for_list (K := K) (a := a) (xs := ns.map V.int) (fun i σ H2 => ∃ (z : Int) (v : Option V), σ = [some (.ref a), some (.int z), v] ∧ H2 = H ∧ 0 ≤ z ∧ z < 1000000007)
      ⟨0, none, rfl, rfl, by decide, by decide⟩ (fun i σ H2 _ ⟨_, _, _, e, _⟩ => by rw [e]; exact hS) ?_ ?_⟩
    · rintro i y σ H2 hi ⟨z, v, rfl, rfl, h0, h1⟩
      obtain ⟨u, rfl⟩ := int_item hi
      refine ⟨_, rfl, _, _, rfl, rfl, .inr ⟨by decide, by decide⟩, _, rfl, _, _, rfl, rfl, .inl ⟨_, rfl, _, _, rfl, rfl, (by show (0 : Int) < 1000000007; decide), ?_⟩⟩
      exact ⟨_, _, rfl, rfl, Int.emod_nonneg _ (by decide), Int.emod_lt_of_pos _ (by decide)⟩
    · rintro σ H2 ⟨z, v, rfl, rfl, h0, h1⟩
      intro p hp
      have sp : Same H2 (upd H2 p (.dK [])) := fun b o e => by
        rw [upd_ne (ne_of_none e hp)]
        exact e
      refine ⟨_, rfl, a, _, rfl, .inl (sp.seq hS), fun l hl0 => ?_⟩
      have npl : p ≠ l := fun q => by
        rw [← q, upd_same] at hl0
        cases hl0
      have hl1 : H2 l = none := by
        rw [upd_ne npl.symm] at hl0
        exact hl0
      refine ⟨_, rfl, by rw [upd_ne npl, upd_same], cols l 0 0 0 z, rfl, (by show 5 ≤ 15; decide), ?_⟩
      refine k p l _ hp (fun b o e => ?_) ⟨ns, 0, 0, 0, z, upd_same, ?_, by omega, by decide, by decide, by decide, h0, by omega⟩
      · rw [upd_ne (ne_of_none e hp), upd_ne (ne_of_none e hl1), upd_ne (ne_of_none e hp)]
        exact e
      · rw [upd_ne npl.symm, upd_same]
theorem ok_draw {CX : CXT} (F : FnP K "_law_draw" sDraw f fd) (T : Txt mg) : FnOk P w K mg base CX 1 f fd ["_law_pen_here", "_law_many"] spDraw := by
  refine F.ok scDraw (fun vs H Q E h => ?_) (fun cdv A outer s H vs Q E hr h => ?_)
  · obtain ⟨p, c, m, many, rfl, _⟩ := h
    rfl
  · obtain ⟨p, c, m, many, rfl, ⟨ns, a, d, n, fo, hp, hc, hz, a0, n0, nm, f0, f1⟩, hm, m0, m1, k⟩ := h
    have hu := hu_of hr
    have ncp : c ≠ p := ne_of hc hp (by intro z; cases z)
    refine ⟨_, PSs.nox (pss_cons (ps_dput hu (pv 0) pe_str (pe_op op_add (pe_dget hu (pv 0) pe_str (fun _ _ => rfl)) pe_int) rfl)
      (C8.pss_cut (ps_if (PW.pt (pw_and (pt_cmpR op_eq (pe_dget hu (pv 0) pe_str (fun _ _ => rfl)) pe_int (nomark _))
          (pw_and1 (pt_cmpR op_lt (pe_dget hu (pv 0) pe_str (fun _ _ => rfl)) (pe_callB call_len_seq (by rfl) T.len PySem.boot_len (pa_cons (pe_dget hu (pv 0) pe_str (fun _ _ => rfl)) pa_nil)) (nomark _)))))
        (pss_cons (ps_set (i := 2) scDraw.nd rfl (Or.inl rfl) (pe_ix ix_list (pe_dget hu (pv 0) pe_str (fun _ _ => rfl)) (pe_dget hu (pv 0) pe_str (fun _ _ => rfl)) (fun _ _ => rfl)))
        (pss_cons (ps_dput hu (pv 0) pe_str (pe_op op_add (pe_dget hu (pv 0) pe_str (fun _ _ => rfl)) pe_int) rfl)
        (pss_one (ps_if (pt_cmpR op_ge (pv 2) (pe_op op_pow pe_int pe_int) (nomark _))
          (pss_one (ps_dput hu (pv 0) pe_str (pe_op op_sub (pv 2) (pe_op op_pow pe_int pe_int)) rfl))
          (pss_one (ps_dput hu (pv 0) pe_str (pe_op op_mod (pe_callTy call_int1 (by rfl) T.int (by decide +kernel) (pa_cons (pe_op op_add (pe_op op_mul (pe_dget hu (pv 0) pe_str (fun _ _ => rfl)) pe_int) (pv 2)) pa_nil)) pe_int) rfl))))))
        pss_nil)
      (pss_cons (ps_if (pt_cmpR op_gt (pe_dget hu (pv 0) pe_str (fun _ _ => rfl)) pe_int (nomark _))
        (pss_cons (ps_set (i := 3) scDraw.nd rfl (Or.inl rfl) (pe_op op_mod (pe_callTy call_int1 (by rfl) T.int (by decide +kernel) (pa_cons (pe_dget hu (pv 0) pe_str (fun _ _ => rfl)) pa_nil)) (pv 1)))
        (pss_cons (ps_dput hu (pv 0) pe_str (pe_op op_fdiv (pe_dget hu (pv 0) pe_str (fun _ _ => rfl)) (pv 1)) rfl)
        (pss_one (ps_ret (pv 3)))))
        pss_nil)
      (pss_cons (ps_set (i := 4) scDraw.nd rfl (Or.inl rfl) (pe_op op_add (pe_op op_add (pe_dget hu (pv 0) pe_str (fun _ _ => rfl)) (pe_op op_mul (pe_dget hu (pv 0) pe_str (fun _ _ => rfl)) pe_int)) pe_int))
      (pss_one (ps_ret (pe_op op_mod (pe_op op_fdiv (pe_callTy call_int1 (by rfl) T.int (by decide +kernel) (pa_cons (pe_op op_mod (pe_op op_pow (pv 4) pe_int) pe_int) pa_nil)) pe_int) (pv 1)))))))), ?_⟩
    -- count
    refine ⟨_, rfl, _, _, rfl, dg_count hp, _, _, rfl, rfl, _, rfl, p, _, rfl, dp_count hp, ?_⟩
    have hp1 : ∀ {o : HO}, upd H p o p = some o := upd_same
    have hc1 : ∀ {o : HO}, upd H p o c = some (.lst (ns.map V.int)) := by
      intro o
      rw [upd_ne ncp]
      exact hc
    refine ⟨fun σ H2 => ∃ (a' d' fo' : Int) (cell : Option V), σ = [some (.ref p), some (.int many), cell, none, none] ∧ H2 = upd H p (.dK (cols c a' d' (n + 1) fo')) ∧ 0 ≤ a' ∧ 0 ≤ fo' ∧ fo' < 2147483648, ?_, ?_⟩
    · refine ⟨_, rfl, _, _, rfl, dg_digits hp1, rfl, _, rfl, ?_⟩
      refine ite2 (fun _ => ?_) (fun _ => ?_)
      · refine ⟨_, rfl, _, _, rfl, dg_at hp1, _, rfl, _, _, rfl, dg_cells hp1, _, _, rfl, .inl (SqL.of hc1), _, _, rfl, rfl, _, rfl, ?_⟩
        refine ite2 (fun hlt => ?_) (fun _ => ?_)
        · have hlt := of_decide_eq_true hlt
          have hj : a.toNat < (ns.map V.int).length := by omega
          obtain ⟨u, hu2⟩ := int_item (List.getElem?_eq_getElem hj)
          have hit : (ns.map V.int)[a.toNat]? = some (V.int u) := by
            rw [List.getElem?_eq_getElem hj, hu2]
          refine ⟨_, rfl, _, _, rfl, dg_cells hp1, _, rfl, _, _, rfl, dg_at hp1, _, _, _, _, rfl, rfl, SqL.of hc1, at_of (j := a.toNat) (by omega) hit, ?_⟩
          refine ⟨_, rfl, _, _, rfl, dg_at hp1, _, _, rfl, rfl, _, rfl, p, _, rfl, dp_at hp1, ?_⟩
          rw [upd_upd]
          refine ⟨_, rfl, _, _, rfl, rfl, ⟨by decide, by decide, by decide⟩, _, _, rfl, rfl, _, rfl, ?_⟩
          refine ite2 (fun _ => ?_) (fun _ => ?_)
          · refine ⟨_, rfl, _, _, rfl, rfl, ⟨by decide, by decide, by decide⟩, _, _, rfl, rfl, _, rfl, p, _, rfl, dp_digits hp1, ?_⟩
            rw [upd_upd]
            exact ⟨_, _, _, _, rfl, rfl, by omega, f0, f1⟩
          · refine ⟨_, rfl, _, _, rfl, dg_fold hp1, _, _, rfl, rfl, .inr ⟨by decide, by decide⟩, _, rfl, _, _, rfl, rfl, .inl ⟨_, rfl, _, _, rfl, rfl, (by show (0 : Int) < 2147483587; decide), ?_⟩⟩
            refine ⟨_, rfl, p, _, rfl, dp_fold hp1, ?_⟩
            rw [upd_upd]
            exact ⟨_, _, _, _, rfl, rfl, by omega, Int.emod_nonneg _ (by decide), Int.lt_trans (Int.emod_lt_of_pos _ (by decide)) (by decide)⟩
        · exact ⟨_, _, _, _, rfl, rfl, a0, f0, f1⟩
      · exact ⟨_, _, _, _, rfl, rfl, a0, f0, f1⟩
    · rintro σ H2 ⟨a', d', fo', cell, rfl, rfl, h0, g0, g1⟩
      refine ⟨_, rfl, _, _, rfl, dg_digits hp1, _, _, rfl, rfl, _, rfl, ?_⟩
      refine ite2 (fun _ => ?_) (fun _ => ?_)
      · refine ⟨_, rfl, _, _, rfl, dg_digits hp1, .inl ⟨_, rfl, _, rfl, _, _, rfl, rfl, m0, ?_⟩⟩
        refine ⟨_, rfl, _, _, rfl, dg_digits hp1, _, rfl, _, _, rfl, rfl, ⟨m0, m1⟩, _, rfl, p, _, rfl, dp_digits hp1, ?_⟩
        rw [upd_upd]
        refine ⟨_, rfl, k _ _ (Int.emod_nonneg _ (by omega)) (Int.emod_lt_of_pos _ m0) ⟨ns, _, _, _, _, hp1, hc1, hz, h0, by omega, by omega, g0, g1⟩ But.upd⟩
      · refine ⟨_, rfl, _, _, rfl, dg_fold hp1, _, rfl, _, _, rfl, dg_count hp1, _, _, rfl, rfl, .inr ⟨by decide, by decide⟩, _, _, rfl, rfl, _, _, rfl, rfl, ?_⟩
        refine ⟨_, rfl, _, _, rfl, rfl, ⟨by decide, by decide, ?_⟩, _, _, rfl, rfl, (by show (0 : Int) < 2305843009213693951; decide), .inl ⟨_, rfl, _, _, rfl, rfl, ⟨by decide, by decide⟩, _, rfl, _, _, rfl, rfl, m0, ?_⟩⟩
        · omega
        · exact k _ _ (Int.emod_nonneg _ (by omega)) (Int.emod_lt_of_pos _ m0) ⟨ns, _, _, _, _, hp1, hc1, hz, h0, by omega, by omega, g0, g1⟩ But.upd
theorem ok_pick {CX : CXT} {fD : Addr} {fdD : FuncData} (F : FnP K "_law_pick" sPick f fd) (T : Txt mg) (FD : FnP K "_law_draw" sDraw fD fdD) (gD : mg "_law_draw" = some (.ref fD)) (hCX : ∀ X, Passes CX X E0 := by exact fun X => pass0) : FnOk P w K mg base CX 2 f fd ["_law_pen_here", "_law_some"] (spPick K) := by
  have GD : FnOk P w K mg base CX0 1 fD fdD ["_law_pen_here", "_law_many"] spDraw := ok_draw FD T
  have bD : Binds K fdD ["_law_pen_here", "_law_many"] [] := FD.bindsN fun _ _ _ _ _ _ us hl => match us, hl with | [_, _], _ => rfl
  refine F.ok scPick (fun vs H Q E h => ?_) (fun cdv A outer s H vs Q E hr h => ?_)
  · obtain ⟨p, c, l, m, xs, rfl, _⟩ := h
    rfl
  · obtain ⟨p, c, l, m, xs, rfl, hP, hm, hlp, hS, h0, h1, k⟩ := h
    refine ⟨_, PSs.nox (pss_one (ps_ret (pe_ix ix_list (pv 1) (pe_call GD hr rfl gD FD.kp bD .nil pass0 (pa_cons (pv 0) (pa_cons (pe_callB call_len_seq (by rfl) T.len PySem.boot_len (pa_cons (pv 1) pa_nil)) pa_nil))) (fun _ _ => rfl)))), ?_⟩
    refine ⟨_, rfl, _, rfl, _, rfl, _, _, rfl, .inl hS, p, c, m, _, rfl, hP, hm, by omega, by omega, fun r H' r0 r1 hP' hB => ?_⟩
    have hj : r.toNat < xs.length := by omega
    have hS' : SqL K H' l xs := by
      rcases hS with (h | ⟨o, h⟩) | h
      · exact .inl (.inl (hB _ _ h hlp))
      · exact .inl (.inr ⟨o, hB _ _ h hlp⟩)
      · exact .inr h
    exact ⟨_, _, _, _, rfl, rfl, hS', at_of (j := r.toNat) (by omega) (List.getElem?_eq_getElem hj), k _ _ _ (List.getElem?_eq_getElem hj) hP' hB⟩
end
end Pen
namespace Ki
open PySem PySem.Spec PyProof.Rows L2 Pen Dat
/-! ## Of which kind a value is -/
structure Tx (mg : Str → Option Value) : Prop where
  isi : mg "isinstance" = none
  int : mg "int" = none
  bool : mg "bool" = none
  tuple : mg "tuple" = none
  list : mg "list" = none
  len : mg "len" = none
  all : mg "all" = none
def betD (d : PyData) (lo hi : Int) : Bool :=
  match d with
  | .int i => decide (lo ≤ i) && decide (i ≤ hi)
  | _ => false
def fromD (d : PyData) (lo : Int) : Bool :=
  match d with
  | .int i => decide (i ≥ lo)
  | _ => false
def rowsD (d : PyData) : List PyData :=
  match d with
  | .list ds => ds
  | .tuple ds => ds
  | _ => []
def rowB (d : PyData) (many lo hi : Int) : Bool := isRowD d && (decide (((rowsD d).length : Int) = many) && (rowsD d).all fun e => betD e lo hi)
def spBetween (K : PySem.W.Frag) : Sp := fun vs H Q _ => ∃ (v : V) (lo hi : Int) (d : PyData), vs = [v, .int lo, .int hi] ∧ Dp K H v d ∧ Q (.bl (betD d lo hi)) H
def spFrom (K : PySem.W.Frag) : Sp := fun vs H Q _ => ∃ (v : V) (lo : Int) (d : PyData), vs = [v, .int lo] ∧ Dp K H v d ∧ Q (.bl (fromD d lo)) H
def spRow (K : PySem.W.Frag) : Sp := fun vs H Q _ => ∃ (v : V) (d : PyData), vs = [v] ∧ Dp K H v d ∧ ∀ H', Same H H' → Q (.bl (isRowD d)) H'
def spRowB (K : PySem.W.Frag) : Sp := fun vs H Q _ => ∃ (v : V) (many lo hi : Int) (d : PyData), vs = [v, .int many, .int lo, .int hi] ∧ Dp K H v d ∧ (rowsD d).length ≤ 1000 ∧ ∀ H', Same H H' → Q (.bl (rowB d many lo hi)) H'
section
variable {P : Program} {w : World} {K : PySem.W.Frag} {mg : Str → Option Value} {base : Heap} {f : Addr} {fd : FuncData}
theorem same_new {H : Hp} {p : Addr} {u : HO} (np : H p = none) : Same H (upd H p u) := fun b o e => by
  rw [upd_ne (ne_of_none e np)]
  exact e
theorem scBetween : FnScope ["value", "least", "most"] ["value", "least", "most"] (defScope sBetween) := ⟨rfl, rfl, rfl, by decide +kernel, rfl, by decide +kernel, by decide +kernel⟩
theorem scFrom : FnScope ["value", "least"] ["value", "least"] (defScope sFrom) := ⟨rfl, rfl, rfl, by decide +kernel, rfl, by decide +kernel, by decide +kernel⟩
theorem scRow : FnScope ["value"] ["value"] (defScope sRow) := ⟨rfl, rfl, rfl, by decide +kernel, rfl, by decide +kernel, by decide +kernel⟩
abbrev rbN : List Str := ["value", "many", "least", "most", "part"]
theorem scRowB : FnScope rbN ["value", "many", "least", "most"] (defScope sRowB) := ⟨rfl, rfl, rfl, by decide +kernel, rfl, by decide +kernel, by decide +kernel⟩
theorem ok_between (F : FnP K "is_between" sBetween f fd) (T : Tx mg) : FnOk P w K mg base CX0 1 f fd ["value", "least", "most"] (spBetween K) := by
  refine F.ok scBetween (fun vs H Q E h => ?_) (fun cdv A outer s H vs Q E hr h => ?_)
  · obtain ⟨v, lo, hi, d, rfl, _⟩ := h
    rfl
  · obtain ⟨v, lo, hi, d, rfl, hd, q⟩ := h
    refine ⟨_, PSs.nox (pss_one (ps_ret (pe_and (pe_callB call_isi (by rfl) T.isi (by decide +kernel) (pa_cons (pv 0) (pa_cons (pe_bltn (v := .ty "int") (by rfl) T.int (by decide +kernel) rfl) pa_nil)))
      (pe_and (pe_not (pe_callB call_isi (by rfl) T.isi (by decide +kernel) (pa_cons (pv 0) (pa_cons (pe_bltn (v := .ty "bool") (by rfl) T.bool (by decide +kernel) rfl) pa_nil))))
      (pe_one (pe_chain op_le op_le (pv 1) (pv 0) (pv 2))))))), ?_⟩
    refine ⟨_, rfl, _, _, _, _, _, rfl, .ty _, ty_of hd, kit_int hd, _, rfl, ?_⟩
    have kb := kit_bool hd
    have tb := ty_of hd
    cases hd with
    | non => exact iteF q
    | str x => exact iteF q
    | lst _ _ => exact iteF q
    | tup _ _ => exact iteF q
    | bl b => exact iteT ⟨_, rfl, _, _, _, _, _, rfl, .ty _, tb, kb, _, rfl, _, rfl, iteF q⟩
    | int i =>
      refine iteT ⟨_, rfl, _, _, _, _, _, rfl, .ty _, tb, kb, _, rfl, _, rfl, iteT ?_⟩
      refine ⟨_, rfl, _, rfl, _, _, rfl, rfl, _, rfl, ite2 (fun h1 => ?_) (fun h1 => ?_)⟩
      · refine ⟨_, rfl, _, _, rfl, rfl, ?_⟩
        have e : (decide (lo ≤ i) && decide (i ≤ hi)) = decide (i ≤ hi) := by
          rw [h1]
          rfl
        show Q (V.bl (decide (i ≤ hi))) H
        rw [← e]
        exact q
      · have e : (decide (lo ≤ i) && decide (i ≤ hi)) = false := by
          rw [Bool.eq_false_iff.mpr h1]
          rfl
        show Q (V.bl false) H
        rw [← e]
        exact q
theorem ok_from (F : FnP K "is_from" sFrom f fd) (T : Tx mg) : FnOk P w K mg base CX0 1 f fd ["value", "least"] (spFrom K) := by
  refine F.ok scFrom (fun vs H Q E h => ?_) (fun cdv A outer s H vs Q E hr h => ?_)
  · obtain ⟨v, lo, d, rfl, _⟩ := h
    rfl
  · obtain ⟨v, lo, d, rfl, hd, q⟩ := h
    refine ⟨_, PSs.nox (pss_one (ps_ret (pe_and (pe_callB call_isi (by rfl) T.isi (by decide +kernel) (pa_cons (pv 0) (pa_cons (pe_bltn (v := .ty "int") (by rfl) T.int (by decide +kernel) rfl) pa_nil)))
      (pe_and (pe_not (pe_callB call_isi (by rfl) T.isi (by decide +kernel) (pa_cons (pv 0) (pa_cons (pe_bltn (v := .ty "bool") (by rfl) T.bool (by decide +kernel) rfl) pa_nil))))
      (pe_one (pe_cmpR op_ge (pv 0) (pv 1) (nomark _))))))), ?_⟩
    refine ⟨_, rfl, _, _, _, _, _, rfl, .ty _, ty_of hd, kit_int hd, _, rfl, ?_⟩
    have kb := kit_bool hd
    have tb := ty_of hd
    cases hd with
    | non => exact iteF q
    | str x => exact iteF q
    | lst _ _ => exact iteF q
    | tup _ _ => exact iteF q
    | bl b => exact iteT ⟨_, rfl, _, _, _, _, _, rfl, .ty _, tb, kb, _, rfl, _, rfl, iteF q⟩
    | int i =>
      refine iteT ⟨_, rfl, _, _, _, _, _, rfl, .ty _, tb, kb, _, rfl, _, rfl, iteT ?_⟩
      exact ⟨_, rfl, _, rfl, _, _, rfl, rfl, q⟩
theorem ok_row (F : FnP K "is_row" sRow f fd) (T : Tx mg) : FnOk P w K mg base CX0 1 f fd ["value"] (spRow K) := by
  refine F.ok scRow (fun vs H Q E h => ?_) (fun cdv A outer s H vs Q E hr h => ?_)
  · obtain ⟨v, d, rfl, _⟩ := h
    rfl
  · obtain ⟨v, d, rfl, hd, q⟩ := h
    refine ⟨_, PSs.nox (pss_one (ps_ret (pe_callB call_isiT (by rfl) T.isi (by decide +kernel) (pa_cons (pv 0) (pa_cons (pe_tup (pa_cons (pe_bltn (v := .ty "tuple") (by rfl) T.tuple (by decide +kernel) rfl) (pa_cons (pe_bltn (v := .ty "list") (by rfl) T.list (by decide +kernel) rfl) pa_nil))) pa_nil))))), ?_⟩
    refine ⟨_, rfl, (by show 2 ≤ sizeLine; decide), fun p np => ?_⟩
    exact ⟨_, _, _, _, _, _, rfl, upd_same, .cons (.ty _) (.cons (.ty _) .nil), ty_of (dp_same (same_new np) hd), kit_row hd, q _ (same_new np)⟩
theorem take_more {α : Type} {xs : List α} {i : Nat} {x : α} (h : xs[i]? = some x) : xs.take (i + 1) = xs.take i ++ [x] := by
  rw [List.take_succ, h]
  rfl
theorem yes_of {σ : L2.St} {H : Hp} {A B : Hp → Prop} (h : A H) : tYes σ H fun b H3 => if b = true then A H3 else B H3 := by
  show if true = true then A H else B H
  exact iteT h
theorem ok_rowB {fB fR : Addr} {fdB fdR : FuncData} (F : FnP K "is_row_between" sRowB f fd) (T : Tx mg) (FB : FnP K "is_between" sBetween fB fdB) (gB : mg "is_between" = some (.ref fB)) (FR : FnP K "is_row" sRow fR fdR) (gR : mg "is_row" = some (.ref fR)) :
    FnOk P w K mg base CX0 2 f fd ["value", "many", "least", "most"] (spRowB K) := by
  have GB : FnOk P w K mg base CX0 1 fB fdB ["value", "least", "most"] (spBetween K) := ok_between FB T
  have GR : FnOk P w K mg base CX0 1 fR fdR ["value"] (spRow K) := ok_row FR T
  have bB : Binds K fdB ["value", "least", "most"] [] := FB.bindsN fun _ _ _ _ _ _ us hl => match us, hl with | [_, _, _], _ => rfl
  have bR : Binds K fdR ["value"] [] := FR.bindsN fun _ _ _ _ _ _ us hl => match us, hl with | [_], _ => rfl
  refine F.ok scRowB (fun vs H Q E h => ?_) (fun cdv A outer s H vs Q E hr h => ?_)
  · obtain ⟨v, many, lo, hi, d, rfl, _⟩ := h
    rfl
  · obtain ⟨v, many, lo, hi, d, rfl, hd, hz, q⟩ := h
    cases hd with
    | lst hs ha =>
      rename_i a vs ds
      have hlen := dps_len ha
      have hz' : ds.length ≤ 1000 := hz
      refine ⟨_, PSs.nox (pss_one (ps_ret (pe_and (pe_call GR hr (by rfl) gR FR.kp bR .nil pass0 (pa_cons (pv 0) pa_nil))
        (pe_and (pe_cmpR op_eq (pe_callB call_len_seq (by rfl) T.len PySem.boot_len (pa_cons (pv 0) pa_nil)) (pv 1) (nomark _))
        (pe_one (pe_callB (cr_all rfl) (by rfl) T.all (by decide +kernel) (pa_cons
          (pe_lc (own := [("part", 4)]) (g := gName 4) (tt := tYes) rfl scRowB.nd (pi_list (pv 0)) (blkOk_by (N := rbN) (sc := defScope sRowB) (by decide +kernel)) (fun _ _ _ _ _ => pg_name (i := 4) scRowB.nd rfl (Or.inl rfl)) (fun _ _ _ _ _ => pts_nil)
            (fun _ _ _ _ _ => pe_call GB hr (by rfl) gB FB.kp bB .nil pass0 (pa_cons (pv 4) (pa_cons (pv 2) (pa_cons (pv 3) pa_nil))))) pa_nil))))))), ?_⟩
      refine ⟨_, rfl, _, _, rfl, .lst hs ha, fun H1 s1 => ⟨_, rfl, iteT ?_⟩⟩
      refine ⟨_, rfl, _, _, rfl, .inl (s1.seq hs), _, rfl, rfl, _, rfl, ite2 (fun e1 => ?_) (fun e1 => ?_)⟩
      · have e2 : (ds.length : Int) = many := by
          rw [← hlen]
          exact V.int.inj (of_decide_eq_true e1)
        refine ⟨_, rfl, a, rfl, ⟨_, s1.seq hs⟩, fun D nD => ?_⟩
        have sD : Same H1 (upd H1 D (.lst [])) := same_new nD
        refine lc_list (K := K) (a := a) (xs := vs) (fun i H2 => Same H1 H2 ∧ H2 D = some (.lst ((ds.take i).map fun e => V.bl (betD e lo hi)))) ⟨sD, by rw [upd_same]; rfl⟩ (fun i H2 _ ⟨s2, _⟩ => s2.seq (s1.seq hs)) ?_ ?_
        · rintro i v H2 hi ⟨s2, h2⟩
          obtain ⟨e, he, hv⟩ := dps_get ha hi
          refine ⟨rfl, yes_of ?_⟩
          refine ⟨_, rfl, _, rfl, _, rfl, _, _, _, e, rfl, dp_same (s1.trans s2) hv, _, h2, ?_, fun b o z => ?_, ?_⟩
          · rw [List.length_map, List.length_take]
            exact Nat.lt_of_le_of_lt (Nat.min_le_right _ _) (Nat.lt_of_le_of_lt hz' (by decide))
          · rw [upd_ne (ne_of_none z nD)]
            exact s2 _ _ z
          · rw [upd_same, take_more he, List.map_append]
            rfl
        · rintro H2 ⟨s2, h2⟩
          rw [hlen, List.take_length] at h2
          refine ⟨D, ds.map fun e => betD e lo hi, rfl, SqL.of ?_, ?_⟩
          · rw [h2, List.map_map]
            rfl
          · have e3 : rowB (.list ds) many lo hi = (ds.map fun e => betD e lo hi).all id := by
              show (true && (decide ((ds.length : Int) = many) && ds.all fun e => betD e lo hi)) = _
              rw [decide_eq_true e2, List.all_map]
              rfl
            rw [← e3]
            exact q _ (s1.trans s2)
      · have e2 : ¬ (ds.length : Int) = many := fun z => e1 (decide_eq_true (by rw [hlen, z]))
        have e3 : rowB (.list ds) many lo hi = false := by
          show (true && (decide ((ds.length : Int) = many) && ds.all fun e => betD e lo hi)) = false
          rw [decide_eq_false e2]
          rfl
        rw [← e3]
        exact q _ s1
    | tup hs ha =>
      rename_i a vs ds
      have hlen := dps_len ha
      have hz' : ds.length ≤ 1000 := hz
      refine ⟨_, PSs.nox (pss_one (ps_ret (pe_and (pe_call GR hr (by rfl) gR FR.kp bR .nil pass0 (pa_cons (pv 0) pa_nil))
        (pe_and (pe_cmpR op_eq (pe_callB call_len_seq (by rfl) T.len PySem.boot_len (pa_cons (pv 0) pa_nil)) (pv 1) (nomark _))
        (pe_one (pe_callB (cr_all rfl) (by rfl) T.all (by decide +kernel) (pa_cons
          (pe_lc (own := [("part", 4)]) (g := gName 4) (tt := tYes) rfl scRowB.nd (pi_tup (pv 0)) (blkOk_by (N := rbN) (sc := defScope sRowB) (by decide +kernel)) (fun _ _ _ _ _ => pg_name (i := 4) scRowB.nd rfl (Or.inl rfl)) (fun _ _ _ _ _ => pts_nil)
            (fun _ _ _ _ _ => pe_call GB hr (by rfl) gB FB.kp bB .nil pass0 (pa_cons (pv 4) (pa_cons (pv 2) (pa_cons (pv 3) pa_nil))))) pa_nil))))))), ?_⟩
      refine ⟨_, rfl, _, _, rfl, .tup hs ha, fun H1 s1 => ⟨_, rfl, iteT ?_⟩⟩
      refine ⟨_, rfl, _, _, rfl, .inr (seqT_same s1 hs), _, rfl, rfl, _, rfl, ite2 (fun e1 => ?_) (fun e1 => ?_)⟩
      · have e2 : (ds.length : Int) = many := by
          rw [← hlen]
          exact V.int.inj (of_decide_eq_true e1)
        refine ⟨_, rfl, a, rfl, ⟨_, seqT_same s1 hs⟩, fun D nD => ?_⟩
        have sD : Same H1 (upd H1 D (.lst [])) := same_new nD
        refine lc_tup (K := K) (a := a) (xs := vs) (fun i H2 => Same H1 H2 ∧ H2 D = some (.lst ((ds.take i).map fun e => V.bl (betD e lo hi)))) ⟨sD, by rw [upd_same]; rfl⟩ (fun i H2 _ ⟨s2, _⟩ => seqT_same s2 (seqT_same s1 hs)) ?_ ?_
        · rintro i v H2 hi ⟨s2, h2⟩
          obtain ⟨e, he, hv⟩ := dps_get ha hi
          refine ⟨rfl, yes_of ?_⟩
          refine ⟨_, rfl, _, rfl, _, rfl, _, _, _, e, rfl, dp_same (s1.trans s2) hv, _, h2, ?_, fun b o z => ?_, ?_⟩
          · rw [List.length_map, List.length_take]
            exact Nat.lt_of_le_of_lt (Nat.min_le_right _ _) (Nat.lt_of_le_of_lt hz' (by decide))
          · rw [upd_ne (ne_of_none z nD)]
            exact s2 _ _ z
          · rw [upd_same, take_more he, List.map_append]
            rfl
        · rintro H2 ⟨s2, h2⟩
          rw [hlen, List.take_length] at h2
          refine ⟨D, ds.map fun e => betD e lo hi, rfl, SqL.of ?_, ?_⟩
          · rw [h2, List.map_map]
            rfl
          · have e3 : rowB (.tuple ds) many lo hi = (ds.map fun e => betD e lo hi).all id := by
              show (true && (decide ((ds.length : Int) = many) && ds.all fun e => betD e lo hi)) = _
              rw [decide_eq_true e2, List.all_map]
              rfl
            rw [← e3]
            exact q _ (s1.trans s2)
      · have e2 : ¬ (ds.length : Int) = many := fun z => e1 (decide_eq_true (by rw [hlen, z]))
        have e3 : rowB (.tuple ds) many lo hi = false := by
          show (true && (decide ((ds.length : Int) = many) && ds.all fun e => betD e lo hi)) = false
          rw [decide_eq_false e2]
          rfl
        rw [← e3]
        exact q _ s1
    | non =>
      refine ⟨_, PSs.nox (pss_one (ps_ret (pe_and (pe_call GR hr (by rfl) gR FR.kp bR .nil pass0 (pa_cons (pv 0) pa_nil))
        (pe_and (pe_cmpR op_eq (pe_callB call_len_seq (by rfl) T.len PySem.boot_len (pa_cons (pv 0) pa_nil)) (pv 1) (nomark _))
        (pe_one (pe_callB (cr_all rfl) (by rfl) T.all (by decide +kernel) (pa_cons
          (pe_lc (own := [("part", 4)]) (g := gName 4) (tt := tYes) rfl scRowB.nd (pi_list (pv 0)) (blkOk_by (N := rbN) (sc := defScope sRowB) (by decide +kernel)) (fun _ _ _ _ _ => pg_name (i := 4) scRowB.nd rfl (Or.inl rfl)) (fun _ _ _ _ _ => pts_nil)
            (fun _ _ _ _ _ => pe_call GB hr (by rfl) gB FB.kp bB .nil pass0 (pa_cons (pv 4) (pa_cons (pv 2) (pa_cons (pv 3) pa_nil))))) pa_nil))))))), ?_⟩
      exact ⟨_, rfl, _, _, rfl, .non, fun H1 s1 => ⟨_, rfl, iteF (q _ s1)⟩⟩
    | bl b =>
      refine ⟨_, PSs.nox (pss_one (ps_ret (pe_and (pe_call GR hr (by rfl) gR FR.kp bR .nil pass0 (pa_cons (pv 0) pa_nil))
        (pe_and (pe_cmpR op_eq (pe_callB call_len_seq (by rfl) T.len PySem.boot_len (pa_cons (pv 0) pa_nil)) (pv 1) (nomark _))
        (pe_one (pe_callB (cr_all rfl) (by rfl) T.all (by decide +kernel) (pa_cons
          (pe_lc (own := [("part", 4)]) (g := gName 4) (tt := tYes) rfl scRowB.nd (pi_list (pv 0)) (blkOk_by (N := rbN) (sc := defScope sRowB) (by decide +kernel)) (fun _ _ _ _ _ => pg_name (i := 4) scRowB.nd rfl (Or.inl rfl)) (fun _ _ _ _ _ => pts_nil)
            (fun _ _ _ _ _ => pe_call GB hr (by rfl) gB FB.kp bB .nil pass0 (pa_cons (pv 4) (pa_cons (pv 2) (pa_cons (pv 3) pa_nil))))) pa_nil))))))), ?_⟩
      exact ⟨_, rfl, _, _, rfl, .bl b, fun H1 s1 => ⟨_, rfl, iteF (q _ s1)⟩⟩
    | int i =>
      refine ⟨_, PSs.nox (pss_one (ps_ret (pe_and (pe_call GR hr (by rfl) gR FR.kp bR .nil pass0 (pa_cons (pv 0) pa_nil))
        (pe_and (pe_cmpR op_eq (pe_callB call_len_seq (by rfl) T.len PySem.boot_len (pa_cons (pv 0) pa_nil)) (pv 1) (nomark _))
        (pe_one (pe_callB (cr_all rfl) (by rfl) T.all (by decide +kernel) (pa_cons
          (pe_lc (own := [("part", 4)]) (g := gName 4) (tt := tYes) rfl scRowB.nd (pi_list (pv 0)) (blkOk_by (N := rbN) (sc := defScope sRowB) (by decide +kernel)) (fun _ _ _ _ _ => pg_name (i := 4) scRowB.nd rfl (Or.inl rfl)) (fun _ _ _ _ _ => pts_nil)
            (fun _ _ _ _ _ => pe_call GB hr (by rfl) gB FB.kp bB .nil pass0 (pa_cons (pv 4) (pa_cons (pv 2) (pa_cons (pv 3) pa_nil))))) pa_nil))))))), ?_⟩
      exact ⟨_, rfl, _, _, rfl, .int i, fun H1 s1 => ⟨_, rfl, iteF (q _ s1)⟩⟩
    | str x =>
      refine ⟨_, PSs.nox (pss_one (ps_ret (pe_and (pe_call GR hr (by rfl) gR FR.kp bR .nil pass0 (pa_cons (pv 0) pa_nil))
        (pe_and (pe_cmpR op_eq (pe_callB call_len_seq (by rfl) T.len PySem.boot_len (pa_cons (pv 0) pa_nil)) (pv 1) (nomark _))
        (pe_one (pe_callB (cr_all rfl) (by rfl) T.all (by decide +kernel) (pa_cons
          (pe_lc (own := [("part", 4)]) (g := gName 4) (tt := tYes) rfl scRowB.nd (pi_list (pv 0)) (blkOk_by (N := rbN) (sc := defScope sRowB) (by decide +kernel)) (fun _ _ _ _ _ => pg_name (i := 4) scRowB.nd rfl (Or.inl rfl)) (fun _ _ _ _ _ => pts_nil)
            (fun _ _ _ _ _ => pe_call GB hr (by rfl) gB FB.kp bB .nil pass0 (pa_cons (pv 4) (pa_cons (pv 2) (pa_cons (pv 3) pa_nil))))) pa_nil))))))), ?_⟩
      exact ⟨_, rfl, _, _, rfl, .str x, fun H1 s1 => ⟨_, rfl, iteF (q _ s1)⟩⟩
end
end Ki
namespace Fi
open PySem PySem.Spec PyProof.Rows L2 Pen Dat
/-! ## What never changes: tuples, locked things, instances -/
def firm : HO → Bool
  | .tup _ => true
  | .frz _ _ => true
  | .ins _ _ _ => true
  | _ => false
def Firm (H H' : Hp) : Prop := ∀ b o, H b = some o → firm o = true → H' b = some o
theorem Firm.refl (H : Hp) : Firm H H := fun _ _ e _ => e
theorem Firm.trans {H H1 H2 : Hp} (a : Firm H H1) (b : Firm H1 H2) : Firm H H2 := fun c o e h => b c o (a c o e h) h
theorem Firm.of {H H' : Hp} (s : Same H H') : Firm H H' := fun b o e _ => s b o e
theorem Firm.upd {H : Hp} {a : Addr} {u o : HO} (h : H a = some u) (hu : firm u = false) : Firm H (upd H a o) := fun b z e hz => by
  rw [upd_ne (fun q => by rw [q, h] at e; cases e; rw [hu] at hz; cases hz)]
  exact e
theorem Firm.but {H H' : Hp} {p : Addr} {u : HO} (c : But p H H') (h : H p = some u) (hu : firm u = false) : Firm H H' := fun b z e hz =>
  c b z e fun q => by
    rw [q, h] at e
    cases e
    rw [hu] at hz
    cases hz
theorem Firm.pen {H H' : Hp} {p c : Addr} {m : Nat} (b : But p H H') (h : PenC H p c m) : Firm H H' := by
  obtain ⟨_, _, _, _, _, h1, _⟩ := h
  exact Firm.but b h1 rfl
/-! ### two lists, item by item -/
inductive All2 {α : Type} (R : V → α → Prop) : List V → List α → Prop
  | nil : All2 R [] []
  | cons {v : V} {x : α} {vs : List V} {xs : List α} : R v x → All2 R vs xs → All2 R (v :: vs) (x :: xs)
section
variable {α : Type} {R R' : V → α → Prop}
theorem All2.len : ∀ {vs : List V} {xs : List α}, All2 R vs xs → vs.length = xs.length
  | _, _, .nil => rfl
  | _, _, .cons _ h => congrArg Nat.succ h.len
theorem All2.imp (f : ∀ v x, R v x → R' v x) : ∀ {vs : List V} {xs : List α}, All2 R vs xs → All2 R' vs xs
  | _, _, .nil => .nil
  | _, _, .cons h t => .cons (f _ _ h) (t.imp f)
theorem All2.get : ∀ {vs : List V} {xs : List α}, All2 R vs xs → ∀ {i : Nat} {v : V}, vs[i]? = some v → ∃ x, xs[i]? = some x ∧ R v x
  | _, _, .nil, i, v, e => by simp at e
  | _, _, .cons (v := v0) (x := x0) h t, 0, v, e => by
    simp at e
    subst e
    exact ⟨x0, rfl, h⟩
  | _, _, .cons h t, i + 1, v, e => by
    simp at e
    obtain ⟨x, q1, q2⟩ := t.get e
    exact ⟨x, by simpa using q1, q2⟩
theorem All2.get' : ∀ {vs : List V} {xs : List α}, All2 R vs xs → ∀ {i : Nat} {x : α}, xs[i]? = some x → ∃ v, vs[i]? = some v ∧ R v x
  | _, _, .nil, i, v, e => by simp at e
  | _, _, .cons (v := v0) (x := x0) h t, 0, v, e => by
    simp at e
    subst e
    exact ⟨v0, rfl, h⟩
  | _, _, .cons h t, i + 1, v, e => by
    simp at e
    obtain ⟨x, q1, q2⟩ := t.get' e
    exact ⟨x, by simpa using q1, q2⟩
theorem All2.snoc {v : V} {x : α} (h : R v x) : ∀ {vs : List V} {xs : List α}, All2 R vs xs → All2 R (vs ++ [v]) (xs ++ [x])
  | _, _, .nil => .cons h .nil
  | _, _, .cons h1 t => .cons h1 (t.snoc h)
theorem All2.append : ∀ {vs ws : List V} {xs ys : List α}, All2 R vs xs → All2 R ws ys → All2 R (vs ++ ws) (xs ++ ys)
  | _, _, _, _, .nil, h => h
  | _, _, _, _, .cons h1 t, h => .cons h1 (t.append h)
theorem All2.take : ∀ {vs : List V} {xs : List α} (n : Nat), All2 R vs xs → All2 R (vs.take n) (xs.take n)
  | _, _, 0, _ => by
    rw [List.take_zero, List.take_zero]
    exact .nil
  | _, _, _ + 1, .nil => .nil
  | _, _, n + 1, .cons h t => .cons h (t.take n)
end
/-! ### pairs, rows of pairs, rows of ints -/
def Pt (K : PySem.W.Frag) (H : Hp) (v : V) (p : Int × Int) : Prop := ∃ q, v = .ref q ∧ SqT K H q [.int p.1, .int p.2]
def Pr (K : PySem.W.Frag) (H : Hp) (v : V) (p : Int × Int) : Prop := ∃ q, v = .ref q ∧ (SqL K H q [.int p.1, .int p.2] ∨ SqT K H q [.int p.1, .int p.2])
def Tu (K : PySem.W.Frag) (H : Hp) (v : V) (r : List Int) : Prop := ∃ q, v = .ref q ∧ H q = some (.tup (r.map V.int))
def GT (K : PySem.W.Frag) (H : Hp) (g : Addr) (gs : List (Int × Int)) : Prop := ∃ vs, SqT K H g vs ∧ All2 (Pt K H) vs gs
def RowG (K : PySem.W.Frag) (H : Hp) (v : V) (gs : List (Int × Int)) : Prop := ∃ r vs, v = .ref r ∧ (SqL K H r vs ∨ SqT K H r vs) ∧ All2 (Pr K H) vs gs
section
variable {K : PySem.W.Frag} {H H' : Hp}
theorem firm_seq {a : Addr} {xs : List V} (s : Firm H H') (h : SqT K H a xs) : SqT K H' a xs :=
  h.elim (fun h => .inl (h.elim (fun h => .inl (s _ _ h rfl)) fun ⟨o, h⟩ => .inr ⟨o, s _ _ h rfl⟩)) .inr
theorem Pt.firm {v : V} {p : Int × Int} (s : Firm H H') (h : Pt K H v p) : Pt K H' v p := by
  obtain ⟨q, e, h⟩ := h
  exact ⟨q, e, firm_seq s h⟩
theorem Tu.firm {v : V} {r : List Int} (s : Firm H H') (h : Tu K H v r) : Tu K H' v r := by
  obtain ⟨q, e, h⟩ := h
  exact ⟨q, e, s _ _ h rfl⟩
theorem GT.firm {g : Addr} {gs : List (Int × Int)} (s : Firm H H') (h : GT K H g gs) : GT K H' g gs := by
  obtain ⟨vs, h1, h2⟩ := h
  exact ⟨vs, firm_seq s h1, h2.imp fun _ _ q => q.firm s⟩
theorem Pr.same {v : V} {p : Int × Int} (s : Same H H') (h : Pr K H v p) : Pr K H' v p := by
  obtain ⟨q, e, h⟩ := h
  exact ⟨q, e, h.elim (fun h => .inl (s.seq h)) fun h => .inr (seqT_same s h)⟩
theorem RowG.same {v : V} {gs : List (Int × Int)} (s : Same H H') (h : RowG K H v gs) : RowG K H' v gs := by
  obtain ⟨r, vs, e, h1, h2⟩ := h
  exact ⟨r, vs, e, h1.elim (fun h => .inl (s.seq h)) fun h => .inr (seqT_same s h), h2.imp fun _ _ q => q.same s⟩
theorem Pt.pr {v : V} {p : Int × Int} (h : Pt K H v p) : Pr K H v p := by
  obtain ⟨q, e, h⟩ := h
  exact ⟨q, e, .inr h⟩
theorem GT.row {g : Addr} {gs : List (Int × Int)} (h : GT K H g gs) : RowG K H (.ref g) gs := by
  obtain ⟨vs, h1, h2⟩ := h
  exact ⟨g, vs, rfl, .inr h1, h2.imp fun _ _ q => q.pr⟩
/-- a row of pairs, as data -/
def pD (p : Int × Int) : PyData := .tuple [.int p.1, .int p.2]
def gD (gs : List (Int × Int)) : PyData := .tuple (gs.map pD)
theorem pt_dp {v : V} {p : Int × Int} (h : Pt K H v p) : Dp K H v (pD p) := by
  obtain ⟨q, rfl, h⟩ := h
  exact .tup h (.cons (.int _) (.cons (.int _) .nil))
theorem pts_dp : ∀ {vs : List V} {gs : List (Int × Int)}, All2 (Pt K H) vs gs → DpAll K H vs (gs.map pD)
  | _, _, .nil => .nil
  | _, _, .cons h t => .cons (pt_dp h) (pts_dp t)
theorem GT.dp {g : Addr} {gs : List (Int × Int)} (h : GT K H g gs) : Dp K H (.ref g) (gD gs) := by
  obtain ⟨vs, h1, h2⟩ := h
  exact .tup h1 (pts_dp h2)
theorem ints_dp : ∀ (r : List Int), DpAll K H (r.map V.int) (r.map PyData.int)
  | [] => .nil
  | _ :: r => .cons (.int _) (ints_dp r)
end
end Fi
namespace Gr
open PySem PySem.Spec PyProof.Rows L2 Pen Dat Ki Fi
/-! ## Graphs -/
structure Tx (K : PySem.W.Frag) (mg : Str → Option Value) (C : Addr) : Prop where
  ki : Ki.Tx mg
  cl : Cls K C
  nL : NoAttr K C "leaves"
  nG : NoAttr K C "gates"
  mgC : mg "Graph" = some (.ref C)
  cls : PySem.W.findIn K (.ref C) "__class__" = some (some (.builtin "object.__class__"))
  spc : PySem.W.specialIn K (.builtin "object.__class__") "__get__" = some (some (.builtin "getset_descriptor.__get__"))
  tak : PySem.W.takesIn K (.builtin "object.__class__") = some true
  met : ∀ {H : Hp} {a dx : Addr} {fs : List (Str × V)}, H a = some (.ins C dx fs) → TyOf K H (.ref a) (.ref C)
  own : PySem.W.kitOne K (.ref C) (.ref C) = some true
  tup : PySem.W.kitOne K (.type "tuple") (.ref C) = some false
def flds (n : Int) (g : Addr) : List (Str × V) := putF "gates" (.ref g) (putF "leaves" (.int n) [])
theorem kLG : ¬ (("leaves" : Str) = "gates") := by decide +kernel
theorem flds_eq (n : Int) (g : Addr) : flds n g = ([("leaves", V.int n), ("gates", V.ref g)] : List (Str × V)) := by
  show (if ("leaves" : Str) = "gates" then [(("leaves" : Str), V.ref g)] else (("leaves" : Str), V.int n) :: putF "gates" (V.ref g) []) = ([("leaves", V.int n), ("gates", V.ref g)] : List (Str × V))
  rw [if_neg kLG]
  all_goals rfl
theorem flds_L (n : Int) (g : Addr) : (flds n g).lookup ("leaves" : Str) = some (.int n) := by
  unfold flds
  rw [lookup_putF, if_neg kLG, lookup_putF, if_pos rfl]
theorem flds_G (n : Int) (g : Addr) : (flds n g).lookup ("gates" : Str) = some (.ref g) := by
  unfold flds
  rw [lookup_putF, if_pos rfl]
def GraphAt (K : PySem.W.Frag) (C : Addr) (H : Hp) (p : Addr) (n : Int) (gs : List (Int × Int)) : Prop := ∃ dx g, H p = some (.ins C dx (flds n g)) ∧ GT K H g gs
theorem GraphAt.firm {K : PySem.W.Frag} {C p : Addr} {H H' : Hp} {n : Int} {gs : List (Int × Int)} (s : Firm H H') (h : GraphAt K C H p n gs) : GraphAt K C H' p n gs := by
  obtain ⟨dx, g, h1, h2⟩ := h
  exact ⟨dx, g, s _ _ h1 rfl, h2.firm s⟩
def goB : Int → List PyData → Bool
  | _, [] => true
  | m, e :: r => rowB e 2 0 m && goB (m + 2) r
def gatesB (n : Int) (d : PyData) : Bool := isRowD d && goB (2 * n + 1) (rowsD d)
def within (a m : Int) : Bool := decide (0 ≤ a) && decide (a ≤ m)
def okG : Int → List (Int × Int) → Bool
  | _, [] => true
  | m, p :: r => (within p.1 m && within p.2 m) && okG (m + 2) r
theorem pr_dp {K : PySem.W.Frag} {H : Hp} {v : V} {p : Int × Int} (h : Pr K H v p) : ∃ e, Dp K H v e ∧ (rowsD e).length ≤ 1000 ∧ ∀ m, rowB e 2 0 m = (within p.1 m && within p.2 m) := by
  obtain ⟨q, rfl, h | h⟩ := h
  · exact ⟨_, .lst h (.cons (.int _) (.cons (.int _) .nil)), by show 2 ≤ 1000; decide, fun m => by show (true && (decide (((2 : Nat) : Int) = 2) && (within p.1 m && (within p.2 m && true)))) = _; rw [decide_eq_true (by rfl), Bool.and_true]; rfl⟩
  · exact ⟨_, .tup h (.cons (.int _) (.cons (.int _) .nil)), by show 2 ≤ 1000; decide, fun m => by show (true && (decide (((2 : Nat) : Int) = 2) && (within p.1 m && (within p.2 m && true)))) = _; rw [decide_eq_true (by rfl), Bool.and_true]; rfl⟩
theorem prs_dp {K : PySem.W.Frag} {H : Hp} : ∀ {vs : List V} {gs : List (Int × Int)}, All2 (Pr K H) vs gs → ∃ ds, DpAll K H vs ds ∧ ds.length = gs.length ∧ (∀ e ∈ ds, (rowsD e).length ≤ 1000) ∧ ∀ m, goB m ds = okG m gs
  | _, _, .nil => ⟨[], .nil, rfl, (fun e z => absurd z List.not_mem_nil), fun m => rfl⟩
  | _, _, .cons h t => by
    obtain ⟨e, e1, e2, e3⟩ := pr_dp h
    obtain ⟨ds, d1, d2, d3, d4⟩ := prs_dp t
    refine ⟨e :: ds, .cons e1 d1, congrArg Nat.succ d2, fun z hz => ?_, fun m => ?_⟩
    · rcases List.mem_cons.mp hz with rfl | hz
      · exact e2
      · exact d3 z hz
    · show (rowB e 2 0 m && goB (m + 2) ds) = _
      rw [e3, d4]
      rfl
theorem row_dp {K : PySem.W.Frag} {H : Hp} {v : V} {gs : List (Int × Int)} (h : RowG K H v gs) : ∃ d, Dp K H v d ∧ (rowsD d).length = gs.length ∧ (∀ e ∈ rowsD d, (rowsD e).length ≤ 1000) ∧ ∀ n, gatesB n d = okG (2 * n + 1) gs := by
  obtain ⟨r, vs, rfl, h1, h2⟩ := h
  obtain ⟨ds, d1, d2, d3, d4⟩ := prs_dp h2
  rcases h1 with h1 | h1
  · exact ⟨.list ds, .lst h1 d1, d2, d3, fun n => d4 _⟩
  · exact ⟨.tuple ds, .tup h1 d1, d2, d3, fun n => d4 _⟩
def spNeed : Sp := fun vs H Q _ => ∃ n : Int, vs = [.int n] ∧ n ≥ 0 ∧ Q .non H
def spGates (K : PySem.W.Frag) : Sp := fun vs H Q _ => ∃ (n : Int) (v : V) (d : PyData), vs = [.int n, v] ∧ Dp K H v d ∧ (rowsD d).length ≤ 1000 ∧ (∀ e ∈ rowsD d, (rowsD e).length ≤ 1000) ∧ ∀ H', Same H H' → Q (.bl (gatesB n d)) H'
def spInit (K : PySem.W.Frag) (C : Addr) : Sp := fun vs H Q _ => ∃ (p dx : Addr) (n : Int) (v : V) (gs : List (Int × Int)), vs = [.ref p, .int n, v] ∧ H p = some (.ins C dx []) ∧ n ≥ 0 ∧ RowG K H v gs ∧ gs.length ≤ 1000 ∧ okG (2 * n + 1) gs = true ∧
  ∀ H', (∀ b o, H b = some o → b ≠ p → H' b = some o) → GraphAt K C H' p n gs → Q .non H'
def spEqG (K : PySem.W.Frag) (C : Addr) : Sp := fun vs H Q _ => ∃ (p : Addr) (v : V) (n : Int) (gs : List (Int × Int)), vs = [.ref p, v] ∧ GraphAt K C H p n gs ∧
  ((∃ (q : Addr) (n' : Int) (gs' : List (Int × Int)), v = .ref q ∧ GraphAt K C H q n' gs' ∧ Q (.bl (decide (n = n') && PyData.eqv (gD gs) (gD gs'))) H) ∨ ∃ (t : Addr) (xs : List V), v = .ref t ∧ SqT K H t xs ∧ Q (.bl false) H)
theorem can_pD : ∀ gs : List (Int × Int), PyData.canLayAll0 (gs.map pD) = true
  | [] => rfl
  | _ :: r => can_pD r
theorem deep_pD : ∀ gs : List (Int × Int), PyData.depthAll (gs.map pD) ≤ 1
  | [] => Nat.zero_le _
  | p :: r => Nat.max_le.mpr ⟨Nat.le_refl _, deep_pD r⟩
theorem shaped_gD (gs : List (Int × Int)) : SeqAt.shaped (gD gs) = true := by
  have h1 := can_pD gs
  have h2 := deep_pD gs
  unfold SeqAt.shaped
  rw [Bool.and_eq_true]
  exact ⟨h1, decide_eq_true (by show PyData.depthAll (gs.map pD) + 1 ≤ 64; omega)⟩
def rTupOf (K : PySem.W.Frag) : List V → Hp → VK → Prop := fun xs H Q => ∃ p ys, xs = [V.ref p] ∧ ((SqL K H p ys ∧ ∀ l, H l = none → Q (.ref l) (upd H l (.tup ys))) ∨ (SqT K H p ys ∧ Q (.ref p) H))
section
variable {P : Program} {w : World} {K : PySem.W.Frag} {mg : Str → Option Value} {base : Heap} {f C : Addr} {fd : FuncData}
theorem start_int (n : Int) : 2 * n + 1 = 2 * n + 1 + 2 * ((0 : Nat) : Int) := by omega
theorem start_eq (n : Int) (a : Addr) : ([some (.int n), some (.ref a), some (.int (2 * n + 1)), none] : List (Option V)) = [some (.int n), some (.ref a), some (.int (2 * n + 1 + 2 * ((0 : Nat) : Int))), none] := by
  rw [← start_int]
theorem scNeed : FnScope ["leaves"] ["leaves"] (defScope sNeed) := ⟨rfl, rfl, rfl, by decide +kernel, rfl, by decide +kernel, by decide +kernel⟩
theorem scGates : FnScope ["leaves", "value", "most", "pair"] ["leaves", "value"] (defScope sGates) := ⟨rfl, rfl, rfl, by decide +kernel, rfl, by decide +kernel, by decide +kernel⟩
abbrev sInit : Stmt := inClass cGraph 0
abbrev sEq : Stmt := inClass cGraph 1
abbrev inN : List Str := ["self", "leaves", "gates", "pair"]
theorem scInit : FnScope inN ["self", "leaves", "gates"] (defScope sInit) := ⟨rfl, rfl, rfl, by decide +kernel, rfl, by decide +kernel, by decide +kernel⟩
theorem scEq : FnScope ["self", "other"] ["self", "other"] (defScope sEq) := ⟨rfl, rfl, rfl, by decide +kernel, rfl, by decide +kernel, by decide +kernel⟩
abbrev FnI (K : PySem.W.Frag) (f : Addr) (fd : FuncData) : Prop := FunD K "__init__" "Graph.__init__" (defArgs sInit) (defBody sInit) (defScope sInit) [] [] f fd
abbrev FnE (K : PySem.W.Frag) (f : Addr) (fd : FuncData) : Prop := FunD K "__eq__" "Graph.__eq__" (defArgs sEq) (defBody sEq) (defScope sEq) [] [] f fd
theorem ok_need {fF : Addr} {fdF : FuncData} (F : FnP K "need_leaves" sNeed f fd) (T : Ki.Tx mg) (FF : FnP K "is_from" sFrom fF fdF) (gF : mg "is_from" = some (.ref fF)) : FnOk P w K mg base CX0 2 f fd ["leaves"] spNeed := by
  have GF : FnOk P w K mg base CX0 1 fF fdF ["value", "least"] (spFrom K) := ok_from FF T
  have bF : Binds K fdF ["value", "least"] [] := FF.bindsN fun _ _ _ _ _ _ us hl => match us, hl with | [_, _], _ => rfl
  refine F.ok scNeed (fun vs H Q E h => ?_) (fun cdv A outer s H vs Q E hr h => ?_)
  · obtain ⟨n, rfl, _⟩ := h
    rfl
  · obtain ⟨n, rfl, hn, q⟩ := h
    refine ⟨_, PSs.nox (pss_one (ps_if (pt_not (pt_val (pe_call GF hr (by rfl) gF FF.kp bF .nil pass0 (pa_cons (pv 0) (pa_cons pe_int pa_nil))))) (pss_one ps_never) pss_nil)), ?_⟩
    refine ⟨_, rfl, _, _, .int n, rfl, .int n, _, rfl, ?_⟩
    exact iteNS hn q
theorem ok_gates {fR fB : Addr} {fdR fdB : FuncData} (F : FnP K "are_gates" sGates f fd) (T : Ki.Tx mg) (FR : FnP K "is_row" sRow fR fdR) (gR : mg "is_row" = some (.ref fR)) (FB : FnP K "is_row_between" sRowB fB fdB) (gB : mg "is_row_between" = some (.ref fB))
    {fW : Addr} {fdW : FuncData} (FW : FnP K "is_between" sBetween fW fdW) (gW : mg "is_between" = some (.ref fW)) : FnOk P w K mg base CX0 3 f fd ["leaves", "value"] (spGates K) := by
  have GR : FnOk P w K mg base CX0 1 fR fdR ["value"] (spRow K) := ok_row FR T
  have GB : FnOk P w K mg base CX0 2 fB fdB ["value", "many", "least", "most"] (spRowB K) := ok_rowB FB T FW gW FR gR
  have bR : Binds K fdR ["value"] [] := FR.bindsN fun _ _ _ _ _ _ us hl => match us, hl with | [_], _ => rfl
  have bB : Binds K fdB ["value", "many", "least", "most"] [] := FB.bindsN fun _ _ _ _ _ _ us hl => match us, hl with | [_, _, _, _], _ => rfl
  refine F.ok scGates (fun vs H Q E h => ?_) (fun cdv A outer s H vs Q E hr h => ?_)
  · obtain ⟨n, v, d, rfl, _⟩ := h
    rfl
  · obtain ⟨n, v, d, rfl, hd, hz, hzz, q⟩ := h
    have hr1 := hr.mono (j := 1) (by decide)
    cases hd with
    | lst hs ha =>
      rename_i a vs ds
      have hlen := dps_len ha
      refine ⟨_, PSs.nox (pss_cons (ps_if (pt_not (pt_val (pe_call GR hr1 (by rfl) gR FR.kp bR .nil pass0 (pa_cons (pv 1) pa_nil)))) (pss_one (ps_ret pe_bl)) pss_nil)
        (pss_cons (ps_set (i := 2) scGates.nd rfl (Or.inl rfl) (pe_op op_add (pe_op op_mul pe_int (pv 0)) pe_int))
        (pss_cons (ps_for PassesOwn.never rfl (pi_list (pv 1)) (pg_name (i := 3) scGates.nd rfl (Or.inl rfl))
          (pss_cons (ps_if (pt_not (pt_val (pe_call GB hr (by rfl) gB FB.kp bB .nil pass0 (pa_cons (pv 3) (pa_cons pe_int (pa_cons pe_int (pa_cons (pv 2) pa_nil))))))) (pss_one (ps_ret pe_bl)) pss_nil)
          (pss_one (ps_aug (i := 2) scGates.nd rfl (Or.inl rfl) pe_int ip_add))))
        (pss_one (ps_ret pe_bl))))), ?_⟩
      refine ⟨_, rfl, _, _, rfl, .lst hs ha, fun H1 s1 => ⟨_, rfl, iteF ?_⟩⟩
      refine ⟨_, rfl, _, _, rfl, rfl, .inl ⟨by decide, by decide⟩, _, _, rfl, rfl, ?_⟩
      refine ⟨_, rfl, a, rfl, ⟨_, s1.seq hs⟩, for_list (K := K) (a := a) (xs := vs) (fun i σ H2 => ∃ v : Option V, σ = [some (.int n), some (.ref a), some (.int (2 * n + 1 + 2 * i)), v] ∧ Same H1 H2 ∧ goB (2 * n + 1) ds = goB (2 * n + 1 + 2 * i) (ds.drop i))
        ⟨none, start_eq n a, Same.refl _, by rw [List.drop_zero]; exact congrArg (fun z => goB z ds) (start_int n)⟩ (fun i σ H2 _ ⟨_, _, s2, _⟩ => s2.seq (s1.seq hs)) ?_ ?_⟩
      · rintro i v σ H2 hi ⟨w0, rfl, s2, e2⟩
        obtain ⟨e, he, hv⟩ := dps_get ha hi
        have hm : e ∈ ds := List.mem_of_getElem? he
        have hdrop : ds.drop i = e :: ds.drop (i + 1) := by
          obtain ⟨hlt, e5⟩ := List.getElem?_eq_some_iff.mp he
          rw [← e5]
          exact List.drop_eq_getElem_cons hlt
        rw [hdrop] at e2
        refine ⟨_, rfl, _, rfl, _, _, _, _, e, rfl, dp_same (s1.trans s2) hv, hzz e hm, fun H3 s3 => ⟨_, rfl, ?_⟩⟩
        cases er : rowB e 2 0 (2 * n + 1 + 2 * i) with
        | false =>
          refine iteT ?_
          have e4 : gatesB n (.list ds) = false := by
            show (true && goB (2 * n + 1) ds) = false
            rw [e2]
            show (rowB e 2 0 (2 * n + 1 + 2 * i) && goB _ _) = false
            rw [er]
            rfl
          show Q (V.bl false) H3
          rw [← e4]
          exact q _ ((s1.trans s2).trans s3)
        | true =>
          refine iteF ?_
          refine ⟨_, rfl, _, _, rfl, rfl, some v, ?_, s2.trans s3, ?_⟩
          · show _ = _
            have e5 : 2 * n + 1 + 2 * (i : Int) + 2 = 2 * n + 1 + 2 * ((i + 1 : Nat) : Int) := by omega
            rw [← e5]
            rfl
          · rw [e2]
            show (rowB e 2 0 (2 * n + 1 + 2 * i) && goB _ _) = _
            rw [er]
            have e5 : 2 * n + 1 + 2 * (i : Int) + 2 = 2 * n + 1 + 2 * ((i + 1 : Nat) : Int) := by omega
            rw [← e5]
            rfl
      · rintro σ H2 ⟨w0, rfl, s2, e2⟩
        rw [hlen, List.drop_length] at e2
        have e4 : gatesB n (.list ds) = true := by
          show (true && goB (2 * n + 1) ds) = true
          rw [e2]
          rfl
        show Q (V.bl true) H2
        rw [← e4]
        exact q _ (s1.trans s2)
    | tup hs ha =>
      rename_i a vs ds
      have hlen := dps_len ha
      refine ⟨_, PSs.nox (pss_cons (ps_if (pt_not (pt_val (pe_call GR hr1 (by rfl) gR FR.kp bR .nil pass0 (pa_cons (pv 1) pa_nil)))) (pss_one (ps_ret pe_bl)) pss_nil)
        (pss_cons (ps_set (i := 2) scGates.nd rfl (Or.inl rfl) (pe_op op_add (pe_op op_mul pe_int (pv 0)) pe_int))
        (pss_cons (ps_for PassesOwn.never rfl (pi_tup (pv 1)) (pg_name (i := 3) scGates.nd rfl (Or.inl rfl))
          (pss_cons (ps_if (pt_not (pt_val (pe_call GB hr (by rfl) gB FB.kp bB .nil pass0 (pa_cons (pv 3) (pa_cons pe_int (pa_cons pe_int (pa_cons (pv 2) pa_nil))))))) (pss_one (ps_ret pe_bl)) pss_nil)
          (pss_one (ps_aug (i := 2) scGates.nd rfl (Or.inl rfl) pe_int ip_add))))
        (pss_one (ps_ret pe_bl))))), ?_⟩
      refine ⟨_, rfl, _, _, rfl, .tup hs ha, fun H1 s1 => ⟨_, rfl, iteF ?_⟩⟩
      refine ⟨_, rfl, _, _, rfl, rfl, .inl ⟨by decide, by decide⟩, _, _, rfl, rfl, ?_⟩
      refine ⟨_, rfl, a, rfl, ⟨_, seqT_same s1 hs⟩, for_tup (K := K) (a := a) (xs := vs) (fun i σ H2 => ∃ v : Option V, σ = [some (.int n), some (.ref a), some (.int (2 * n + 1 + 2 * i)), v] ∧ Same H1 H2 ∧ goB (2 * n + 1) ds = goB (2 * n + 1 + 2 * i) (ds.drop i))
        ⟨none, start_eq n a, Same.refl _, by rw [List.drop_zero]; exact congrArg (fun z => goB z ds) (start_int n)⟩ (fun i σ H2 _ ⟨_, _, s2, _⟩ => seqT_same s2 (seqT_same s1 hs)) ?_ ?_⟩
      · rintro i v σ H2 hi ⟨w0, rfl, s2, e2⟩
        obtain ⟨e, he, hv⟩ := dps_get ha hi
        have hm : e ∈ ds := List.mem_of_getElem? he
        have hdrop : ds.drop i = e :: ds.drop (i + 1) := by
          obtain ⟨hlt, e5⟩ := List.getElem?_eq_some_iff.mp he
          rw [← e5]
          exact List.drop_eq_getElem_cons hlt
        rw [hdrop] at e2
        refine ⟨_, rfl, _, rfl, _, _, _, _, e, rfl, dp_same (s1.trans s2) hv, hzz e hm, fun H3 s3 => ⟨_, rfl, ?_⟩⟩
        cases er : rowB e 2 0 (2 * n + 1 + 2 * i) with
        | false =>
          refine iteT ?_
          have e4 : gatesB n (.tuple ds) = false := by
            show (true && goB (2 * n + 1) ds) = false
            rw [e2]
            show (rowB e 2 0 (2 * n + 1 + 2 * i) && goB _ _) = false
            rw [er]
            rfl
          show Q (V.bl false) H3
          rw [← e4]
          exact q _ ((s1.trans s2).trans s3)
        | true =>
          refine iteF ?_
          refine ⟨_, rfl, _, _, rfl, rfl, some v, ?_, s2.trans s3, ?_⟩
          · show _ = _
            have e5 : 2 * n + 1 + 2 * (i : Int) + 2 = 2 * n + 1 + 2 * ((i + 1 : Nat) : Int) := by omega
            rw [← e5]
            rfl
          · rw [e2]
            show (rowB e 2 0 (2 * n + 1 + 2 * i) && goB _ _) = _
            rw [er]
            have e5 : 2 * n + 1 + 2 * (i : Int) + 2 = 2 * n + 1 + 2 * ((i + 1 : Nat) : Int) := by omega
            rw [← e5]
            rfl
      · rintro σ H2 ⟨w0, rfl, s2, e2⟩
        rw [hlen, List.drop_length] at e2
        have e4 : gatesB n (.tuple ds) = true := by
          show (true && goB (2 * n + 1) ds) = true
          rw [e2]
          rfl
        show Q (V.bl true) H2
        rw [← e4]
        exact q _ (s1.trans s2)
    | non =>
      refine ⟨_, PSs.nox (pss_cons (ps_if (pt_not (pt_val (pe_call GR hr1 (by rfl) gR FR.kp bR .nil pass0 (pa_cons (pv 1) pa_nil)))) (pss_one (ps_ret pe_bl)) pss_nil)
        (pss_cons (ps_set (i := 2) scGates.nd rfl (Or.inl rfl) (pe_op op_add (pe_op op_mul pe_int (pv 0)) pe_int))
        (pss_cons (ps_for PassesOwn.never rfl (pi_list (pv 1)) (pg_name (i := 3) scGates.nd rfl (Or.inl rfl))
          (pss_cons (ps_if (pt_not (pt_val (pe_call GB hr (by rfl) gB FB.kp bB .nil pass0 (pa_cons (pv 3) (pa_cons pe_int (pa_cons pe_int (pa_cons (pv 2) pa_nil))))))) (pss_one (ps_ret pe_bl)) pss_nil)
          (pss_one (ps_aug (i := 2) scGates.nd rfl (Or.inl rfl) pe_int ip_add))))
        (pss_one (ps_ret pe_bl))))), ?_⟩
      exact ⟨_, rfl, _, _, rfl, .non, fun H1 s1 => ⟨_, rfl, iteT (q _ s1)⟩⟩
    | bl b =>
      refine ⟨_, PSs.nox (pss_cons (ps_if (pt_not (pt_val (pe_call GR hr1 (by rfl) gR FR.kp bR .nil pass0 (pa_cons (pv 1) pa_nil)))) (pss_one (ps_ret pe_bl)) pss_nil)
        (pss_cons (ps_set (i := 2) scGates.nd rfl (Or.inl rfl) (pe_op op_add (pe_op op_mul pe_int (pv 0)) pe_int))
        (pss_cons (ps_for PassesOwn.never rfl (pi_list (pv 1)) (pg_name (i := 3) scGates.nd rfl (Or.inl rfl))
          (pss_cons (ps_if (pt_not (pt_val (pe_call GB hr (by rfl) gB FB.kp bB .nil pass0 (pa_cons (pv 3) (pa_cons pe_int (pa_cons pe_int (pa_cons (pv 2) pa_nil))))))) (pss_one (ps_ret pe_bl)) pss_nil)
          (pss_one (ps_aug (i := 2) scGates.nd rfl (Or.inl rfl) pe_int ip_add))))
        (pss_one (ps_ret pe_bl))))), ?_⟩
      exact ⟨_, rfl, _, _, rfl, .bl b, fun H1 s1 => ⟨_, rfl, iteT (q _ s1)⟩⟩
    | int i =>
      refine ⟨_, PSs.nox (pss_cons (ps_if (pt_not (pt_val (pe_call GR hr1 (by rfl) gR FR.kp bR .nil pass0 (pa_cons (pv 1) pa_nil)))) (pss_one (ps_ret pe_bl)) pss_nil)
        (pss_cons (ps_set (i := 2) scGates.nd rfl (Or.inl rfl) (pe_op op_add (pe_op op_mul pe_int (pv 0)) pe_int))
        (pss_cons (ps_for PassesOwn.never rfl (pi_list (pv 1)) (pg_name (i := 3) scGates.nd rfl (Or.inl rfl))
          (pss_cons (ps_if (pt_not (pt_val (pe_call GB hr (by rfl) gB FB.kp bB .nil pass0 (pa_cons (pv 3) (pa_cons pe_int (pa_cons pe_int (pa_cons (pv 2) pa_nil))))))) (pss_one (ps_ret pe_bl)) pss_nil)
          (pss_one (ps_aug (i := 2) scGates.nd rfl (Or.inl rfl) pe_int ip_add))))
        (pss_one (ps_ret pe_bl))))), ?_⟩
      exact ⟨_, rfl, _, _, rfl, .int i, fun H1 s1 => ⟨_, rfl, iteT (q _ s1)⟩⟩
    | str x =>
      refine ⟨_, PSs.nox (pss_cons (ps_if (pt_not (pt_val (pe_call GR hr1 (by rfl) gR FR.kp bR .nil pass0 (pa_cons (pv 1) pa_nil)))) (pss_one (ps_ret pe_bl)) pss_nil)
        (pss_cons (ps_set (i := 2) scGates.nd rfl (Or.inl rfl) (pe_op op_add (pe_op op_mul pe_int (pv 0)) pe_int))
        (pss_cons (ps_for PassesOwn.never rfl (pi_list (pv 1)) (pg_name (i := 3) scGates.nd rfl (Or.inl rfl))
          (pss_cons (ps_if (pt_not (pt_val (pe_call GB hr (by rfl) gB FB.kp bB .nil pass0 (pa_cons (pv 3) (pa_cons pe_int (pa_cons pe_int (pa_cons (pv 2) pa_nil))))))) (pss_one (ps_ret pe_bl)) pss_nil)
          (pss_one (ps_aug (i := 2) scGates.nd rfl (Or.inl rfl) pe_int ip_add))))
        (pss_one (ps_ret pe_bl))))), ?_⟩
      exact ⟨_, rfl, _, _, rfl, .str x, fun H1 s1 => ⟨_, rfl, iteT (q _ s1)⟩⟩
theorem ok_init {fN fA : Addr} {fdN fdA : FuncData} (F : FnI K f fd) (T : Tx K mg C) (GN : FnOk P w K mg base CX0 2 fN fdN ["leaves"] spNeed) (gN : mg "need_leaves" = some (.ref fN)) (kN : PySem.W.keepIn K (.ref fN) = true) (bN : Binds K fdN ["leaves"] [])
    (GA : FnOk P w K mg base CX0 3 fA fdA ["leaves", "value"] (spGates K)) (gA : mg "are_gates" = some (.ref fA)) (kA : PySem.W.keepIn K (.ref fA) = true) (bA : Binds K fdA ["leaves", "value"] []) : FnOk P w K mg base CX0 4 f fd ["self", "leaves", "gates"] (spInit K C) := by
  refine F.ok scInit (fun vs H Q E h => ?_) (fun cdv A outer s H vs Q E hr h => ?_)
  · obtain ⟨p, dx, n, v, gs, rfl, _⟩ := h
    rfl
  · obtain ⟨p, dx, n, v, gs, rfl, hp, hn, hv, hz, hok, q⟩ := h
    have hr2 := hr.mono (j := 2) (by decide)
    obtain ⟨d, d1, d2, d3, d4⟩ := row_dp hv
    obtain ⟨r, vs, rfl, hs, ha⟩ := id hv
    rcases hs with hs | hs
    · refine ⟨_, PSs.nox (pss_cons (ps_expr (pe_call GN hr2 (by rfl) gN kN bN .nil pass0 (pa_cons (pv 1) pa_nil)))
        (pss_cons (ps_if (pt_not (pt_val (pe_call GA hr (by rfl) gA kA bA .nil pass0 (pa_cons (pv 1) (pa_cons (pv 2) pa_nil))))) (pss_one ps_never) pss_nil)
        (pss_cons (ps_fld (pv 0) (pv 1) rfl)
        (pss_one (ps_fld (pv 0) (pe_callTy call_tuple_of (by rfl) T.ki.tuple (by decide +kernel) (pa_cons
          (pe_lc (own := [("pair", 3)]) (g := gName 3) (tt := tYes) rfl scInit.nd (pi_list (pv 2)) (blkOk_by (N := inN) (sc := defScope sInit) (by decide +kernel)) (fun _ _ _ _ _ => pg_name (i := 3) scInit.nd rfl (Or.inl rfl)) (fun _ _ _ _ _ => pts_nil)
            (fun _ _ _ _ _ => pe_callTy (T := "tuple") (r := rTupOf K) (by exact call_tuple_of) (by rfl) T.ki.tuple (by decide +kernel) (pa_cons (pv 3) pa_nil))) pa_nil)) rfl))))), ?_⟩
      refine ⟨_, rfl, n, rfl, hn, ?_⟩
      refine ⟨_, rfl, _, rfl, n, _, d, rfl, d1, by omega, d3, fun H1 s1 => ⟨_, rfl, ?_⟩⟩
      rw [d4, hok]
      refine iteF ?_
      have hp1 := s1 _ _ hp
      refine ⟨_, rfl, _, rfl, p, C, dx, _, rfl, hp1, T.cl, T.nL, (by show 0 < 1000; decide), ?_⟩
      have hrp : ∀ {b : Addr} {u : HO}, H b = some u → (∀ C dx fs, u ≠ .ins C dx fs) → (upd H1 p (.ins C dx (putF "leaves" (.int n) []))) b = some u := fun {b u} e ne => by
        rw [upd_ne (fun z => by rw [z, hp] at e; cases e; exact ne _ _ _ rfl)]
        exact s1 _ _ e
      have hs3 : SqL K (upd H1 p (.ins C dx (putF "leaves" (.int n) []))) r vs := by
        rcases hs with (h | ⟨o, h⟩) | h
        · exact .inl (.inl (hrp h (by intro C dx fs z; cases z)))
        · exact .inl (.inr ⟨o, hrp h (by intro C dx fs z; cases z)⟩)
        · exact .inr h
      have pr3 : ∀ {v : V} {z : Int × Int}, Pr K H v z → Pr K (upd H1 p (.ins C dx (putF "leaves" (.int n) []))) v z := by
        rintro v z ⟨q, e, h⟩
        refine ⟨q, e, ?_⟩
        rcases h with ((h | ⟨o, h⟩) | h) | ((h | ⟨o, h⟩) | h)
        · exact .inl (.inl (.inl (hrp h (by intro C dx fs z; cases z))))
        · exact .inl (.inl (.inr ⟨o, hrp h (by intro C dx fs z; cases z)⟩))
        · exact .inl (.inr h)
        · exact .inr (.inl (.inl (hrp h (by intro C dx fs z; cases z))))
        · exact .inr (.inl (.inr ⟨o, hrp h (by intro C dx fs z; cases z)⟩))
        · exact .inr (.inr h)
      have hp3 : (upd H1 p (.ins C dx (putF "leaves" (.int n) []))) p = some (.ins C dx (putF "leaves" (.int n) [])) := upd_same
      have out3 : ∀ b o, H b = some o → b ≠ p → (upd H1 p (.ins C dx (putF "leaves" (.int n) []))) b = some o := fun b o e ne => by
        rw [upd_ne ne]
        exact s1 _ _ e
      generalize (upd H1 p (.ins C dx (putF "leaves" (.int n) []))) = H3 at hs3 pr3 hp3 out3 ⊢
      refine ⟨_, rfl, r, rfl, ⟨_, hs3⟩, fun D nD => ?_⟩
      refine lc_list (K := K) (a := r) (xs := vs) (fun i H4 => Same H3 H4 ∧ ∃ ys, H4 D = some (.lst ys) ∧ All2 (Pt K H4) ys (gs.take i)) ⟨same_new nD, [], upd_same, .nil⟩ (fun i H4 _ ⟨s4, _⟩ => s4.seq hs3) ?_ ?_
      · rintro i v H4 hi ⟨s4, ys, h4, a4⟩
        obtain ⟨z, hz1, hz2⟩ := ha.get hi
        obtain ⟨q0, rfl, hq⟩ := (pr3 hz2).same s4
        have lys : ys.length < sizeLine := by
          rw [a4.len, List.length_take]
          exact Nat.lt_of_le_of_lt (Nat.min_le_right _ _) (Nat.lt_of_le_of_lt hz (by decide))
        have keep : ∀ {H5 : Hp} {zs : List V}, Same H4 H5 → Same H3 (upd H5 D (.lst zs)) := fun {H5 zs} s5 b o e => by
          rw [upd_ne (ne_of_none e nD)]
          exact s5 _ _ (s4 _ _ e)
        refine ⟨rfl, yes_of ?_⟩
        rcases hq with hq | hq
        · refine ⟨_, rfl, q0, _, rfl, .inl ⟨hq, fun l nl => ?_⟩⟩
          have s5 : Same H4 (upd H4 l (.tup [.int z.1, .int z.2])) := same_new nl
          refine ⟨_, s5 _ _ h4, lys, keep s5, _, upd_same, ?_⟩
          rw [take_more hz1]
          have fi : Firm (upd H4 l (.tup [.int z.1, .int z.2])) (upd (upd H4 l (.tup [.int z.1, .int z.2])) D (.lst (ys ++ [.ref l]))) := Firm.upd (s5 _ _ h4) rfl
          exact (a4.imp fun _ _ h => (h.firm (Firm.of s5)).firm fi).snoc ⟨l, rfl, firm_seq fi (SqT.of upd_same)⟩
        · refine ⟨_, rfl, q0, _, rfl, .inr ⟨hq, ?_⟩⟩
          refine ⟨_, h4, lys, keep (Same.refl _), _, upd_same, ?_⟩
          rw [take_more hz1]
          have fi : Firm H4 (upd H4 D (.lst (ys ++ [.ref q0]))) := Firm.upd h4 rfl
          exact (a4.imp fun _ _ h => h.firm fi).snoc ⟨q0, rfl, firm_seq fi hq⟩
      · rintro H4 ⟨s4, ys, h4, a4⟩
        rw [ha.len, List.take_length] at a4
        refine ⟨D, ys, rfl, .inl ⟨SqL.of h4, fun g ng => ?_⟩⟩
        have hp4 := s4 _ _ hp3
        have s5 : Same H4 (upd H4 g (.tup ys)) := same_new ng
        refine ⟨_, rfl, p, C, dx, _, rfl, s5 _ _ hp4, T.cl, T.nG, (by show 1 < 1000; decide), ?_⟩
        refine q _ (fun b o e ne => ?_) ⟨dx, g, upd_same, ys, ?_, ?_⟩
        · rw [upd_ne ne]
          exact s5 _ _ (s4 _ _ (out3 b o e ne))
        · have ngp : g ≠ p := fun e => by
            rw [e, hp4] at ng
            cases ng
          exact SqT.of (by rw [upd_ne ngp, upd_same])
        · refine a4.imp fun _ _ h => ?_
          obtain ⟨q1, e1, h1⟩ := h.firm (Firm.of s5)
          refine ⟨q1, e1, ?_⟩
          rcases h1 with (h | ⟨o, h⟩) | h
          · exact .inl (.inl (by rw [upd_ne (fun e => by rw [e, s5 _ _ hp4] at h; cases h)]; exact h))
          · exact .inl (.inr ⟨o, by rw [upd_ne (fun e => by rw [e, s5 _ _ hp4] at h; cases h)]; exact h⟩)
          · exact .inr h
    · refine ⟨_, PSs.nox (pss_cons (ps_expr (pe_call GN hr2 (by rfl) gN kN bN .nil pass0 (pa_cons (pv 1) pa_nil)))
        (pss_cons (ps_if (pt_not (pt_val (pe_call GA hr (by rfl) gA kA bA .nil pass0 (pa_cons (pv 1) (pa_cons (pv 2) pa_nil))))) (pss_one ps_never) pss_nil)
        (pss_cons (ps_fld (pv 0) (pv 1) rfl)
        (pss_one (ps_fld (pv 0) (pe_callTy call_tuple_of (by rfl) T.ki.tuple (by decide +kernel) (pa_cons
          (pe_lc (own := [("pair", 3)]) (g := gName 3) (tt := tYes) rfl scInit.nd (pi_tup (pv 2)) (blkOk_by (N := inN) (sc := defScope sInit) (by decide +kernel)) (fun _ _ _ _ _ => pg_name (i := 3) scInit.nd rfl (Or.inl rfl)) (fun _ _ _ _ _ => pts_nil)
            (fun _ _ _ _ _ => pe_callTy (T := "tuple") (r := rTupOf K) (by exact call_tuple_of) (by rfl) T.ki.tuple (by decide +kernel) (pa_cons (pv 3) pa_nil))) pa_nil)) rfl))))), ?_⟩
      refine ⟨_, rfl, n, rfl, hn, ?_⟩
      refine ⟨_, rfl, _, rfl, n, _, d, rfl, d1, by omega, d3, fun H1 s1 => ⟨_, rfl, ?_⟩⟩
      rw [d4, hok]
      refine iteF ?_
      have hp1 := s1 _ _ hp
      refine ⟨_, rfl, _, rfl, p, C, dx, _, rfl, hp1, T.cl, T.nL, (by show 0 < 1000; decide), ?_⟩
      have hrp : ∀ {b : Addr} {u : HO}, H b = some u → (∀ C dx fs, u ≠ .ins C dx fs) → (upd H1 p (.ins C dx (putF "leaves" (.int n) []))) b = some u := fun {b u} e ne => by
        rw [upd_ne (fun z => by rw [z, hp] at e; cases e; exact ne _ _ _ rfl)]
        exact s1 _ _ e
      have hs3 : SqT K (upd H1 p (.ins C dx (putF "leaves" (.int n) []))) r vs := by
        rcases hs with (h | ⟨o, h⟩) | h
        · exact .inl (.inl (hrp h (by intro C dx fs z; cases z)))
        · exact .inl (.inr ⟨o, hrp h (by intro C dx fs z; cases z)⟩)
        · exact .inr h
      have pr3 : ∀ {v : V} {z : Int × Int}, Pr K H v z → Pr K (upd H1 p (.ins C dx (putF "leaves" (.int n) []))) v z := by
        rintro v z ⟨q, e, h⟩
        refine ⟨q, e, ?_⟩
        rcases h with ((h | ⟨o, h⟩) | h) | ((h | ⟨o, h⟩) | h)
        · exact .inl (.inl (.inl (hrp h (by intro C dx fs z; cases z))))
        · exact .inl (.inl (.inr ⟨o, hrp h (by intro C dx fs z; cases z)⟩))
        · exact .inl (.inr h)
        · exact .inr (.inl (.inl (hrp h (by intro C dx fs z; cases z))))
        · exact .inr (.inl (.inr ⟨o, hrp h (by intro C dx fs z; cases z)⟩))
        · exact .inr (.inr h)
      have hp3 : (upd H1 p (.ins C dx (putF "leaves" (.int n) []))) p = some (.ins C dx (putF "leaves" (.int n) [])) := upd_same
      have out3 : ∀ b o, H b = some o → b ≠ p → (upd H1 p (.ins C dx (putF "leaves" (.int n) []))) b = some o := fun b o e ne => by
        rw [upd_ne ne]
        exact s1 _ _ e
      generalize (upd H1 p (.ins C dx (putF "leaves" (.int n) []))) = H3 at hs3 pr3 hp3 out3 ⊢
      refine ⟨_, rfl, r, rfl, ⟨_, hs3⟩, fun D nD => ?_⟩
      refine lc_tup (K := K) (a := r) (xs := vs) (fun i H4 => Same H3 H4 ∧ ∃ ys, H4 D = some (.lst ys) ∧ All2 (Pt K H4) ys (gs.take i)) ⟨same_new nD, [], upd_same, .nil⟩ (fun i H4 _ ⟨s4, _⟩ => seqT_same s4 hs3) ?_ ?_
      · rintro i v H4 hi ⟨s4, ys, h4, a4⟩
        obtain ⟨z, hz1, hz2⟩ := ha.get hi
        obtain ⟨q0, rfl, hq⟩ := (pr3 hz2).same s4
        have lys : ys.length < sizeLine := by
          rw [a4.len, List.length_take]
          exact Nat.lt_of_le_of_lt (Nat.min_le_right _ _) (Nat.lt_of_le_of_lt hz (by decide))
        have keep : ∀ {H5 : Hp} {zs : List V}, Same H4 H5 → Same H3 (upd H5 D (.lst zs)) := fun {H5 zs} s5 b o e => by
          rw [upd_ne (ne_of_none e nD)]
          exact s5 _ _ (s4 _ _ e)
        refine ⟨rfl, yes_of ?_⟩
        rcases hq with hq | hq
        · refine ⟨_, rfl, q0, _, rfl, .inl ⟨hq, fun l nl => ?_⟩⟩
          have s5 : Same H4 (upd H4 l (.tup [.int z.1, .int z.2])) := same_new nl
          refine ⟨_, s5 _ _ h4, lys, keep s5, _, upd_same, ?_⟩
          rw [take_more hz1]
          have fi : Firm (upd H4 l (.tup [.int z.1, .int z.2])) (upd (upd H4 l (.tup [.int z.1, .int z.2])) D (.lst (ys ++ [.ref l]))) := Firm.upd (s5 _ _ h4) rfl
          exact (a4.imp fun _ _ h => (h.firm (Firm.of s5)).firm fi).snoc ⟨l, rfl, firm_seq fi (SqT.of upd_same)⟩
        · refine ⟨_, rfl, q0, _, rfl, .inr ⟨hq, ?_⟩⟩
          refine ⟨_, h4, lys, keep (Same.refl _), _, upd_same, ?_⟩
          rw [take_more hz1]
          have fi : Firm H4 (upd H4 D (.lst (ys ++ [.ref q0]))) := Firm.upd h4 rfl
          exact (a4.imp fun _ _ h => h.firm fi).snoc ⟨q0, rfl, firm_seq fi hq⟩
      · rintro H4 ⟨s4, ys, h4, a4⟩
        rw [ha.len, List.take_length] at a4
        refine ⟨D, ys, rfl, .inl ⟨SqL.of h4, fun g ng => ?_⟩⟩
        have hp4 := s4 _ _ hp3
        have s5 : Same H4 (upd H4 g (.tup ys)) := same_new ng
        refine ⟨_, rfl, p, C, dx, _, rfl, s5 _ _ hp4, T.cl, T.nG, (by show 1 < 1000; decide), ?_⟩
        refine q _ (fun b o e ne => ?_) ⟨dx, g, upd_same, ys, ?_, ?_⟩
        · rw [upd_ne ne]
          exact s5 _ _ (s4 _ _ (out3 b o e ne))
        · have ngp : g ≠ p := fun e => by
            rw [e, hp4] at ng
            cases ng
          exact SqT.of (by rw [upd_ne ngp, upd_same])
        · refine a4.imp fun _ _ h => ?_
          obtain ⟨q1, e1, h1⟩ := h.firm (Firm.of s5)
          refine ⟨q1, e1, ?_⟩
          rcases h1 with (h | ⟨o, h⟩) | h
          · exact .inl (.inl (by rw [upd_ne (fun e => by rw [e, s5 _ _ hp4] at h; cases h)]; exact h))
          · exact .inl (.inr ⟨o, by rw [upd_ne (fun e => by rw [e, s5 _ _ hp4] at h; cases h)]; exact h⟩)
          · exact .inr h
theorem ok_eq (F : FnE K f fd) (T : Tx K mg C) : FnOk P w K mg base CX0 1 f fd ["self", "other"] (spEqG K C) := by
  refine F.ok scEq (fun vs H Q E h => ?_) (fun cdv A outer s H vs Q E hr h => ?_)
  · obtain ⟨p, v, n, gs, rfl, _⟩ := h
    rfl
  · obtain ⟨p, v, n, gs, rfl, hp, q⟩ := h
    obtain ⟨dx, g, h1, h2⟩ := hp
    refine ⟨_, PSs.nox (pss_one (ps_ret (pe_and (pe_callB call_isi (by rfl) T.ki.isi (by decide +kernel) (pa_cons (pv 1) (pa_cons (pe_glob (v := V.ref C) (by rfl) T.mgC rfl) pa_nil)))
      (pe_and (pe_cmpR op_eq (pe_fld (pv 0) rfl) (pe_fld (pv 1) rfl) (nomark _)) (pe_one (pe_cmpR (op_eqD hr.units) (pe_fld (pv 0) rfl) (pe_fld (pv 1) rfl) (nomark _))))))), ?_⟩
    rcases q with ⟨q, n', gs', rfl, hq, k⟩ | ⟨t, xs, rfl, ht, k⟩
    · obtain ⟨dy, g', e1, e2⟩ := hq
      refine ⟨_, rfl, _, _, _, _, _, rfl, .own _, .base (T.met e1), T.own, _, rfl, iteT ?_⟩
      refine ⟨_, rfl, p, C, dx, _, _, rfl, h1, T.cl, T.nL, flds_L _ _, _, rfl, q, C, dy, _, _, rfl, e1, T.cl, T.nL, flds_L _ _, rfl, _, rfl, ite2 (fun c => ?_) (fun c => ?_)⟩
      · refine ⟨_, rfl, p, C, dx, _, _, rfl, h1, T.cl, T.nG, flds_G _ _, _, rfl, q, C, dy, _, _, rfl, e1, T.cl, T.nG, flds_G _ _, _, _, h2.dp, e2.dp, ?_, ?_, ?_⟩
        · exact shaped_gD gs
        · exact shaped_gD gs'
        · have e : n = n' := V.int.inj (of_decide_eq_true c)
          rw [decide_eq_true e] at k
          exact k
      · have e : ¬ n = n' := fun z => c (decide_eq_true (congrArg V.int z))
        rw [decide_eq_false e] at k
        exact k
    · exact ⟨_, rfl, _, _, _, _, _, rfl, .own _, ty_tup ht, T.tup, _, rfl, iteF k⟩
end
end Gr
namespace Wy
open PySem PySem.Spec PyProof.Rows L2
/-! ## try: body, except x as n: suite, except y as n: suite, .. -/
abbrev TA1 := Addr → Value → Option Addr → TS
/-- the ends of a suite whose name, slot i, goes -/
def gone (i : Nat) (D : Ends) : Ends := ⟨fun σ2 H2 => D.nx (σ2.set i none) H2, D.rt, fun σ2 H2 => D.bk (σ2.set i none) H2, fun σ2 H2 => D.ct (σ2.set i none) H2⟩
/-- what the clauses wish of an exception; slot i is the name's -/
def wAll (K : PySem.W.Frag) (i : Nat) (Wo : WX) (D : Ends) : List (Value × TA1) → WX
  | [] => Wo
  | q :: r => fun cls d σ H => ∃ b, PySem.W.exmOne K cls q.1 = some b ∧ (b = true → ∀ a, H a = none → q.2 a cls d (gone i D) (σ.set i (some (.ref a))) H) ∧ (b = false → wAll K i Wo D r cls d σ H)
inductive Hds (X : Cx) (n : Str) : List ExceptHandler → List (Value × TA1) → Prop
  | nil : Hds X n [] []
  | cons {x : Str} {c : Value} {ts : TA1} {b0 : Stmt} {su : List Stmt} {p1 p2 : Pos} {hs : List ExceptHandler} {l : List (Value × TA1)} (names : Names X x c)
      (walk : ∀ (a : Addr) (oe : Obj) (cls : Value) (d : Option Addr) (pn : List (Addr × Obj)), Zc cls d oe → (∃ vs, oe.data = .fields vs) → PSs (X.suite a ((a, oe) :: pn)) (b0 :: su) (ts a cls d))
      (rest : Hds X n hs l) : Hds X n (.ExceptHandler (some (.Name x p1)) (some n) (b0 :: su) p2 :: hs) ((c, ts) :: l)
section
variable {X : Cx} {n : Str} {i : Nat} {body : List Stmt} {h0 : ExceptHandler} {hs : List ExceptHandler} {l : List (Value × TA1)} {pos : Pos} {tb : WX → TS} {Wo : WX}
theorem ps_try_all (stk : X.stack = X.env :: X.outer) (fr : X.env.frame = some X.env.locals) (nd : X.N.Nodup) (at_ : X.N[i]? = some n) (isL : X.env.kindOf n = some .local) (tk : Takes X Wo)
    (wb : ∀ (W : WX) (pn : List (Addr × Obj)) (xe : Value → Shared → Prop), Takes (X.tr pn xe) W → PassesOwn (model X.prog X.w) X.A X.env xe → PSs (X.tr pn xe) body (tb W)) (wh : Hds X n (h0 :: hs) l) :
    PS X (.Try body (h0 :: hs) [] [] pos) fun D σ H => tb (fun cls d σ1 H1 => σ1.length = X.N.length → wAll X.K i Wo D l cls d σ1 H1) D σ H := by
  refine ⟨fun pins s σ H D I prom => ?_⟩
  have ok := I.ok
  have frames : X.A.frames = some (X.env :: X.outer) := by rw [ok.frames, stk]
  refine wpAny_Try_except (wpAny_mono ((wb (fun cls d σ1 H1 => σ1.length = X.N.length → wAll X.K i Wo D l cls d σ1 H1) (X.pn ++ pins) (fun e s1 => wpAny (model X.prog X.w) X.A (noteFrame e X.env) (fun _ s2 => wpAny (model X.prog X.w) X.A (setFlight e none) (fun _ s3 =>
    wpAny (model X.prog X.w) X.A (handleBy e X.env (h0 :: hs)) (SP X pins D) X.xe s3) X.xe s2) X.xe s1) ?_ PassesOwn.looking).run [] s σ H D (I.toTry _) prom) ?_ fun _ _ z => z)
  · rintro u s1 ⟨a, B, s0, pins', σ1, H1, cls, d, rfl, J0, nb, up, sky, na, os, ag, w⟩
    have J : Inv X pins σ1 H1 s0 := J0.ofTry ok
    rw [show (X.tr (X.pn ++ pins) _).stack = X.env :: X.outer from stk] at sky
    show wpAny (model X.prog X.w) X.A (noteFrame (.ref a) X.env) _ _ _
    refine Sky.land Zc.steady frames fr sky fun h1 fl1 up1 => ?_
    have J1 : Inv X pins σ1 H1 { s1 with heap := h1 } := J.landed nb fl1.1 (up.trans up1) os ag
    obtain ⟨o1, f1, e1, z1, d1⟩ := fl1.there
    have nfr : a ∉ frs (X.env :: X.outer) := fun m => by
      obtain ⟨_, o2, e2, no⟩ := fl1.2.2.1.mem m
      rw [e1] at e2
      cases e2
      exact no _ d1
    have nL : a ≠ X.env.locals := fun z => nfr (List.mem_filterMap.mpr ⟨X.env, List.mem_cons_self, by rw [fr, z]⟩)
    have nF : a ∉ X.fs := fun m => by
      obtain ⟨e, he, q⟩ := List.mem_filterMap.mp m
      exact nfr (List.mem_filterMap.mpr ⟨e, List.mem_cons_of_mem _ he, q⟩)
    have S1 := J1.suite e1 d1 na nL nF
    suffices go : ∀ {hs' : List ExceptHandler} {l' : List (Value × TA1)}, Hds X n hs' l' → wAll X.K i Wo D l' cls d σ1 H1 → wpAny (model X.prog X.w) X.A (handleBy (.ref a) X.env hs') (SP X pins D) X.xe { s1 with heap := h1 } from go wh (w J.len)
    intro hs' l' k
    induction k with
    | nil =>
      intro w
      refine wpAny_handleBy_nil ?_
      obtain ⟨_, _, _, o3, f3, T, _, _, e3, _, d3, g3, _⟩ := id fl1
      unfold PySem.passOn
      refine wpAny_bind (wpAny_field e3 d3 g3 ?_)
      rw [if_neg (by simp : ¬ ((Value.ref T == Value.none) = true))]
      have last : wpAny (model X.prog X.w) X.A (setFlight (.ref a) X.env.frame) (fun _ s4 => wpAny (model X.prog X.w) X.A (throw (.ref a) : Sem Flow) (SP X pins D) X.xe s4) X.xe { s1 with heap := h1 } := by
        rw [fr]
        exact HandSPX.setFlight_upZ fl1 fun h4 hh4 up4 => wpAny_throw (tk _ _ ⟨a, B, s0, pins, σ1, H1, cls, d, rfl, J, nb, (up.trans up1).trans up4, .inr (.inr (by rw [stk]; exact hh4)), na, os, ag, w⟩)
      first
        | exact wpAny_bind (wpAny_pure (wpAny_bind last))
        | exact wpAny_bind last
    | @cons x c ts b0 su p1 p2 hs2 l2 names walk rest ih =>
      intro w
      obtain ⟨b, hit, yes, no⟩ := w
      refine wpAny_handleBy_cons (codeAny_handlers_test ?_) (by intro q; cases q)
      have look : PySem.W.Looks (model X.prog X.w) h1 (typeOf (.ref a)) cls := fun A Q E s k q => wpAny_typeOf_ref (k _ _ e1) (by rw [z1.1]; exact q)
      have LM := PySem.W.exm_one (M := model X.prog X.w) J1.kIn look hit
      have test : ∀ {Q E : Value → Shared → Prop}, Q c { s1 with heap := h1 } → wpAny (model X.prog X.w) (X.A.mark (some (.ref a))) (eval (.Name x p1) X.env) Q E { s1 with heap := h1 } := fun {Q E} q => by
        obtain ⟨g, db, m | ⟨m, v, nn⟩⟩ := names
        · exact ld_glob (X := X.suite a ((a, o1) :: (X.pn ++ pins))) S1 g m q db
        · exact ld_blt (X := X.suite a ((a, o1) :: (X.pn ++ pins))) S1 g m v q nn db
      refine test (LM.here ?_)
      cases b with
      | false => exact ih (no rfl)
      | true =>
        refine codeAny_handlers_suite_as (HandSPX.lands_againZ fl1 fun h4 fl4 up4 => ?_)
        have J4 : Inv X pins σ1 H1 { s1 with heap := h4 } := J.landed nb fl4.1 ((up.trans up1).trans up4) os ag
        obtain ⟨o4, f4, e4, z4, d4⟩ := fl4.there
        refine store_ok (X := X.suite a ((a, o4) :: (X.pn ++ pins))) (v := .ref a) (J4.suite e4 d4 na nL nF) nd at_ (.inl isL) rfl (fun s5 S5 => ?_) (.inr isL)
        refine wpAny_mono ((walk a o4 cls d (X.pn ++ pins) z4 ⟨_, d4⟩).run [] s5 _ H1 _ S5 (yes rfl a na)) (fun f s6 z => ?_) fun _ _ z => False.elim z
        have bye : ∀ {σ6 : L2.St} {H6 : Hp} {Q : Shared → Prop}, Inv (X.suite a ((a, o4) :: (X.pn ++ pins))) [] σ6 H6 s6 → (∀ s7, Inv X pins (σ6.set i none) H6 s7 → Q s7) →
            wpAny (model X.prog X.w) X.A (do bindName X.env n .none; unbindBehindTheSuite X.env n p2) (fun _ s7 => Q s7) X.xe s6 := fun {σ6 H6 Q} S6 q => gone_ok (S6.unsuite ok) nd at_ isL q
        match f, z with
        | .next, ⟨_, _, S6, q6⟩ => exact bye S6 fun s7 J7 => ⟨_, _, J7, q6⟩
        | .brk, ⟨_, _, S6, q6⟩ => exact bye S6 fun s7 J7 => ⟨_, _, J7, q6⟩
        | .cont, ⟨_, _, S6, q6⟩ => exact bye S6 fun s7 J7 => ⟨_, _, J7, q6⟩
        | .ret u, ⟨_, _, _, S6, r6, q6⟩ => exact bye S6 fun s7 J7 => ⟨_, _, _, J7, r6, q6⟩
  · intro f s1 z
    match f, z with
    | .next, ⟨_, _, J, q⟩ => exact wpAny_execs_nil ⟨_, _, J.ofTry ok, q⟩
    | .brk, ⟨_, _, J, q⟩ => exact ⟨_, _, J.ofTry ok, q⟩
    | .cont, ⟨_, _, J, q⟩ => exact ⟨_, _, J.ofTry ok, q⟩
    | .ret u, ⟨_, _, _, J, r, q⟩ => exact ⟨_, _, _, J.ofTry ok, r, q⟩
end
/-! ## repr where an exception is handled -/
theorem call_repU {X : Cx} (hg : X.A.guards = some []) (hu : X.A.units + 100 < cLine) : CallR X (.builtin "repr") (Gv.rReprV X.K) := by
  intro pins s σ H xs us Q I r h
  obtain ⟨v, d, rfl, hd, h1, h2, h3, h4, q⟩ := h
  obtain ⟨u, rfl, ru⟩ := vals1 r
  have keep := hd
  cases hd with
  | non => cases (show u = Value.none from ru); exact PySem.P.repr_of_none ⟨.str "None", H, I.tok _, ⟨_, rfl⟩, q⟩
  | bl b => cases (show u = Value.bool b from ru); exact PySem.P.repr_of_bool ⟨.str _, H, I.tok _, ⟨_, rfl⟩, q⟩
  | int i => obtain ⟨t, rfl⟩ := ru; exact PySem.P.repr_of_int (of_decide_eq_true h1) ⟨.str _, H, I.tok _, ⟨_, rfl⟩, q⟩
  | str x => obtain ⟨t, rfl⟩ := ru; exact PySem.P.repr_of_str ⟨.str _, H, I.tok _, ⟨_, rfl⟩, q⟩ h4
  | lst a b =>
    obtain ⟨as, rd⟩ := Dp.reads I _ _ u keep ru
    cases (show u = Value.ref _ from ru)
    exact repr_of_reads' rd h1 (fun z => by rw [h2] at z; cases z) hg (by omega) (fun _ _ e => e) (fun h' t tk hk => ⟨.str _, H, I.kept hk, ⟨t, rfl⟩, q⟩) h4
  | tup a b =>
    obtain ⟨as, rd⟩ := Dp.reads I _ _ u keep ru
    cases (show u = Value.ref _ from ru)
    exact repr_of_reads' rd h1 (fun z => by rw [h2] at z; cases z) hg (by omega) (fun _ _ e => e) (fun h' t tk hk => ⟨.str _, H, I.kept hk, ⟨t, rfl⟩, q⟩) h4
theorem call_repK {X : Cx} {K : PySem.W.Frag} (hK : X.K = K) (hg : X.A.guards = some []) (hu : X.A.units + 100 < cLine) : CallR X (.builtin "repr") (Gv.rReprV K) := hK ▸ call_repU hg hu
theorem pe_xfK {X : Cx} {K : PySem.W.Frag} {a C : Addr} {oe : Obj} {cls : Value} {d : Option Addr} {pn : List (Addr × Obj)} {e : Expr} {te : TE} {pos : Pos} {n : Str} (T : XfC K C) (hK : X.K = K) (hno : NoAttr K C n) (hz : Zc cls d oe) (hf : ∃ vs, oe.data = .fields vs)
    (he : PE (X.suite a ((a, oe) :: pn)) e te) (hb : attributeBase e n X.env (eval e X.env) = eval e X.env) : PE (X.suite a ((a, oe) :: pn)) (.Attribute e n pos) (tXf a cls d C n te) := by
  subst hK
  exact pe_xf T hno hz hf he hb
end Wy
namespace Yg
open PySem PySem.Spec PyProof.Rows L2 LamX Pen Wy
/-! ## The def that tells what a call raised -/
structure Tells (K : PySem.W.Frag) (H : Hp) (v : V) (d : PyData) : Prop where
  dp : Dp K H v d
  show_ : d.showable = true
  dict : d.hasDict = false
  deep : d.depth ≤ 60
  long : d.shown.length ≤ sizeLine
theorem Tells.repr {K : PySem.W.Frag} {H : Hp} {v : V} {d : PyData} {Q : VK} (t : Tells K H v d) (q : Q (.str d.shown) H) : Gv.rReprV K [v] H Q := ⟨v, d, rfl, t.dp, t.show_, t.dict, t.deep, t.long, q⟩
theorem len3 {a b c : V} : [a, b, c].length ≤ sizeLine := (by decide : 3 ≤ sizeLine)
theorem len2 {a b : V} : [a, b].length ≤ sizeLine := (by decide : 2 ≤ sizeLine)
/-- what the telling def asks of the exception -/
def WhyE (K : PySem.W.Frag) (CN CR : Addr) (Q : VK) : XK := fun cls d H1 => ∃ dd fs, d = some dd ∧ H1 dd = some (.xd fs) ∧
  ((cls = .ref CN ∧ ∃ (m : Str) (v : V) (dat : PyData), fs.lookup ("what" : Str) = some (.str m) ∧ fs.lookup ("number" : Str) = some v ∧ Tells K H1 v dat ∧ ∀ t, H1 t = none → Q (.ref t) (upd H1 t (.tup [.str "number", .str m, .str dat.shown]))) ∨
   (cls = .ref CR ∧ ∃ (v : V) (dat : PyData), fs.lookup ("row" : Str) = some v ∧ Tells K H1 v dat ∧ ∀ t, H1 t = none → Q (.ref t) (upd H1 t (.tup [.str "row", .str dat.shown]))))
/-- what it makes of the call's reading -/
def TWhy (K : PySem.W.Frag) (CN CR : Addr) : (XK → Hp → VK → Prop) → Hp → VK → Prop := fun tl H Q => tl (WhyE K CN CR Q) H fun _ H1 => Q .non H1
abbrev yN : List Str := ["_law_call", "e"]
theorem scWhy : FnScope yN ["_law_call"] (defScope sWhy) := ⟨rfl, rfl, rfl, by decide +kernel, rfl, by decide +kernel, by decide +kernel⟩
structure Tw (K : PySem.W.Frag) (mg : Str → Option Value) (CN CR : Addr) : Prop where
  mN : mg "BadNumber" = some (.ref CN)
  mR : mg "BadRow" = some (.ref CR)
  nn : PySem.W.exmOne K (.ref CN) (.ref CN) = some true
  rn : PySem.W.exmOne K (.ref CR) (.ref CN) = some false
  rr : PySem.W.exmOne K (.ref CR) (.ref CR) = some true
  xN : XfC K CN
  xR : XfC K CR
  nw : NoAttr K CN "what"
  nb : NoAttr K CN "number"
  nr : NoAttr K CR "row"
  rep : mg "repr" = none
abbrev whyX (X : Cx) (g : Addr) (cdg : Value) (s : Shared) (H : Hp) : Cx := (cxOf C8.CX0 X.prog X.w X.K X.mg X.base yN "_law_why" (defScope sWhy) g cdg X.A X.stack s H C8.E0).nox
theorem why_gives {X : Cx} {q : Str} {g CN CR : Addr} {cdg : Value} {k : Nat} (T : Tw X.K X.mg CN CR) (hg : X.A.guards = some []) (hr : Room (k + 1) X.A) : GivesTo X yN "_law_why" (defScope sWhy) g cdg (defBody sWhy) "_law_call" q (TWhy X.K CN CR) := by
  intro f c' s H Q tl act hc h
  have un := hr.un
  refine ⟨_, pss_cons (ps_try_all (i := 1) (n := "e") (X := whyX X g cdg s H)
      (tb := fun W D σ H => ∃ Ech : XK, (∀ cls d σ' H', Ech cls d H' → W cls d σ' H') ∧ σ[0]? = some (some (.ref f)) ∧ H c' = some (CodeO c' q) ∧ tl Ech H fun _ H1 => D.nx σ H1)
      rfl rfl scWhy.nd rfl (by rfl) takes0 (fun W pn xe tk _ => ?_)
      (.cons (c := .ref CN) ⟨by rfl, by decide, .inl T.mN⟩ (fun a oe cls d pn hz hf => pss_one (ps_ret (pe_tup (pa_cons pe_str (pa_cons (pe_xfK T.xN rfl T.nw hz hf (pv 1) rfl) (pa_cons (pe_callB (id := "repr") (r := Gv.rReprV X.K) (call_repK (X := (whyX X g cdg s H).suite a ((a, oe) :: pn)) (K := X.K) rfl hg (by show X.A.units + 3 + 100 < cLine; omega)) (by rfl) T.rep (by decide +kernel) (pa_cons (pe_xfK T.xN rfl T.nb hz hf (pv 1) rfl) pa_nil)) pa_nil))))))
      (.cons (c := .ref CR) ⟨by rfl, by decide, .inl T.mR⟩ (fun a oe cls d pn hz hf => pss_one (ps_ret (pe_tup (pa_cons pe_str (pa_cons (pe_callB (id := "repr") (r := Gv.rReprV X.K) (call_repK (X := (whyX X g cdg s H).suite a ((a, oe) :: pn)) (K := X.K) rfl hg (by show X.A.units + 3 + 100 < cLine; omega)) (by rfl) T.rep (by decide +kernel) (pa_cons (pe_xfK T.xR rfl T.nr hz hf (pv 1) rfl) pa_nil)) pa_nil)))))
      .nil)))
    (pss_one (ps_ret pe_non)), ?_⟩
  · refine ⟨fun pins s' σ H' D I h' => ?_⟩
    obtain ⟨Ech, hW, h1, h2, h3⟩ := h'
    exact (pss_one (ps_expr (act W pn xe Ech _ _ tk hW))).run pins s' σ H' D I ⟨h1, h2, h3⟩
  · refine ⟨_, fun cls d σ' H1 x lz => ?_, rfl, hc, h⟩
    obtain ⟨dd, fs, rfl, hd, x⟩ := x
    obtain ⟨w0, w1, rfl⟩ : ∃ w0 w1 : Option V, σ' = [w0, w1] := match σ', lz with | [w0, w1], _ => ⟨w0, w1, rfl⟩
    rcases x with ⟨rfl, m, v, dat, f1, f2, tl, q⟩ | ⟨rfl, v, dat, f2, tl, q⟩
    · refine ⟨true, T.nn, fun _ a na => ?_, fun z => by cases z⟩
      refine ⟨_, rfl, rfl, rfl, dd, fs, .str m, rfl, hd, f1, ?_⟩
      exact ⟨_, rfl, rfl, rfl, dd, fs, v, rfl, hd, f2, v, dat, rfl, tl.dp, tl.show_, tl.dict, tl.deep, tl.long, len3, q⟩
    · refine ⟨false, T.rn, (fun z => by cases z), fun _ => ⟨true, T.rr, fun _ a na => ?_, fun z => by cases z⟩⟩
      exact ⟨_, rfl, rfl, rfl, dd, fs, v, rfl, hd, f2, v, dat, rfl, tl.dp, tl.show_, tl.dict, tl.deep, tl.long, len2, q⟩
end Yg
namespace Zm
open PySem PySem.Spec PyProof.Rows L2 LamX Pen Dat Ki Fi Gr Wy Yg
/-! ## Machines: made, refused, compared -/
abbrev sNumI : Stmt := inClass cBadN 0
abbrev sRowI : Stmt := inClass cBadR 0
abbrev sMInit : Stmt := inClass cMach 0
abbrev sMEq : Stmt := inClass cMach 1
abbrev sUInit : Stmt := inClass cUnr 0
abbrev niN : List Str := ["self", "what", "number"]
abbrev riN : List Str := ["self", "row"]
abbrev miN : List Str := ["self", "graph", "inputs", "resets", "nexts", "wish", "most"]
abbrev mpN : List Str := ["self", "graph", "inputs", "resets", "nexts", "wish"]
theorem scNumI : FnScope niN niN (defScope sNumI) := ⟨rfl, rfl, rfl, by decide +kernel, rfl, by decide +kernel, by decide +kernel⟩
theorem scRowI : FnScope riN riN (defScope sRowI) := ⟨rfl, rfl, rfl, by decide +kernel, rfl, by decide +kernel, by decide +kernel⟩
theorem scMInit : FnScope miN mpN (defScope sMInit) := ⟨rfl, rfl, rfl, by decide +kernel, rfl, by decide +kernel, by decide +kernel⟩
def spNumI (C : Addr) : Sp := fun vs H Q _ => ∃ (a : Addr) (m v : V), vs = [.ref a, m, v] ∧ H a = some (exo a C none) ∧
  ∀ d, H d = none → d ≠ a → Q .non (upd (upd (upd H d (exd d [("what", m)])) a (exo a C (some d))) d (exd d [("number", v), ("what", m)]))
def spRowI (C : Addr) : Sp := fun vs H Q _ => ∃ (a : Addr) (v : V), vs = [.ref a, v] ∧ H a = some (exo a C none) ∧ ∀ d, H d = none → d ≠ a → Q .non (upd (upd H d (exd d [("row", v)])) a (exo a C (some d)))
/-- the exception that tells a wrong number, a wrong row -/
def Num (CN : Addr) (E : XK) (H : Hp) (m : Str) (v : V) : Prop := ∀ d H', Same H H' → H' d = some (.xd [("number", v), ("what", .str m)]) → E (.ref CN) (some d) H'
def Row (CR : Addr) (E : XK) (H : Hp) (v : V) : Prop := ∀ d H', Same H H' → H' d = some (.xd [("row", v)]) → E (.ref CR) (some d) H'
theorem del_keep {H H2 : Hp} {a d : Addr} {u : HO} (na : H a = none) (nd : H d = none) (s : ∀ b o, H b = some o → b ≠ a → b ≠ d → H2 b = some o) : Same H (upd (del H2 a) d u) := fun b o e => by
  have ha : b ≠ a := ne_of_none e na
  have hd : b ≠ d := ne_of_none e nd
  rw [upd_ne hd, del_ne ha]
  exact s b o e ha hd
theorem mk_num {σ : L2.St} {H : Hp} {Q : XK} {CN : Addr} {m : Str} {v : V} {te : TE} (hv : ∀ R : VK, R v H → te σ H R) (q : Num CN Q H m v) : tMkO CN (spNumI CN) [] (tCons (tC (.str m)) (tCons te tNil)) σ H Q := by
  refine hv _ ⟨(by show 2 ≤ 1000; decide), fun a na => ⟨a, .str m, v, rfl, upd_same, fun d nd dne => ?_⟩⟩
  rw [upd_ne dne] at nd
  refine ⟨rfl, d, _, by rw [upd_ne (Ne.symm dne), upd_same], upd_same, nd, q d _ (del_keep na nd fun b o e ha hd => ?_) upd_same⟩
  rw [upd_ne hd, upd_ne ha, upd_ne hd, upd_ne ha]
  exact e
theorem mk_row {σ : L2.St} {H : Hp} {Q : XK} {CR : Addr} {v : V} {te : TE} (hv : ∀ R : VK, R v H → te σ H R) (q : Row CR Q H v) : tMkO CR (spRowI CR) [] (tCons te tNil) σ H Q := by
  refine hv _ ⟨(by show 1 ≤ 1000; decide), fun a na => ⟨a, v, rfl, upd_same, fun d nd dne => ?_⟩⟩
  rw [upd_ne dne] at nd
  refine ⟨rfl, d, _, upd_same, by rw [upd_ne dne, upd_same], nd, q d _ (del_keep na nd fun b o e ha hd => ?_) upd_same⟩
  rw [upd_ne ha, upd_ne hd, upd_ne ha]
  exact e
/-- what is asked of an exception class, and of its __init__ -/
structure Xi (K : PySem.W.Frag) (C f : Addr) : Prop where
  oe : OexC K C
  ini : PySem.W.findIn K (.ref C) "__init__" = some (some (.ref f))
  fn : PySem.W.typeIn K (.ref f) = some (.type "function")
structure Tz (K : PySem.W.Frag) (mg : Str → Option Value) (C M CN CR fN fR : Addr) : Prop where
  gr : Gr.Tx K mg C
  why : Yg.Tw K mg CN CR
  n : Xi K CN fN
  r : Xi K CR fR
  cl : Cls K M
  nG : NoAttr K M "graph"
  nI : NoAttr K M "inputs"
  nR : NoAttr K M "resets"
  nN : NoAttr K M "nexts"
  nW : NoAttr K M "wish"
  mgM : mg "Machine" = some (.ref M)
section
variable {P : Program} {w : World} {K : PySem.W.Frag} {mg : Str → Option Value} {base : Heap} {f C M CN CR fN fR : Addr} {fd : FuncData}
theorem ok_numi (F : FunD K "__init__" "BadNumber.__init__" (defArgs sNumI) (defBody sNumI) (defScope sNumI) [] [] f fd) (T : Tz K mg C M CN CR fN fR) : FnOk P w K mg base CX0 1 f fd niN (spNumI CN) := by
  refine F.ok scNumI (fun vs H Q E h => ?_) (fun cdv A outer s H vs Q E hr h => ?_)
  · obtain ⟨a, m, v, rfl, _⟩ := h
    rfl
  · obtain ⟨a, m, v, rfl, ha, q⟩ := h
    refine ⟨_, PSs.nox (pss_cons (ps_ost (pv 0) (pv 1)) (pss_one (ps_ost (pv 0) (pv 2)))), ?_⟩
    refine ⟨_, rfl, _, rfl, a, CN, rfl, T.n.oe, T.why.nw, .inl ⟨ha, fun d hd dne => ?_⟩⟩
    exact ⟨_, rfl, _, rfl, a, CN, rfl, T.n.oe, T.why.nb, .inr ⟨d, _, upd_same, (by rw [upd_ne dne, upd_same]), (by show 1 ≤ 900; decide), q d hd dne⟩⟩
theorem ok_rowi (F : FunD K "__init__" "BadRow.__init__" (defArgs sRowI) (defBody sRowI) (defScope sRowI) [] [] f fd) (T : Tz K mg C M CN CR fN fR) : FnOk P w K mg base CX0 1 f fd riN (spRowI CR) := by
  refine F.ok scRowI (fun vs H Q E h => ?_) (fun cdv A outer s H vs Q E hr h => ?_)
  · obtain ⟨a, v, rfl, _⟩ := h
    rfl
  · obtain ⟨a, v, rfl, ha, q⟩ := h
    refine ⟨_, PSs.nox (pss_one (ps_ost (pv 0) (pv 1))), ?_⟩
    exact ⟨_, rfl, _, rfl, a, CR, rfl, T.r.oe, T.why.nr, .inl ⟨ha, fun d hd dne => q d hd dne⟩⟩
/-- a row of ints, a list or a tuple -/
def RowI (K : PySem.W.Frag) (H : Hp) (v : V) (ns : List Int) : Prop := ∃ r, v = .ref r ∧ (SqL K H r (ns.map V.int) ∨ SqT K H r (ns.map V.int))
/-- a machine -/
structure MA (K : PySem.W.Frag) (M : Addr) (H : Hp) (p x : Addr) (i wi : Int) (rs nx : List Int) : Prop where
  ex : ∃ dx fs t1 t2, H p = some (.ins M dx fs) ∧ fs.lookup ("graph" : Str) = some (.ref x) ∧ fs.lookup ("inputs" : Str) = some (.int i) ∧ fs.lookup ("resets" : Str) = some (.ref t1) ∧ fs.lookup ("nexts" : Str) = some (.ref t2) ∧
    fs.lookup ("wish" : Str) = some (.int wi) ∧ SqT K H t1 (rs.map V.int) ∧ SqT K H t2 (nx.map V.int)
def mst (n : Int) (gs : List (Int × Int)) : Int := 2 * (n + gs.length) + 1
def spMI (K : PySem.W.Frag) (C M CN CR : Addr) : Sp := fun vs H Q E => ∃ (p dx x : Addr) (n : Int) (gs : List (Int × Int)) (vi vr vn vw : V), vs = [.ref p, .ref x, vi, vr, vn, vw] ∧ H p = some (.ins M dx []) ∧ GraphAt K C H x n gs ∧
  ((∃ di, Dp K H vi di ∧ betD di 0 n = false ∧ Num CN E H "inputs" vi) ∨ ∃ i, vi = .int i ∧ 0 ≤ i ∧ i ≤ n ∧ ∃ dr, Dp K H vr dr ∧ (rowsD dr).length ≤ 1000 ∧
  ((rowB dr (n - i) 0 1 = false ∧ Row CR E H vr) ∨ (rowB dr (n - i) 0 1 = true ∧ ∃ dn, Dp K H vn dn ∧ (rowsD dn).length ≤ 1000 ∧
  ((rowB dn (n - i) 0 (mst n gs) = false ∧ Row CR E H vn) ∨ (rowB dn (n - i) 0 (mst n gs) = true ∧
  ((∃ dw, Dp K H vw dw ∧ betD dw 0 (mst n gs) = false ∧ Num CN E H "wish" vw) ∨ ∃ wi rs nx, vw = .int wi ∧ 0 ≤ wi ∧ wi ≤ mst n gs ∧ RowI K H vr rs ∧ RowI K H vn nx ∧
    ∀ H', (∀ b o, H b = some o → b ≠ p → H' b = some o) → MA K M H' p x i wi rs nx → Q .non H'))))))
theorem rowI_keep {p dx : Addr} {fs fs' : List (Str × V)} {H : Hp} {v : V} {ns : List Int} (hp : H p = some (.ins M dx fs)) (h : RowI K H v ns) : RowI K (upd H p (.ins M dx fs')) v ns := by
  obtain ⟨r, rfl, h⟩ := h
  refine ⟨r, rfl, ?_⟩
  have ne : ∀ {u : HO}, H r = some u → (∀ d f, u ≠ .ins M d f) → upd H p (.ins M dx fs') r = some u := fun {u} e no => by
    rw [upd_ne (fun z => by rw [z, hp] at e; exact no _ _ (Option.some.inj e).symm)]
    exact e
  rcases h with h | h
  · rcases h with (h | ⟨o, h⟩) | h
    · exact .inl (.inl (.inl (ne h fun _ _ z => by cases z)))
    · exact .inl (.inl (.inr ⟨o, ne h fun _ _ z => by cases z⟩))
    · exact .inl (.inr h)
  · rcases h with (h | ⟨o, h⟩) | h
    · exact .inr (.inl (.inl (ne h fun _ _ z => by cases z)))
    · exact .inr (.inl (.inr ⟨o, ne h fun _ _ z => by cases z⟩))
    · exact .inr (.inr h)
theorem seqT_ins {p dx : Addr} {fs fs' : List (Str × V)} {H : Hp} {t : Addr} {xs : List V} (hp : H p = some (.ins M dx fs)) (h : SqT K H t xs) : SqT K (upd H p (.ins M dx fs')) t xs := by
  rcases h with (h | ⟨o, h⟩) | h
  · exact .inl (.inl (by rw [upd_ne (fun z => by rw [z, hp] at h; cases h)]; exact h))
  · exact .inl (.inr ⟨o, by rw [upd_ne (fun z => by rw [z, hp] at h; cases h)]; exact h⟩)
  · exact .inr h
theorem rowI_same {H H' : Hp} {v : V} {ns : List Int} (s : Same H H') (h : RowI K H v ns) : RowI K H' v ns := by
  obtain ⟨r, rfl, h | h⟩ := h
  · exact ⟨r, rfl, .inl (s.seq h)⟩
  · exact ⟨r, rfl, .inr (seqT_same s h)⟩
theorem rowI_dp {H : Hp} {v : V} {ns : List Int} (h : RowI K H v ns) : ∃ d, Dp K H v d ∧ rowsD d = ns.map .int ∧ isRowD d = true := by
  obtain ⟨r, rfl, h | h⟩ := h
  · exact ⟨.list (ns.map .int), .lst h (ints_dp _), rfl, rfl⟩
  · exact ⟨.tuple (ns.map .int), .tup h (ints_dp _), rfl, rfl⟩
theorem tupOf_any {H : Hp} {v : V} {ns : List Int} {Q : VK} (h : RowI K H v ns) (q : ∀ H' t, Same H H' → SqT K H' t (ns.map V.int) → Q (.ref t) H') : rTupOf K [v] H Q := by
  obtain ⟨r, rfl, h | h⟩ := h
  · exact ⟨r, _, rfl, .inl ⟨h, fun l nl => q _ l (same_new nl) (.inl (.inl upd_same))⟩⟩
  · exact ⟨r, _, rfl, .inr ⟨h, q _ r (Same.refl _) h⟩⟩
/-- tuple(x), x a row of ints -/
def rTupI (K : PySem.W.Frag) : List V → Hp → VK → Prop := fun xs H Q => ∃ (v : V) (ns : List Int), xs = [v] ∧ RowI K H v ns ∧ ∀ H' t, Same H H' → SqT K H' t (ns.map V.int) → Q (.ref t) H'
theorem call_tupI {X : Cx} (hK : X.K = K) : CallR X (.type "tuple") (rTupI K) := by
  subst hK
  intro pins s σ H xs us Q I r h
  obtain ⟨v, ns, rfl, hv, q⟩ := h
  exact call_tuple_of pins s σ H _ us Q I r (tupOf_any hv q)
theorem ok_mi {fB fR' : Addr} {fdB fdR fd1 fd2 : FuncData} (F : FunD K "__init__" "Machine.__init__" (defArgs sMInit) (defBody sMInit) (defScope sMInit) [] [] f fd) (T : Tz K mg C M CN CR fN fR)
    (GB : FnOk P w K mg base CX0 1 fB fdB ["value", "least", "most"] (spBetween K)) (gB : mg "is_between" = some (.ref fB)) (kB : PySem.W.keepIn K (.ref fB) = true) (bB : Binds K fdB ["value", "least", "most"] [])
    (GR : FnOk P w K mg base CX0 2 fR' fdR ["value", "many", "least", "most"] (spRowB K)) (gR : mg "is_row_between" = some (.ref fR')) (kR : PySem.W.keepIn K (.ref fR') = true) (bR : Binds K fdR ["value", "many", "least", "most"] [])
    (GN : FnOk P w K mg base CX0 1 fN fd1 niN (spNumI CN)) (bN : Binds K fd1 niN []) (GX : FnOk P w K mg base CX0 1 fR fd2 riN (spRowI CR)) (bX : Binds K fd2 riN []) :
    FnOk P w K mg base (L2.CX P w) 3 f fd mpN (spMI K C M CN CR) := by
  refine F.ok scMInit (fun vs H Q E h => ?_) (fun cdv A outer s H vs Q E hr h => ?_)
  · obtain ⟨p, dx, x, n, gs, vi, vr, vn, vw, rfl, _⟩ := h
    rfl
  · obtain ⟨p, dx, x, n, gs, vi, vr, vn, vw, rfl, hp, hx, h⟩ := h
    have hr1 := hr.mono (j := 1) (by decide)
    have tk : Takes (cxOf (L2.CX P w) P w K mg base miN "Machine.__init__" (defScope sMInit) f cdv A outer s H E) (fun cls d _ H => E cls d H) := takes_of rfl rfl rfl rfl
    refine ⟨_, pss_cons (ps_set (i := 6) scMInit.nd rfl (Or.inl rfl) (pe_op op_add (pe_op op_mul pe_int (pe_op op_add (pe_fld (pv 1) rfl) (pe_callB call_len_seq (by rfl) T.gr.ki.len PySem.boot_len (pa_cons (pe_fld (pv 1) rfl) pa_nil)))) pe_int))
      (pss_cons (ps_if (pt_not (pt_val (pe_call GB hr1 (by rfl) gB kB bB .nil pass0 (pa_cons (pv 2) (pa_cons pe_int (pa_cons (pe_fld (pv 1) rfl) pa_nil)))))) (pss_one (ps_raise rfl tk (pmk_oex T.n.oe T.n.ini T.n.fn GN hr bN .nil pass0 (by rfl) T.why.mN (pa_cons pe_str (pa_cons (pv 2) pa_nil))))) pss_nil)
      (pss_cons (ps_if (pt_not (pt_val (pe_call GR hr (by rfl) gR kR bR .nil pass0 (pa_cons (pv 3) (pa_cons (pe_op op_sub (pe_fld (pv 1) rfl) (pv 2)) (pa_cons pe_int (pa_cons pe_int pa_nil))))))) (pss_one (ps_raise rfl tk (pmk_oex T.r.oe T.r.ini T.r.fn GX hr bX .nil pass0 (by rfl) T.why.mR (pa_cons (pv 3) pa_nil)))) pss_nil)
      (pss_cons (ps_if (pt_not (pt_val (pe_call GR hr (by rfl) gR kR bR .nil pass0 (pa_cons (pv 4) (pa_cons (pe_op op_sub (pe_fld (pv 1) rfl) (pv 2)) (pa_cons pe_int (pa_cons (pv 6) pa_nil))))))) (pss_one (ps_raise rfl tk (pmk_oex T.r.oe T.r.ini T.r.fn GX hr bX .nil pass0 (by rfl) T.why.mR (pa_cons (pv 4) pa_nil)))) pss_nil)
      (pss_cons (ps_if (pt_not (pt_val (pe_call GB hr1 (by rfl) gB kB bB .nil pass0 (pa_cons (pv 5) (pa_cons pe_int (pa_cons (pv 6) pa_nil)))))) (pss_one (ps_raise rfl tk (pmk_oex T.n.oe T.n.ini T.n.fn GN hr bN .nil pass0 (by rfl) T.why.mN (pa_cons pe_str (pa_cons (pv 5) pa_nil))))) pss_nil)
      (pss_cons (ps_fld (pv 0) (pv 1) rfl) (pss_cons (ps_fld (pv 0) (pv 2) rfl)
      (pss_cons (ps_fld (pv 0) (pe_callTy (call_tupI (K := K) rfl) (by rfl) T.gr.ki.tuple (by decide +kernel) (pa_cons (pv 3) pa_nil)) rfl)
      (pss_cons (ps_fld (pv 0) (pe_callTy (call_tupI (K := K) rfl) (by rfl) T.gr.ki.tuple (by decide +kernel) (pa_cons (pv 4) pa_nil)) rfl)
      (pss_one (ps_fld (pv 0) (pv 5) rfl)))))))))), ?_⟩
    obtain ⟨dg, g, x1, ps, hg, ha⟩ := hx
    refine ⟨_, rfl, x, C, dg, _, _, rfl, x1, T.gr.cl, T.gr.nL, flds_L _ _, _, rfl, x, C, dg, _, _, rfl, x1, T.gr.cl, T.gr.nG, flds_G _ _, g, ps, rfl, .inr hg, _, _, rfl, rfl, _, _, rfl, rfl, .inl ⟨by decide, by decide⟩, _, _, rfl, rfl, ?_⟩
    rw [ha.len]
    refine ⟨_, rfl, _, rfl, x, C, dg, _, _, rfl, x1, T.gr.cl, T.gr.nL, flds_L _ _, ?_⟩
    have bet : ∀ {lo hi z : Int}, lo ≤ z → z ≤ hi → betD (.int z) lo hi = true := fun {lo hi z} a b => by
      show (decide (lo ≤ z) && decide (z ≤ hi)) = true
      rw [decide_eq_true a, decide_eq_true b]
      rfl
    rcases h with ⟨di, hdi, bi, num⟩ | ⟨i, rfl, i0, i1, dr, hdr, lr, h⟩
    · refine ⟨_, _, _, _, rfl, hdi, _, rfl, ?_⟩
      rw [bi]
      refine iteT ?_
      exact mk_num (te := tVar 2) (fun R r => ⟨_, rfl, r⟩) num
    refine ⟨_, _, _, _, rfl, .int i, _, rfl, ?_⟩
    rw [bet i0 i1]
    refine iteF ?_
    refine ⟨_, rfl, _, rfl, x, C, dg, _, _, rfl, x1, T.gr.cl, T.gr.nL, flds_L _ _, _, rfl, _, _, rfl, rfl, _, _, _, _, _, rfl, hdr, lr, fun H1 s1 => ⟨_, rfl, ?_⟩⟩
    have x1' := s1 _ _ x1
    have numS : ∀ {H1 : Hp} {m : Str} {v : V}, Same H H1 → Num CN E H m v → Num CN E H1 m v := fun s q d H' s2 e => q d H' (s.trans s2) e
    have rowS : ∀ {H1 : Hp} {v : V}, Same H H1 → Row CR E H v → Row CR E H1 v := fun s q d H' s2 e => q d H' (s.trans s2) e
    rcases h with ⟨br, row⟩ | ⟨br, dn, hdn, ln, h⟩
    · rw [br]
      refine iteT ?_
      exact mk_row (te := tVar 3) (fun R r => ⟨_, rfl, r⟩) (rowS s1 row)
    rw [br]
    refine iteF ?_
    refine ⟨_, rfl, _, rfl, x, C, dg, _, _, rfl, x1', T.gr.cl, T.gr.nL, flds_L _ _, _, rfl, _, _, rfl, rfl, _, rfl, _, _, _, _, _, rfl, dp_same s1 hdn, ln, fun H2 s2 => ⟨_, rfl, ?_⟩⟩
    have s12 := s1.trans s2
    rcases h with ⟨bn, row⟩ | ⟨bn, h⟩
    · rw [show rowB dn (n - i) 0 (2 * (n + (gs.length : Int)) + 1) = false from bn]
      refine iteT ?_
      exact mk_row (te := tVar 4) (fun R r => ⟨_, rfl, r⟩) (rowS s12 row)
    rw [show rowB dn (n - i) 0 (2 * (n + (gs.length : Int)) + 1) = true from bn]
    refine iteF ?_
    rcases h with ⟨dw, hdw, bw, num⟩ | ⟨wi, rs, nx, rfl, w0, w1, hr, hn, q⟩
    · refine ⟨_, rfl, _, rfl, _, _, _, _, rfl, dp_same s12 hdw, _, rfl, ?_⟩
      rw [show betD dw 0 (2 * (n + (gs.length : Int)) + 1) = false from bw]
      refine iteT ?_
      exact mk_num (te := tVar 5) (fun R r => ⟨_, rfl, r⟩) (numS s12 num)
    refine ⟨_, rfl, _, rfl, _, _, _, _, rfl, .int wi, _, rfl, ?_⟩
    rw [show betD (.int wi) 0 (2 * (n + (gs.length : Int)) + 1) = true from bet w0 w1]
    refine iteF ?_
    have hr := rowI_same s12 hr
    have hn := rowI_same s12 hn
    have hp2 := s12 _ _ hp
    refine ⟨_, rfl, _, rfl, p, M, dx, _, rfl, hp2, T.cl, T.nG, (by show 0 < 1000; decide), ?_⟩
    refine ⟨_, rfl, _, rfl, p, M, dx, _, rfl, upd_same, T.cl, T.nI, (by show 1 < 1000; decide), ?_⟩
    rw [upd_upd]
    have hr := rowI_keep (fs' := putF "inputs" (.int i) (putF "graph" (.ref x) [])) hp2 hr
    have hn := rowI_keep (fs' := putF "inputs" (.int i) (putF "graph" (.ref x) [])) hp2 hn
    refine ⟨_, rfl, _, rs, rfl, hr, fun H3 t1 s3 ht1 => ?_⟩
    have hp3 := s3 _ _ (upd_same (H := H2) (a := p) (o := .ins M dx (putF "inputs" (.int i) (putF "graph" (.ref x) []))))
    refine ⟨_, rfl, p, M, dx, _, rfl, hp3, T.cl, T.nR, (by show 2 < 1000; decide), ?_⟩
    have hn := rowI_keep (fs' := putF "resets" (.ref t1) (putF "inputs" (.int i) (putF "graph" (.ref x) []))) hp3 (rowI_same s3 hn)
    have ht1 := seqT_ins (fs' := putF "resets" (.ref t1) (putF "inputs" (.int i) (putF "graph" (.ref x) []))) hp3 ht1
    refine ⟨_, rfl, _, nx, rfl, hn, fun H4 t2 s4 ht2 => ?_⟩
    have hp4 := s4 _ _ (upd_same (H := H3) (a := p) (o := .ins M dx (putF "resets" (.ref t1) (putF "inputs" (.int i) (putF "graph" (.ref x) [])))))
    refine ⟨_, rfl, p, M, dx, _, rfl, hp4, T.cl, T.nN, (by show 3 < 1000; decide), ?_⟩
    refine ⟨_, rfl, _, rfl, p, M, dx, _, rfl, upd_same, T.cl, T.nW, (by show 4 < 1000; decide), ?_⟩
    rw [upd_upd]
    have fin1 := seqT_ins (fs' := putF "wish" (.int wi) (putF "nexts" (.ref t2) (putF "resets" (.ref t1) (putF "inputs" (.int i) (putF "graph" (.ref x) []))))) hp4 (seqT_same s4 ht1)
    have fin2 := seqT_ins (fs' := putF "wish" (.int wi) (putF "nexts" (.ref t2) (putF "resets" (.ref t1) (putF "inputs" (.int i) (putF "graph" (.ref x) []))))) hp4 ht2
    refine q _ (fun b o e ne => ?_) ⟨⟨dx, _, t1, t2, upd_same, rfl, rfl, rfl, rfl, rfl, fin1, fin2⟩⟩
    rw [upd_ne ne]
    refine s4 _ _ ?_
    rw [upd_ne ne]
    refine s3 _ _ ?_
    rw [upd_ne ne]
    exact s12 _ _ e
end
end Zm
namespace Zn2
open PySem PySem.Spec PyProof.Rows L2 LamX Pen Dat Ki Fi Gr Wy Yg Zm
/-! ## Machines compared; unrolled cycles as they are told -/
def tD (ns : List Int) : PyData := .tuple (ns.map .int)
theorem can_ints : ∀ ns : List Int, PyData.canLayAll0 (ns.map .int) = true
  | [] => rfl
  | _ :: r => can_ints r
theorem deep_ints : ∀ ns : List Int, PyData.depthAll (ns.map .int) = 0
  | [] => rfl
  | _ :: r => by
    show max 0 (PyData.depthAll (r.map .int)) = 0
    rw [deep_ints r]
    rfl
theorem shaped_ints (ns : List Int) : SeqAt.shaped (tD ns) = true := by
  unfold SeqAt.shaped
  rw [Bool.and_eq_true]
  exact ⟨can_ints ns, decide_eq_true (by show PyData.depthAll (ns.map .int) + 1 ≤ 64; rw [deep_ints]; decide)⟩
/-- what x == y of two machines tells -/
def sameM (n n' : Int) (gs gs' : List (Int × Int)) (i i' wi wi' : Int) (rs rs' nx nx' : List Int) : Bool :=
  (decide (n = n') && PyData.eqv (gD gs) (gD gs')) && (decide (i = i') && (PyData.eqv (tD rs) (tD rs') && (PyData.eqv (tD nx) (tD nx') && decide (wi = wi'))))
def spMEq (K : PySem.W.Frag) (C M : Addr) : Sp := fun vs H Q _ => ∃ (p q x : Addr) (n i wi : Int) (gs : List (Int × Int)) (rs nx : List Int), vs = [.ref p, .ref q] ∧ MA K M H p x i wi rs nx ∧ GraphAt K C H x n gs ∧
  ((∃ (x' : Addr) (n' i' wi' : Int) (gs' : List (Int × Int)) (rs' nx' : List Int), MA K M H q x' i' wi' rs' nx' ∧ GraphAt K C H x' n' gs' ∧ Q (.bl (sameM n n' gs gs' i i' wi wi' rs rs' nx nx')) H) ∨
    ((∃ dy fs, H q = some (.ins C dy fs)) ∧ Q (.bl false) H))
structure Tq (K : PySem.W.Frag) (mg : Str → Option Value) (C M CN CR fN fR fE fF : Addr) : Prop where
  z : Tz K mg C M CN CR fN fR
  eqG : PySem.W.findIn K (.ref C) "__eq__" = some (some (.ref fE))
  fnG : PySem.W.isFn K (.ref fE) = true
  tupG : PySem.W.subIn K (.type "tuple") (.ref C) = some false
  eqM : PySem.W.findIn K (.ref M) "__eq__" = some (some (.ref fF))
  fnM : PySem.W.isFn K (.ref fF) = true
  gM : PySem.W.subIn K (.ref C) (.ref M) = some false
  metM : ∀ {H : Hp} {a dx : Addr} {fs : List (Str × V)}, H a = some (.ins M dx fs) → TyOf K H (.ref a) (.ref M)
  ownM : PySem.W.kitOne K (.ref M) (.ref M) = some true
  notM : PySem.W.kitOne K (.ref C) (.ref M) = some false
  lisG : PySem.W.kitOne K (.ref C) (.type "list") = some false
/-- x == y by the own == of x's class; y an instance of that class, or of one that isn't its child -/
def rOwnX (K : PySem.W.Frag) (C : Addr) (sp : Sp) (E : XK) : R2 := fun x y H Q => ∃ (a dx : Addr) (fs : List (Str × V)), x = .ref a ∧ H a = some (.ins C dx fs) ∧
  (∃ (b D dy : Addr) (gs : List (Str × V)), y = .ref b ∧ H b = some (.ins D dy gs) ∧ (D = C ∨ PySem.W.subIn K (.ref D) (.ref C) = some false)) ∧ sp [x, y] H (fun v H' => ∃ k : Bool, v = .bl k ∧ Q (.bl k) H') E
theorem op_ownX {X : Cx} {K : PySem.W.Frag} {CX : CXT} {n : Nat} {f C : Addr} {fd : FuncData} {ps : List Str} {sp : Sp} {E : XK} (hK : X.K = K) (F : FnOk X.prog X.w X.K X.mg X.base CX n f fd ps sp) (hr : Room n X.A)
    (hs : PySem.W.findIn K (.ref C) "__eq__" = some (some (.ref f))) (hf : PySem.W.isFn K (.ref f) = true) (hb : Binds K fd ps []) (hx : Passes CX X E) : OpR X (compareOp .Eq) (rOwnX K C sp E) := by
  subst hK
  intro pins s σ H x y v u Q I rx ry h
  obtain ⟨a, dx, fs, rfl, ha, ⟨b, D, dy, gs, rfl, e, hD⟩, hq⟩ := h
  cases (show v = Value.ref a from rx)
  cases (show u = Value.ref b from ry)
  obtain ⟨_, J2, _⟩ := ins_get I.hok e
  obtain ⟨_, J2, _⟩ := J2.look
  have first : PySem.W.notFirst X.K C (.ref D) = true := by
    rcases hD with rfl | hD
    · simp [PySem.W.notFirst]
    · simp [PySem.W.notFirst, hD]
  obtain ⟨_, J, _⟩ := ins_get I.hok ha
  obtain ⟨_, J, _⟩ := J.look
  obtain ⟨_, hF⟩ := I.fr
  show wpAny (model X.prog X.w) X.A (richCompare .Eq (.ref a) (.ref b)) (EP X pins σ Q) X.xe s
  refine PySem.W.cmp_K (op := .Eq) hr.units0 hF I.ok.mod.kin J J2.type first hs hf ?_
  have bind : BindsTo s fd ⟨[.ref a, .ref b], []⟩ (ps.zip [Value.ref a, .ref b]) := by
    have z := hb s [.ref a, .ref b] I.kIn (by simpa using F.len _ _ _ _ hq)
    simpa using z
  refine wpAny_call (codeAny_mono (F.run X.A X.stack s H ⟨[.ref a, .ref b], []⟩ [.ref a, .ref b] [.ref a, .ref b] _ E hr I.env0 bind (.cons rfl (.cons rfl .nil)) hq) fun r s' z => ?_)
  match r, z with
  | .error e, z => exact hx pins σ H s e s' I z
  | .ok .next, z => exact z.elim
  | .ok .brk, z => exact z.elim
  | .ok .cont, z => exact z.elim
  | .ok (.ret u'), z =>
    obtain ⟨v, H', I', rv, k, rfl, q⟩ := I.after z
    cases (show u' = Value.bool k from rv)
    exact ⟨.bl k, H', I', rfl, q⟩
def spKept (K : PySem.W.Frag) (C : Addr) : Sp := fun vs H Q _ => ∃ r : Addr, vs = [.ref r] ∧ ((∃ xs, SqL K H r xs ∧ ∀ l, H l = none → Q (.ref l) (upd H l (.tup xs))) ∨ ((∃ dx fs, H r = some (.ins C dx fs)) ∧ Q (.ref r) H))
def spUI (K : PySem.W.Frag) (C U : Addr) : Sp := fun vs H Q _ => ∃ (p dx x r1 r2 : Addr) (xs1 xs2 : List V), vs = [.ref p, .ref x, .ref r1, .ref r2] ∧ H p = some (.ins U dx []) ∧ (∃ dy fs, H x = some (.ins C dy fs)) ∧ SqL K H r1 xs1 ∧ SqL K H r2 xs2 ∧
  ∀ H' t1 t2 fs, (∀ b o, H b = some o → b ≠ p → H' b = some o) → H' p = some (.ins U dx fs) → fs.lookup ("graph" : Str) = some (.ref x) → fs.lookup ("states" : Str) = some (.ref t1) → fs.lookup ("wishes" : Str) = some (.ref t2) → SqT K H' t1 xs1 → SqT K H' t2 xs2 → Q .non H'
section
variable {P : Program} {w : World} {K : PySem.W.Frag} {mg : Str → Option Value} {base : Heap} {f C M U CN CR fN fR fE fF : Addr} {fd : FuncData}
theorem scMEq : FnScope ["self", "other"] ["self", "other"] (defScope sMEq) := ⟨rfl, rfl, rfl, by decide +kernel, rfl, by decide +kernel, by decide +kernel⟩
theorem scKept : FnScope ["value"] ["value"] (defScope sKeptR) := ⟨rfl, rfl, rfl, by decide +kernel, rfl, by decide +kernel, by decide +kernel⟩
abbrev uN : List Str := ["self", "graph", "states", "wishes"]
theorem scUI : FnScope uN uN (defScope sUInit) := ⟨rfl, rfl, rfl, by decide +kernel, rfl, by decide +kernel, by decide +kernel⟩
theorem ok_meq {fdE : FuncData} (F : FunD K "__eq__" "Machine.__eq__" (defArgs sMEq) (defBody sMEq) (defScope sMEq) [] [] f fd) (T : Tq K mg C M CN CR fN fR fE fF)
    (GE : FnOk P w K mg base CX0 1 fE fdE ["self", "other"] (spEqG K C)) (bE : Binds K fdE ["self", "other"] []) : FnOk P w K mg base CX0 2 f fd ["self", "other"] (spMEq K C M) := by
  refine F.ok scMEq (fun vs H Q E h => ?_) (fun cdv A outer s H vs Q E hr h => ?_)
  · obtain ⟨p, q, x, n, i, wi, gs, rs, nx, rfl, _⟩ := h
    rfl
  · obtain ⟨p, q, x, n, i, wi, gs, rs, nx, rfl, hp, hx, h⟩ := h
    refine ⟨_, PSs.nox (pss_one (ps_ret (pe_and (pe_callB call_isi (by rfl) T.z.gr.ki.isi (by decide +kernel) (pa_cons (pv 1) (pa_cons (pe_glob (v := V.ref M) (by rfl) T.z.mgM rfl) pa_nil)))
      (pe_and (pe_cmpR (op_ownX (K := K) rfl GE hr T.eqG T.fnG bE pass0) (pe_fld (pv 0) rfl) (pe_fld (pv 1) rfl) (nomark _))
      (pe_and (pe_cmpR op_eq (pe_fld (pv 0) rfl) (pe_fld (pv 1) rfl) (nomark _))
      (pe_and (pe_cmpR (op_eqD hr.units) (pe_fld (pv 0) rfl) (pe_fld (pv 1) rfl) (nomark _))
      (pe_and (pe_cmpR (op_eqD hr.units) (pe_fld (pv 0) rfl) (pe_fld (pv 1) rfl) (nomark _))
      (pe_one (pe_cmpR op_eq (pe_fld (pv 0) rfl) (pe_fld (pv 1) rfl) (nomark _)))))))))), ?_⟩
    obtain ⟨dx, fs, t1, t2, h1, g1, g2, g3, g4, g5, r1, r2⟩ := hp.ex
    rcases h with ⟨x', n', i', wi', gs', rs', nx', hq, hx', k⟩ | ⟨⟨dy, fy, hq⟩, k⟩
    · obtain ⟨dy, fy, u1, u2, h2, j1, j2, j3, j4, j5, s1, s2⟩ := hq.ex
      refine ⟨_, rfl, _, _, _, _, _, rfl, .own _, .base (T.metM h2), T.ownM, _, rfl, iteT ?_⟩
      obtain ⟨da, ga, e1, _⟩ := id hx
      obtain ⟨db, gb, e2, _⟩ := id hx'
      refine ⟨_, rfl, p, M, dx, _, _, rfl, h1, T.z.cl, T.z.nG, g1, _, rfl, q, M, dy, _, _, rfl, h2, T.z.cl, T.z.nG, j1, x, da, _, rfl, e1, ⟨x', C, db, _, rfl, e2, .inl rfl⟩, x, _, n, gs, rfl, hx, .inl ⟨x', n', gs', rfl, hx', _, rfl, _, rfl, ite2 (fun c => ?_) (fun c => ?_)⟩⟩
      · have dr := Dp.tup r1 (ints_dp rs)
        have dr' := Dp.tup s1 (ints_dp rs')
        have dn := Dp.tup r2 (ints_dp nx)
        have dn' := Dp.tup s2 (ints_dp nx')
        have lead : sameM n n' gs gs' i i' wi wi' rs rs' nx nx' = (decide (i = i') && (PyData.eqv (tD rs) (tD rs') && (PyData.eqv (tD nx) (tD nx') && decide (wi = wi')))) := by
          unfold sameM
          rw [c]
          rfl
        rw [lead] at k
        refine ⟨_, rfl, p, M, dx, _, _, rfl, h1, T.z.cl, T.z.nI, g2, _, rfl, q, M, dy, _, _, rfl, h2, T.z.cl, T.z.nI, j2, rfl, _, rfl, ite2 (fun c2 => ?_) (fun c2 => ?_)⟩
        · have e : i = i' := V.int.inj (of_decide_eq_true c2)
          rw [decide_eq_true e] at k
          refine ⟨_, rfl, p, M, dx, _, _, rfl, h1, T.z.cl, T.z.nR, g3, _, rfl, q, M, dy, _, _, rfl, h2, T.z.cl, T.z.nR, j3, _, _, dr, dr', shaped_ints rs, shaped_ints rs', _, rfl, ite2 (fun c3 => ?_) (fun c3 => ?_)⟩
          · rw [show PyData.eqv (tD rs) (tD rs') = true from c3] at k
            refine ⟨_, rfl, p, M, dx, _, _, rfl, h1, T.z.cl, T.z.nN, g4, _, rfl, q, M, dy, _, _, rfl, h2, T.z.cl, T.z.nN, j4, _, _, dn, dn', shaped_ints nx, shaped_ints nx', _, rfl, ite2 (fun c4 => ?_) (fun c4 => ?_)⟩
            · rw [show PyData.eqv (tD nx) (tD nx') = true from c4] at k
              refine ⟨_, rfl, p, M, dx, _, _, rfl, h1, T.z.cl, T.z.nW, g5, _, rfl, q, M, dy, _, _, rfl, h2, T.z.cl, T.z.nW, j5, rfl, ?_⟩
              have e5 : decide (V.int wi = V.int wi') = decide (wi = wi') := by
                by_cases z : wi = wi'
                · rw [decide_eq_true z, decide_eq_true (congrArg V.int z)]
                · rw [decide_eq_false z, decide_eq_false fun y => z (V.int.inj y)]
              have k2 : Q (.bl (decide (wi = wi'))) H := k
              rw [← e5] at k2
              exact k2
            · rw [show PyData.eqv (tD nx) (tD nx') = false from eq_false_of_ne_true c4] at k
              exact k
          · rw [show PyData.eqv (tD rs) (tD rs') = false from eq_false_of_ne_true c3] at k
            exact k
        · have e : ¬ i = i' := fun z => c2 (decide_eq_true (congrArg V.int z))
          rw [decide_eq_false e] at k
          exact k
      · rw [show sameM n n' gs gs' i i' wi wi' rs rs' nx nx' = false from by unfold sameM; rw [eq_false_of_ne_true c]; rfl] at k
        exact k
    · exact ⟨_, rfl, _, _, _, _, _, rfl, .own _, .base (T.z.gr.met hq), T.notM, _, rfl, iteF k⟩
theorem ok_kept (F : FnP K "row_kept" sKeptR f fd) (T : Tq K mg C M CN CR fN fR fE fF) : FnOk P w K mg base CX0 1 f fd ["value"] (spKept K C) := by
  refine F.ok scKept (fun vs H Q E h => ?_) (fun cdv A outer s H vs Q E hr h => ?_)
  · obtain ⟨r, rfl, _⟩ := h
    rfl
  · obtain ⟨r, rfl, h⟩ := h
    refine ⟨_, PSs.nox (pss_one (ps_ret (pe_ifExp (pt_val (pe_callB call_isi (by rfl) T.z.gr.ki.isi (by decide +kernel) (pa_cons (pv 0) (pa_cons (pe_bltn (v := .ty "list") (by rfl) T.z.gr.ki.list (by decide +kernel) rfl) pa_nil))))
      (pe_callTy call_tuple_of (by rfl) T.z.gr.ki.tuple (by decide +kernel) (pa_cons (pv 0) pa_nil)) (pv 0)))), ?_⟩
    rcases h with ⟨xs, hs, k⟩ | ⟨⟨dx, fs, hs⟩, k⟩
    · refine ⟨_, rfl, _, _, _, _, _, rfl, .ty _, ty_list hs, rfl, _, rfl, iteT ?_⟩
      exact ⟨_, rfl, r, xs, rfl, .inl ⟨hs, k⟩⟩
    · exact ⟨_, rfl, _, _, _, _, _, rfl, .ty _, .base (T.z.gr.met hs), T.lisG, _, rfl, iteF ⟨_, rfl, k⟩⟩
theorem ok_ui {fK : Addr} {fdK : FuncData} (F : FunD K "__init__" "Unrolled.__init__" (defArgs sUInit) (defBody sUInit) (defScope sUInit) [] [] f fd) (T : Tq K mg C M CN CR fN fR fE fF) (clU : Cls K U) (n1 : NoAttr K U "graph") (n2 : NoAttr K U "states") (n3 : NoAttr K U "wishes")
    (GK : FnOk P w K mg base CX0 1 fK fdK ["value"] (spKept K C)) (gK : mg "row_kept" = some (.ref fK)) (kK : PySem.W.keepIn K (.ref fK) = true) (bK : Binds K fdK ["value"] []) : FnOk P w K mg base CX0 2 f fd uN (spUI K C U) := by
  refine F.ok scUI (fun vs H Q E h => ?_) (fun cdv A outer s H vs Q E hr h => ?_)
  · obtain ⟨p, dx, x, r1, r2, xs1, xs2, rfl, _⟩ := h
    rfl
  · obtain ⟨p, dx, x, r1, r2, xs1, xs2, rfl, hp, ⟨dy, fy, hx⟩, h1, h2, q⟩ := h
    refine ⟨_, PSs.nox (pss_cons (ps_fld (pv 0) (pe_call GK hr (by rfl) gK kK bK .nil pass0 (pa_cons (pv 1) pa_nil)) rfl)
      (pss_cons (ps_fld (pv 0) (pe_call GK hr (by rfl) gK kK bK .nil pass0 (pa_cons (pv 2) pa_nil)) rfl)
      (pss_one (ps_fld (pv 0) (pe_call GK hr (by rfl) gK kK bK .nil pass0 (pa_cons (pv 3) pa_nil)) rfl)))), ?_⟩
    have keepL : ∀ {H : Hp} {fs fs' : List (Str × V)} {r : Addr} {xs : List V}, H p = some (.ins U dx fs) → SqL K H r xs → SqL K (upd H p (.ins U dx fs')) r xs := fun {H fs fs' r xs} hp h => by
      rcases h with (h | ⟨o, h⟩) | h
      · exact .inl (.inl (by rw [upd_ne (fun z => by rw [z, hp] at h; cases h)]; exact h))
      · exact .inl (.inr ⟨o, by rw [upd_ne (fun z => by rw [z, hp] at h; cases h)]; exact h⟩)
      · exact .inr h
    refine ⟨_, rfl, x, rfl, .inr ⟨⟨dy, fy, hx⟩, _, rfl, p, U, dx, _, rfl, hp, clU, n1, (by show 0 < 1000; decide), ?_⟩⟩
    have k1 := keepL (fs' := putF "graph" (.ref x) []) hp h1
    have k2 := keepL (fs' := putF "graph" (.ref x) []) hp h2
    refine ⟨_, rfl, r1, rfl, .inl ⟨xs1, k1, fun l nl => ?_⟩⟩
    have hp1 : upd (upd H p (.ins U dx (putF "graph" (.ref x) []))) l (.tup xs1) p = some (.ins U dx (putF "graph" (.ref x) [])) := by rw [upd_ne (ne_of_none upd_same nl), upd_same]
    have s1 := same_new (u := .tup xs1) nl
    refine ⟨_, rfl, p, U, dx, _, rfl, hp1, clU, n2, (by show 1 < 1000; decide), ?_⟩
    have k2 := keepL (fs' := putF "states" (.ref l) (putF "graph" (.ref x) [])) hp1 (s1.seq k2)
    refine ⟨_, rfl, r2, rfl, .inl ⟨xs2, k2, fun m nm => ?_⟩⟩
    have hl : upd (upd (upd H p (.ins U dx (putF "graph" (.ref x) []))) l (.tup xs1)) p (.ins U dx (putF "states" (.ref l) (putF "graph" (.ref x) []))) l = some (.tup xs1) := by
      rw [upd_ne (fun z => by rw [z] at nl; rw [upd_same] at nl; cases nl), upd_same]
    have np : m ≠ p := fun z => by
      rw [z, upd_same] at nm
      cases nm
    have nl2 : m ≠ l := fun z => by
      rw [z, hl] at nm
      cases nm
    have hp2 : ∀ {G : Hp} {v u : HO}, upd (upd G p v) m u p = some v := fun {G v u} => by rw [upd_ne (Ne.symm np), upd_same]
    refine ⟨_, rfl, p, U, dx, _, rfl, hp2, clU, n3, (by show 2 < 1000; decide), ?_⟩
    have nlp : l ≠ p := fun z => by
      rw [z, upd_same] at nl
      cases nl
    refine q _ l m _ (fun b o e ne => ?_) upd_same rfl rfl rfl (.inl (.inl ?_)) (.inl (.inl ?_))
    · have hl2 : b ≠ l := fun z => by
        rw [← z, upd_ne ne, e] at nl
        cases nl
      have hm2 : b ≠ m := fun z => by
        rw [← z, upd_ne ne, upd_ne hl2, upd_ne ne, e] at nm
        cases nm
      rw [upd_ne ne, upd_ne hm2, upd_ne ne, upd_ne hl2, upd_ne ne]
      exact e
    · rw [upd_ne nlp, upd_ne (Ne.symm nl2)]
      exact hl
    · rw [upd_ne np, upd_same]
end
end Zn2
namespace Yt
open PySem PySem.Spec PyProof.Rows L2 LamX Gd Wy
/-! ## A law that holds a lambda: its table; it may call repr -/
/-- from the def's body; its code object is told -/
theorem mk_ofC {P : Program} {w : World} {K : PySem.W.Frag} {mg : Str → Option Value} {base : Heap} {CX : CXT} {k : Nat} {f : Addr} {fd : FuncData} {ps : List Str} {sp : Sp} {x qual : Str} {params : Arguments} {body : List Stmt} {scope : Scope} {dvs : List V} {kws : List (Str × V)} {N : List Str}
    (F : FunD K x qual params body scope dvs kws f fd) (S : FnScope N ps scope) (many : ∀ vs H Q E, sp vs H Q E → vs.length = ps.length)
    (walk : ∀ (cv : Value) (A : Around) (fs : List Env) (s : Shared) (H : Hp) (vs : List V) (Q : VK) (E : XK), fd.code = cv → A.guards = some [] → Room k (A.deeper (envOfC qual scope s.heap.objs.size f cv)) → sp vs H Q E →
      ∃ t, PSs (cxOf CX P w K mg base N qual scope f cv A fs s H E) body t ∧ t { nx := fun _ H' => Q .non H', rt := Q } (L2.start N vs) H) :
    FnG P w K mg base CX (k + 1) f fd ps sp := by
  obtain ⟨_, _, _, _, _, _, _, cv, _, _, rfl, look, code, d1, d2⟩ := F.ex
  refine ⟨many, fun A fs s H ag us vs Q E hg room e bind rel prom => ?_⟩
  have kin : K.In s.heap := e.mod.kin.keeps fun b u z => (e.bs b u z).1
  have kinds : ∀ y ∈ ps.zip us, scope.names.lookup y.1 = some .local ∨ (scope.names.lookup y.1 = some .cell ∧ ((cellsFrom (s.heap.objs.size + 1) scope.names []).lookup y.1).isSome = true) := by
    rintro ⟨y, u⟩ hy
    rcases S.par y (List.of_mem_zip hy).1 with q | q
    · exact Or.inl q
    · exact Or.inr ⟨q, PySem.W.cellsFrom_some _ _ _ (Or.inl q)⟩
  refine codeAny_call_function room.depth (kin _ _ look) rfl S.co S.gen rfl (PySem.W.codeRec_of kin code) (bind _ _ _ _ ?_)
  refine wpAny_newFunctionEnv_cells S.kind kinds ?_
  rintro env rfl s1 hs1
  refine ⟨(e.mod.nolimit.keeps fun b u z => (e.bs b u z).1).keeps hs1.toInCall.keep, codeAny_func ?_⟩
  obtain ⟨t, ht, q⟩ := walk cv A fs s H vs Q E rfl hg (room.deeper _) prom
  have I := inv_start (CX := CX) (E := E) S room.hd e (many _ _ _ _ prom) rel hs1
  refine wpAny_mono (ht.run [] s1 (L2.start N vs) H _ I q) (fun fl s2 z => ?_) (fun _ _ z => z)
  match fl, z with
  | .ret u, ⟨v, σ', H', J, rv, q⟩ => exact ⟨v, H', J.os, J.bare, J.base, J.hok, rv, q⟩
  | .next, ⟨σ', H', J, q⟩ => exact ⟨V.non, H', J.os, J.bare, J.base, J.hok, rfl, q⟩
  | .brk, ⟨_, _, _, q⟩ => exact q.elim
  | .cont, ⟨_, _, _, q⟩ => exact q.elim
abbrev none_ : Obj := { cls := .none, data := .fields #[] }
/-- the heap in which the script, if the top did not write it, and the law's table are tracked -/
def scrT (K : PySem.W.Frag) (a T : Addr) (vs : List Value) (ns : List Int) : Hp := fun b => if b = T then some (.tbl #[]) else onlyScr K a vs ns b
theorem scrT_get {K : PySem.W.Frag} {a T b : Addr} {vs : List Value} {ns : List Int} {o : HO} (h : scrT K a T vs ns b = some o) : (b = T ∧ o = .tbl #[]) ∨ (b ≠ T ∧ b = a ∧ K.lookup a = none ∧ o = .frz (scr vs) (.lst (ns.map V.int))) := by
  unfold scrT at h
  by_cases e : b = T
  · rw [if_pos e] at h
    exact .inl ⟨e, (Option.some.inj h).symm⟩
  · rw [if_neg e] at h
    exact .inr ⟨e, onlyScr_get h⟩
theorem law_goT {P : Program} {w : World} {K : PySem.W.Frag} {mg mb : Str → Option Value} {CX : CXT} {k : Nat} {f a c T : Addr} {fd : FuncData} {x : Str} {sp : Sp} {s : Shared} {vs : List Value} {ns : List Int}
    (kin : K.In s.heap) (hm : s.heap.Ns mainGlobals mg) (hb : s.heap.Ns builtinsNs mb) (hbb : ∀ y : Str, y ≠ "__name__" → mb y = bootBuiltins y) (lim : s.heap.NoLimit) (hgen : s.gens = #[])
    (tab : s.heap.get? T = some none_) (out : K.lookup T = none) (hd : PySem.W.codeHdIn K c T = true) (bmain : ∃ (bm : Addr) (ob : Obj), mg "__builtins__" = some (.ref bm) ∧ bm ≠ builtinsNs ∧ s.heap.get? bm = some ob ∧ ob.cls = .type "module" ∧ ob.dict = some builtinsNs ∧ ob.data = .plain)
    (ha : s.heap.get? a = some (scr vs)) (hi : IntsAre vs ns) (hl : ns.length ≤ sizeLine) (hr : Room k callerA)
    (F : ∀ base : Heap, K.In base → base.Ns mainGlobals mg → TabB base mg c T → FnG P w K mg base CX k f fd [x] sp) (bind : ∀ (s : Shared) (u : Value), BindsTo s fd ⟨[u], []⟩ [(x, u)])
    (prom : ∀ H : Hp, H T = some (.tbl #[]) → SqL K H a (ns.map V.int) → sp [.ref a] H (fun v _ => v = .bl true) fun _ _ _ => False)
    (none_out : ∀ H e s', CX [] H s (fun _ _ _ => False) e s' → False) :
    codeAny (model P w) callerA (.call (.ref f) ⟨[.ref a], []⟩) (fun r s' => r = .ok (.ret (.bool true)) ∧ OldK s.heap s'.heap ∧ s'.os = s.os ∧ AllBare s'.gens) s := by
  have hv := vals_ints hi
  have hlen := hi.length
  have aT : a ≠ T := fun z => by
    rw [z, tab] at ha
    cases ha
  let H := scrT K a T vs ns
  have hT : H T = some (.tbl #[]) := if_pos rfl
  have gone : ∀ {b : Addr} {o : Obj}, K.lookup b = some o → H b = none := fun {b o} q => by
    cases e : H b with
    | none => rfl
    | some u =>
      rcases scrT_get e with ⟨rfl, _⟩ | ⟨_, rfl, n, _⟩
      · rw [out] at q
        cases q
      · rw [n] at q
        cases q
  have free : ∀ {b : Addr} {o : Obj}, s.heap.get? b = some o → (∀ (u : Array Value) (n : Nat), o.data ≠ .seq u n) → (∀ u, o.data ≠ .fields u) → H b = none := fun {b o} q d1 d2 => by
    cases e : H b with
    | none => rfl
    | some u =>
      rcases scrT_get e with ⟨rfl, _⟩ | ⟨_, rfl, _, _⟩
      · rw [tab] at q
        cases q
        exact (d2 _ rfl).elim
      · rw [ha] at q
        cases q
        exact (d1 _ _ rfl).elim
  have stays : ∀ {b : Addr} {m : Str → Option Value}, s.heap.Ns b m → (hidT s.heap H).Ns b m := fun ⟨o, es, ep, q, d, r⟩ =>
    ⟨o, es, ep, hidT_get q (free q (fun _ _ z => by rw [d] at z; cases z) fun _ z => by rw [d] at z; cases z), d, r⟩
  have kinT : K.In (hidT s.heap H) := fun b o q => hidT_get (kin b o q) (gone q)
  have hok : HOk P w H s.heap := fun b u q => by
    rcases scrT_get q with ⟨rfl, rfl⟩ | ⟨_, rfl, _, rfl⟩
    · exact tab
    · exact ⟨ha, by rw [List.length_map]; exact hl, vs, _, hv, ha⟩
  have hS : SqL K H a (ns.map V.int) := by
    cases e : K.lookup a with
    | none => exact .inl (.inr ⟨scr vs, (if_neg aT).trans (if_pos ⟨rfl, by rw [e]; rfl⟩)⟩)
    | some o =>
      have q := kin a o e
      rw [ha] at q
      cases q
      exact .inr ⟨_, vs.toArray, _, e, rfl, rfl, rfl, by rw [List.size_toArray, hlen]; exact hl, by simpa using hv⟩
  have notG : mainGlobals ≠ T := fun z => by
    obtain ⟨o, es, ep, q, d, _⟩ := hm
    rw [z, tab] at q
    cases q
    cases d
  have TB : TabB (hidT s.heap H) mg c T := by
    obtain ⟨bm, ob, b1, b2, b3, b4, b5, b6⟩ := bmain
    refine ⟨PySem.W.codeHd_of_K kinT hd, ⟨bm, ob, b1, b2, fun z => ?_, fun z => ?_, hidT_get b3 (free b3 (fun _ _ z => by rw [b6] at z; cases z) fun _ z => by rw [b6] at z; cases z), b4, b5, b6⟩, notG⟩
    · obtain ⟨o, es, ep, q, d, _⟩ := hm
      rw [z, q] at b3
      cases b3
      rw [d] at b6
      cases b6
    · rw [z, tab] at b3
      cases b3
      cases b6
  obtain ⟨mc, l1, l2⟩ := lim
  have e0 : Env0 P w K mg (hidT s.heap H) callerA [] s H := by
    refine ⟨rfl, ⟨kinT, stays hm, ⟨mb, stays hb, hbb⟩, ⟨mc, stays l1, l2⟩⟩, fun b o q => of_hidT q, Nat.le_of_eq (hidT_size _ _), trivial, fun b q => ?_, hok, .of_eq hgen⟩
    cases q
  refine codeAny_mono ((F _ kinT (stays hm) TB).go callerA [] s H ⟨[.ref a], []⟩ [.ref a] [.ref a] _ _ rfl hr e0 (bind s (.ref a)) (.cons rfl .nil) (prom H hT hS)) fun r s' h => ?_
  match r, h with
  | .error e, h => exact (none_out H e s' h).elim
  | .ok .next, h => exact h.elim
  | .ok .brk, h => exact h.elim
  | .ok .cont, h => exact h.elim
  | .ok (.ret u), ⟨v, H', os, bare, un, hok', rv, q⟩ =>
    have q' : v = .bl true := q
    subst q'
    have hu : u = Value.bool true := rv
    subst hu
    have rest : ∀ b o, b ≠ T → s.heap.get? b = some o → s'.heap.get? b = some o := fun b o nb z => by
      cases e : H b with
      | none => exact un.keep b o z e (by intro y; cases y) (by simp)
      | some t =>
        rcases scrT_get e with ⟨y, _⟩ | ⟨_, rfl, _, rfl⟩
        · exact absurd y nb
        · rw [ha] at z
          cases z
          exact (hok' b _ (un.frzs b _ _ e)).1
    obtain ⟨more, grown⟩ := un.tbls T #[] hT
    have hT2 : s'.heap.get? T = some { cls := .none, data := .fields (#[] ++ more) } := hok' T _ grown
    refine ⟨rfl, ⟨fun b o z => ?_, fun b o z => ?_⟩, os, bare⟩
    · by_cases nb : b = T
      · subst nb
        rw [tab] at z
        cases z
        exact .inr (.inl ⟨((PySem.W.codeHd_of_K kin hd).tab tab).isCodeTable, rfl, #[], more, rfl, hT2⟩)
      · exact .inl (rest b o nb z)
    · by_cases nb : b = T
      · subst nb
        exact ⟨_, hT2⟩
      · exact ⟨o, rest b o nb z⟩
theorem walk_goT {l : PySem.W.OpenLaw} {n k : Nat} {q : Program} {loose : List Str} {XP : (Str → Option Value) → Heap → Prop} {YP : World → Heap → Prop} {d : DefRec} {CX : World → CXT} {x : Str}
    (hn : l.most = some n) (hn2 : n ≤ sizeLine) (hdf : d.params.defaults = []) (hr : Room k callerA)
    (F : ∀ (w : World) (mg : Str → Option Value) (f : Addr) (h : Heap), YP w h → h.Ns mainGlobals mg → mg d.name = some (.ref f) → ∃ (K : PySem.W.Frag) (fd : FuncData) (sp : Sp) (c T : Addr), K.In h ∧ h.get? T = some none_ ∧ K.lookup T = none ∧ PySem.W.codeHdIn K c T = true ∧ (∀ (s : Shared) (u : Value), BindsTo s fd ⟨[u], []⟩ [(x, u)]) ∧
      (∀ (H : Hp) (a : Addr) (ns : List Int), ns.length ≤ n → H T = some (.tbl #[]) → SqL K H a (ns.map V.int) → sp [.ref a] H (fun v _ => v = .bl true) fun _ _ _ => False) ∧ ∀ base : Heap, K.In base → base.Ns mainGlobals mg → TabB base mg c T → FnG l.prog w K mg base (CX w) k f fd [x] sp)
    (none_out : ∀ (w : World) (H : Hp) (s : Shared) (e : Value) (s' : Shared), CX w [] H s (fun _ _ _ => False) e s' → False) : PySem.W.WalkO q loose XP YP l.row.toRowW d [] (fun f vs => PySem.call f vs) :=
  Att.attach_call hn hdf fun w _ s _ _ f _ _ _ _ a _ ns G Y _ _ _ hmg hobj hints hlen hgen =>
    let ⟨_, _, _, _, _, kin, tab, out, hd, bind, prom, ok⟩ := F w _ f _ Y G.T.g hmg
    law_goT kin G.T.g G.T.b G.T.builtins G.T.nolimit hgen tab out hd G.T.bmain hobj hints (Nat.le_trans hlen hn2) hr ok bind (fun H hT hS => prom H a ns hlen hT hS) fun H e s' => none_out w H s e s'
end Yt
namespace Zl
open PySem PySem.Spec PyProof.Rows L2 LamX Pen Dat Ki Fi Gr Wy Yg Zm Zn2 Yt Gd
/-! ## The law -/
abbrev nLaw : List Str := ["_law_script", "_law_pen_here", "_law_graph", "_law_odd", "_law_resets", "_law_nexts", "_law_wish", "_law_given", "_law_more", "_law_due", "_law_one", "_law_others", "_law_other", "_law_told"]
theorem scLaw : FnScope nLaw ["_law_script"] (defScope sLaw) := ⟨rfl, rfl, rfl, by decide +kernel, rfl, by decide +kernel, by decide +kernel⟩
abbrev lamQ : Str := (envOfC "law" (defScope sLaw) 0 0 .none).qual ++ "<lambda>"
def spLaw (K : PySem.W.Frag) (tb : Addr) : Sp := fun vs H Q _ => ∃ (a : Addr) (ns : List Int), vs = [.ref a] ∧ SqL K H a (ns.map V.int) ∧ ns.length ≤ 63 ∧ H tb = some (.tbl #[]) ∧ ∀ H', Q (.bl true) H'
theorem passF {P : Program} {w : World} {X : Cx} : Passes (L2.CX P w) X fun _ _ _ => False := fun _ _ _ _ _ _ _ c => by
  obtain ⟨_, _, _, _, _, _, _, _, _, _, _, _, z⟩ := c
  exact z.elim
theorem len1 {a : V} : [a].length ≤ sizeLine := (by decide : 1 ≤ sizeLine)
theorem len6 {a b c d e f : V} : [a, b, c, d, e, f].length ≤ sizeLine := (by decide : 6 ≤ sizeLine)
theorem len8 {a b c d e f g h : V} : [a, b, c, d, e, f, g, h].length ≤ sizeLine := (by decide : 8 ≤ sizeLine)
theorem len9 {a b c d e f g h i : V} : [a, b, c, d, e, f, g, h, i].length ≤ sizeLine := (by decide : 9 ≤ sizeLine)
/-- an instance is laid: all that was known stays -/
theorem same_ins {H : Hp} {x dx : Addr} {C : Addr} (nx : H x = none) (nd : H dx = none) (ne : dx ≠ x) : Same H (upd (upd H dx (.own x)) x (.ins C dx [])) :=
  (same_new nd).trans (same_new (by rw [upd_ne (Ne.symm ne)]; exact nx))
/-! ### values whose own objects are tuples of atoms -/
def Val (K : PySem.W.Frag) (H : Hp) (v : V) (d : PyData) : Prop := (∀ G, Dp K G v d) ∨ ∃ t vs ds, v = .ref t ∧ d = .tuple ds ∧ H t = some (.tup vs) ∧ ∀ G, DpAll K G vs ds
theorem Val.firm {K : PySem.W.Frag} {H H' : Hp} {v : V} {d : PyData} (s : Firm H H') (h : Val K H v d) : Val K H' v d := by
  rcases h with h | ⟨t, vs, ds, e1, e2, e3, e4⟩
  · exact .inl h
  · exact .inr ⟨t, vs, ds, e1, e2, s _ _ e3 rfl, e4⟩
theorem Val.dp {K : PySem.W.Frag} {H : Hp} {v : V} {d : PyData} (h : Val K H v d) : Dp K H v d := by
  rcases h with h | ⟨t, vs, ds, rfl, rfl, e3, e4⟩
  · exact h H
  · exact .tup (.inl (.inl e3)) (e4 H)
def ShB (d : PyData) : Bool := (d.showable && !d.hasDict) && (decide (d.depth ≤ 60) && (decide (d.shown.length ≤ sizeLine) && PyData.strOk d.shown))
theorem tells_of {K : PySem.W.Frag} {H : Hp} {v : V} {d : PyData} (h : Val K H v d) (s : ShB d = true) : Tells K H v d := by
  unfold ShB at s
  simp only [Bool.and_eq_true, Bool.not_eq_true', decide_eq_true_eq] at s
  obtain ⟨⟨h1, h2⟩, h3, h4, _⟩ := s
  exact ⟨h.dp, h1, h2, h3, h4⟩
theorem sh_str {d : PyData} (s : ShB d = true) : PyData.strOk d.shown = true := by
  unfold ShB at s
  simp only [Bool.and_eq_true] at s
  exact s.2.2.2
/-- no number from 0 to top -/
def Odd (K : PySem.W.Frag) (H : Hp) (v : V) (top : Int) : Prop := ∃ d, Val K H v d ∧ ShB d = true ∧ betD d 0 top = false
/-- no row of two from 0 to top -/
def OddR (K : PySem.W.Frag) (H : Hp) (v : V) (top : Int) : Prop := ∃ d, Val K H v d ∧ ShB d = true ∧ (rowsD d).length ≤ 1000 ∧ rowB d 2 0 top = false
theorem Odd.firm {K : PySem.W.Frag} {H H' : Hp} {v : V} {top : Int} (s : Firm H H') (h : Odd K H v top) : Odd K H' v top := by
  obtain ⟨d, a, b⟩ := h
  exact ⟨d, a.firm s, b⟩
theorem OddR.firm {K : PySem.W.Frag} {H H' : Hp} {v : V} {top : Int} (s : Firm H H') (h : OddR K H v top) : OddR K H' v top := by
  obtain ⟨d, a, b⟩ := h
  exact ⟨d, a.firm s, b⟩
theorem val_int {K : PySem.W.Frag} {H : Hp} (i : Int) : Val K H (.int i) (.int i) := .inl fun _ => .int i
theorem val_non {K : PySem.W.Frag} {H : Hp} : Val K H .non .none := .inl fun _ => .non
theorem val_bl {K : PySem.W.Frag} {H : Hp} (b : Bool) : Val K H (.bl b) (.bool b) := .inl fun _ => .bl b
theorem val_str {K : PySem.W.Frag} {H : Hp} (x : Str) : Val K H (.str x) (.str x) := .inl fun _ => .str x
theorem val_tup {K : PySem.W.Frag} {H : Hp} {t : Addr} {vs : List V} {ds : List PyData} (e : H t = some (.tup vs)) (h : ∀ G, DpAll K G vs ds) : Val K H (.ref t) (.tuple ds) := .inr ⟨t, vs, ds, rfl, rfl, e, h⟩
theorem six {α : Type} {a b c d e f v : α} {i : Nat} (h : [a, b, c, d, e, f][i]? = some v) : v = a ∨ v = b ∨ v = c ∨ v = d ∨ v = e ∨ v = f := by
  have m := List.mem_of_getElem? h
  simpa using m
theorem eight {α : Type} {a b c d e f g k v : α} {i : Nat} (h : [a, b, c, d, e, f, g, k][i]? = some v) : v = a ∨ v = b ∨ v = c ∨ v = d ∨ v = e ∨ v = f ∨ v = g ∨ v = k := by
  have m := List.mem_of_getElem? h
  simpa using m
theorem nine {α : Type} {a b c d e f g k l v : α} {i : Nat} (h : [a, b, c, d, e, f, g, k, l][i]? = some v) : v = a ∨ v = b ∨ v = c ∨ v = d ∨ v = e ∨ v = f ∨ v = g ∨ v = k ∨ v = l := by
  have m := List.mem_of_getElem? h
  simpa using m
theorem odd_pick {K : PySem.W.Frag} {H : Hp} {t : Addr} {z w top : Int} {x : Str} {v : V} {i : Nat} (h : [V.int (-1), .int z, .non, .bl true, .str x, .ref t][i]? = some v) (hz : ¬ z ≤ top) (e : H t = some (.tup [.int w])) (s1 : ShB (.int z) = true) (s2 : ShB (.str x) = true) (s3 : ShB (.tuple [.int w]) = true) : Odd K H v top := by
  rcases six h with rfl | rfl | rfl | rfl | rfl | rfl
  · exact ⟨_, val_int _, by decide +kernel, rfl⟩
  · exact ⟨_, val_int _, s1, by show (decide (0 ≤ z) && decide (z ≤ top)) = false; rw [decide_eq_false hz, Bool.and_false]⟩
  · exact ⟨_, val_non, by decide +kernel, rfl⟩
  · exact ⟨_, val_bl _, by decide +kernel, rfl⟩
  · exact ⟨_, val_str _, s2, rfl⟩
  · exact ⟨_, val_tup e fun G => .cons (.int w) .nil, s3, rfl⟩
theorem resets_pick {K : PySem.W.Frag} {H : Hp} {t1 t2 t3 t4 t5 : Addr} {v : V} {i : Nat} (h : [V.non, .int 5, .ref t1, .ref t2, .ref t3, .ref t4, .str "01", .ref t5][i]? = some v) (e1 : H t1 = some (.tup [.int 0])) (e2 : H t2 = some (.tup [.int 0, .int 1, .int 1])) (e3 : H t3 = some (.tup [.int 0, .int 2]))
    (e4 : H t4 = some (.tup [.bl true, .int 0])) (e5 : H t5 = some (.tup [.int 0, .non])) : OddR K H v 1 := by
  rcases eight h with rfl | rfl | rfl | rfl | rfl | rfl | rfl | rfl
  · exact ⟨_, val_non, by decide +kernel, by decide, rfl⟩
  · exact ⟨_, val_int _, by decide +kernel, by decide, rfl⟩
  · exact ⟨_, val_tup e1 fun G => .cons (.int _) .nil, by decide +kernel, by decide, by decide +kernel⟩
  · exact ⟨_, val_tup e2 fun G => .cons (.int _) (.cons (.int _) (.cons (.int _) .nil)), by decide +kernel, by decide, by decide +kernel⟩
  · exact ⟨_, val_tup e3 fun G => .cons (.int _) (.cons (.int _) .nil), by decide +kernel, by decide, by decide +kernel⟩
  · exact ⟨_, val_tup e4 fun G => .cons (.bl _) (.cons (.int _) .nil), by decide +kernel, by decide, by decide +kernel⟩
  · exact ⟨_, val_str _, by decide +kernel, by decide, rfl⟩
  · exact ⟨_, val_tup e5 fun G => .cons (.int _) (.cons .non .nil), by decide +kernel, by decide, by decide +kernel⟩
theorem nexts_pick {K : PySem.W.Frag} {H : Hp} {t1 t2 t3 t4 t5 t6 : Addr} {v : V} {i : Nat} (h : [V.non, .int 5, .ref t1, .ref t2, .ref t3, .ref t4, .ref t5, .str "ab", .ref t6][i]? = some v) (e1 : H t1 = some (.tup [.int 8])) (e2 : H t2 = some (.tup [.int 8, .int 10, .int 2])) (e3 : H t3 = some (.tup [.int 8, .int 12]))
    (e4 : H t4 = some (.tup [.int 8, .int (-1)])) (e5 : H t5 = some (.tup [.int 8, .bl true])) (e6 : H t6 = some (.tup [.int 8, .non])) : OddR K H v 11 := by
  rcases nine h with rfl | rfl | rfl | rfl | rfl | rfl | rfl | rfl | rfl
  · exact ⟨_, val_non, by decide +kernel, by decide, rfl⟩
  · exact ⟨_, val_int _, by decide +kernel, by decide, rfl⟩
  · exact ⟨_, val_tup e1 fun G => .cons (.int _) .nil, by decide +kernel, by decide, by decide +kernel⟩
  · exact ⟨_, val_tup e2 fun G => .cons (.int _) (.cons (.int _) (.cons (.int _) .nil)), by decide +kernel, by decide, by decide +kernel⟩
  · exact ⟨_, val_tup e3 fun G => .cons (.int _) (.cons (.int _) .nil), by decide +kernel, by decide, by decide +kernel⟩
  · exact ⟨_, val_tup e4 fun G => .cons (.int _) (.cons (.int _) .nil), by decide +kernel, by decide, by decide +kernel⟩
  · exact ⟨_, val_tup e5 fun G => .cons (.int _) (.cons (.bl _) .nil), by decide +kernel, by decide, by decide +kernel⟩
  · exact ⟨_, val_str _, by decide +kernel, by decide, rfl⟩
  · exact ⟨_, val_tup e6 fun G => .cons (.int _) (.cons .non .nil), by decide +kernel, by decide, by decide +kernel⟩
abbrev GS : List (Int × Int) := [(4, 2), (9, 7)]
/-- what stays known through the law -/
structure Fa (K : PySem.W.Frag) (C : Addr) (H : Hp) (p c g : Addr) (v3 v4 v5 v6 : V) : Prop where
  pen : ∃ m, m ≤ 100 ∧ PenC H p c m
  gr : GraphAt K C H g 3 GS
  odd : Odd K H v3 3
  rs : OddR K H v4 1
  nx : OddR K H v5 11
  wi : Odd K H v6 11
theorem firm_extN {H H' : Hp} (s : ExtN H H') : Firm H H' := fun b o e f => s b o e fun ps z => by
  rw [z] at f
  cases f
theorem pen_extN {H H' : Hp} {p c : Addr} {m : Nat} (s : ExtN H H') (h : PenC H p c m) : PenC H' p c m := by
  obtain ⟨ns, a, d, n, f, h1, h2, r⟩ := h
  exact ⟨ns, a, d, n, f, s _ _ h1 (fun _ z => by cases z), s _ _ h2 (fun _ z => by cases z), r⟩
theorem Fa.ext {K : PySem.W.Frag} {C : Addr} {H H' : Hp} {p c g : Addr} {v3 v4 v5 v6 : V} (s : ExtN H H') (h : Fa K C H p c g v3 v4 v5 v6) : Fa K C H' p c g v3 v4 v5 v6 := by
  have f := firm_extN s
  obtain ⟨m, hm, hp⟩ := h.pen
  exact ⟨⟨m, hm, pen_extN s hp⟩, h.gr.firm f, h.odd.firm f, h.rs.firm f, h.nx.firm f, h.wi.firm f⟩
theorem pen_tbl {H : Hp} {p c b : Addr} {m : Nat} {ps : Array Value} (h : PenC H p c m) (e : H b = some (.tbl ps)) : b ≠ p := fun z => by
  obtain ⟨_, _, _, _, _, h1, _⟩ := h
  rw [z, h1] at e
  cases e
theorem two_eqv (a b : Str) : PyData.eqv (.tuple [.str a, .str b]) (.tuple [.str a, .str b]) = true := by simp [PyData.eqv, PyData.eqvAll]
theorem three_eqv (a b c : Str) : PyData.eqv (.tuple [.str a, .str b, .str c]) (.tuple [.str a, .str b, .str c]) = true := by simp [PyData.eqv, PyData.eqvAll]
theorem two_sh {a b : Str} (ha : PyData.strOk a = true) (hb : PyData.strOk b = true) : SeqAt.shaped (.tuple [.str a, .str b]) = true := by
  unfold SeqAt.shaped
  rw [Bool.and_eq_true]
  exact ⟨by simp [PyData.canLay0, PyData.canLayAll0, ha, hb], decide_eq_true (by simp [PyData.depth, PyData.depthAll])⟩
theorem three_sh {a b c : Str} (ha : PyData.strOk a = true) (hb : PyData.strOk b = true) (hc : PyData.strOk c = true) : SeqAt.shaped (.tuple [.str a, .str b, .str c]) = true := by
  unfold SeqAt.shaped
  rw [Bool.and_eq_true]
  exact ⟨by simp [PyData.canLay0, PyData.canLayAll0, ha, hb, hc], decide_eq_true (by simp [PyData.depth, PyData.depthAll])⟩
theorem strs2 {K : PySem.W.Frag} {H : Hp} {t : Addr} {a b : Str} (e : H t = some (.tup [.str a, .str b])) : Dp K H (.ref t) (.tuple [.str a, .str b]) := .tup (.inl (.inl e)) (.cons (.str a) (.cons (.str b) .nil))
theorem strs3 {K : PySem.W.Frag} {H : Hp} {t : Addr} {a b c : Str} (e : H t = some (.tup [.str a, .str b, .str c])) : Dp K H (.ref t) (.tuple [.str a, .str b, .str c]) := .tup (.inl (.inl e)) (.cons (.str a) (.cons (.str b) (.cons (.str c) .nil)))
theorem goF {b : Bool} {A B : Prop} (h : b = false) (x : B) : if b = true then A else B := by rw [h]; exact iteF x
theorem goT {b : Bool} {A B : Prop} (h : b = true) (x : A) : if b = true then A else B := by rw [h]; exact iteT x
theorem num_of {K : PySem.W.Frag} {CN CR : Addr} {H : Hp} {m : Str} {v : V} {d : PyData} {Q : VK} (h : Val K H v d) (s : ShB d = true) (q : ∀ H' t, Same H H' → H' t = some (.tup [.str "number", .str m, .str d.shown]) → Q (.ref t) H') : Num CN (WhyE K CN CR Q) H m v := by
  intro dd H' s1 e
  refine ⟨dd, _, rfl, e, .inl ⟨rfl, m, v, d, rfl, rfl, tells_of (h.firm (Firm.of s1)) s, fun t nt => q _ t (s1.trans (same_new nt)) upd_same⟩⟩
theorem row_of {K : PySem.W.Frag} {CN CR : Addr} {H : Hp} {v : V} {d : PyData} {Q : VK} (h : Val K H v d) (s : ShB d = true) (q : ∀ H' t, Same H H' → H' t = some (.tup [.str "row", .str d.shown]) → Q (.ref t) H') : Row CR (WhyE K CN CR Q) H v := by
  intro dd H' s1 e
  refine ⟨dd, _, rfl, e, .inr ⟨rfl, v, d, rfl, tells_of (h.firm (Firm.of s1)) s, fun t nt => q _ t (s1.trans (same_new nt)) upd_same⟩⟩
theorem rowI_tup {K : PySem.W.Frag} {H : Hp} {t : Addr} {ns : List Int} (e : H t = some (.tup (ns.map V.int))) : RowI K H (.ref t) ns := ⟨t, rfl, .inr (.inl (.inl e))⟩
theorem rowB_lp {a b top : Int} (h1 : 0 ≤ a) (h2 : a ≤ top) (h3 : 0 ≤ b) (h4 : b ≤ top) : rowB (.list ([a, b].map .int)) 2 0 top = true := by simp [rowB, isRowD, rowsD, betD, h1, h2, h3, h4]
theorem rowB_tp {a b top : Int} (h1 : 0 ≤ a) (h2 : a ≤ top) (h3 : 0 ≤ b) (h4 : b ≤ top) : rowB (.tuple ([a, b].map .int)) 2 0 top = true := by simp [rowB, isRowD, rowsD, betD, h1, h2, h3, h4]
theorem rowI_lst {K : PySem.W.Frag} {H : Hp} {t : Addr} {ns : List Int} (e : H t = some (.lst (ns.map V.int))) : RowI K H (.ref t) ns := ⟨t, rfl, .inl (.inl (.inl e))⟩
theorem _root_.Zm.MA.firm {K : PySem.W.Frag} {M : Addr} {H H' : Hp} {p x : Addr} {i wi : Int} {rs nx : List Int} (s : Firm H H') (h : MA K M H p x i wi rs nx) : MA K M H' p x i wi rs nx := by
  obtain ⟨dx, fs, t1, t2, h1, a, b, c, d, e, r1, r2⟩ := h.ex
  exact ⟨dx, fs, t1, t2, s _ _ h1 rfl, a, b, c, d, e, firm_seq s r1, firm_seq s r2⟩
/-- behind the making of the machine -/
structure Fc (K : PySem.W.Frag) (C M : Addr) (H : Hp) (g q l1 l2 du t1 t2 : Addr) (d e : Int) : Prop where
  gr : GraphAt K C H g 3 GS
  ma : MA K M H q g 1 11 [d, 1] [e, 11]
  h1 : H l1 = some (.lst [.int d, .int 1])
  h2 : H l2 = some (.lst [.int e, .int 11])
  ne : l1 ≠ l2
  hd : H du = some (.tup [.ref t1, .ref t2])
  k1 : H t1 = some (.tup [.int d, .int 1])
  k2 : H t2 = some (.tup [.int e, .int 11])
  d0 : 0 ≤ d
  d1 : d ≤ 1
  e0 : 0 ≤ e
  e1 : e ≤ 11
structure Fd (K : PySem.W.Frag) (C M : Addr) (H : Hp) (g q du t1 t2 : Addr) (d e : Int) : Prop where
  gr : GraphAt K C H g 3 GS
  ma : MA K M H q g 1 11 [d, 1] [e, 11]
  hd : H du = some (.tup [.ref t1, .ref t2])
  k1 : H t1 = some (.tup [.int d, .int 1])
  k2 : H t2 = some (.tup [.int e, .int 11])
  d0 : 0 ≤ d
  d1 : d ≤ 1
  e0 : 0 ≤ e
  e1 : e ≤ 11
theorem Fd.firm {K : PySem.W.Frag} {C M g q du t1 t2 : Addr} {H H' : Hp} {d e : Int} (s : Firm H H') (h : Fd K C M H g q du t1 t2 d e) : Fd K C M H' g q du t1 t2 d e :=
  ⟨h.gr.firm s, h.ma.firm s, s _ _ h.hd rfl, s _ _ h.k1 rfl, s _ _ h.k2 rfl, h.d0, h.d1, h.e0, h.e1⟩
def dueD (d e : Int) : PyData := .tuple [tD [d, 1], tD [e, 11]]
theorem due_sh (d e : Int) : SeqAt.shaped (dueD d e) = true := by
  unfold SeqAt.shaped
  rw [Bool.and_eq_true]
  exact ⟨rfl, decide_eq_true (by show max (max 0 (max 0 0) + 1) (max (max 0 (max 0 0) + 1) 0) + 1 ≤ 64; decide)⟩
theorem self_eq {d : PyData} (h : SeqAt.shaped d = true) : PyData.eqv d d = true := SeqAt.eqv_refl d (SeqAt.canLay_of_shaped h)
theorem two_dp {K : PySem.W.Frag} {H : Hp} {t t1 t2 : Addr} {d e : Int} (h : H t = some (.tup [.ref t1, .ref t2])) (h1 : SqT K H t1 ([d, 1].map V.int)) (h2 : SqT K H t2 ([e, 11].map V.int)) : Dp K H (.ref t) (dueD d e) :=
  .tup (.inl (.inl h)) (.cons (.tup h1 (ints_dp [d, 1])) (.cons (.tup h2 (ints_dp [e, 11])) .nil))
theorem eqG_use {K : PySem.W.Frag} {C x y : Addr} {H : Hp} {n n' : Int} {gs gs' : List (Int × Int)} {Q : VK} {E : XK} (hx : GraphAt K C H x n gs) (hy : GraphAt K C H y n' gs') {k : Bool} (e : (decide (n = n') && PyData.eqv (gD gs) (gD gs')) = k) (q : Q (.bl k) H) : rOwnX K C (spEqG K C) E (.ref x) (.ref y) H Q := by
  obtain ⟨dx, gx, h1, _⟩ := id hx
  obtain ⟨dy, gy, h2, _⟩ := id hy
  exact ⟨x, dx, _, rfl, h1, ⟨y, C, dy, _, rfl, h2, .inl rfl⟩, x, _, n, gs, rfl, hx, .inl ⟨y, n', gs', rfl, hy, _, rfl, by rw [e]; exact q⟩⟩
theorem gs_self (gs : List (Int × Int)) : PyData.eqv (gD gs) (gD gs) = true := SeqAt.eqv_refl _ (can_pD gs)
theorem len0 : ([] : List V).length ≤ sizeLine := Nat.zero_le _
theorem eqM_use {K : PySem.W.Frag} {C M x y p q : Addr} {H : Hp} {n n' i i' wi wi' : Int} {gs gs' : List (Int × Int)} {rs rs' nx nx' : List Int} {Q : VK} {E : XK} (hp : MA K M H p x i wi rs nx) (hx : GraphAt K C H x n gs) (hq : MA K M H q y i' wi' rs' nx') (hy : GraphAt K C H y n' gs') {k : Bool} (e : sameM n n' gs gs' i i' wi wi' rs rs' nx nx' = k) (r : Q (.bl k) H) :
    rOwnX K M (spMEq K C M) E (.ref p) (.ref q) H Q := by
  obtain ⟨dx, fx, _, _, h1, _⟩ := hp.ex
  obtain ⟨dy, fy, _, _, h2, _⟩ := hq.ex
  exact ⟨p, dx, _, rfl, h1, ⟨q, M, dy, _, rfl, h2, .inl rfl⟩, p, q, x, n, i, wi, gs, rs, nx, rfl, hp, hx, .inl ⟨y, n', i', wi', gs', rs', nx', hq, hy, _, rfl, by rw [e]; exact r⟩⟩
theorem eqMG_use {K : PySem.W.Frag} {C M x y p : Addr} {H : Hp} {n n' i wi : Int} {gs gs' : List (Int × Int)} {rs nx : List Int} {Q : VK} {E : XK} (hs : PySem.W.subIn K (.ref C) (.ref M) = some false) (hp : MA K M H p x i wi rs nx) (hx : GraphAt K C H x n gs) (hy : GraphAt K C H y n' gs') (r : Q (.bl false) H) :
    rOwnX K M (spMEq K C M) E (.ref p) (.ref y) H Q := by
  obtain ⟨dx, fx, _, _, h1, _⟩ := hp.ex
  obtain ⟨dy, gy, h2, _⟩ := id hy
  exact ⟨p, dx, _, rfl, h1, ⟨y, C, dy, _, rfl, h2, .inr hs⟩, p, y, x, n, i, wi, gs, rs, nx, rfl, hp, hx, .inr ⟨⟨dy, _, h2⟩, _, rfl, r⟩⟩
/-- a machine is made of rows that are tuples -/
theorem made {K : PySem.W.Frag} {C M CN CR : Addr} {H : Hp} {z dz x r1 r2 : Addr} {gs : List (Int × Int)} {w a b c e : Int} {R : Hp → Prop} {E : XK} (nz : H z = none) (nd : H dz = none) (ne : dz ≠ z) (gr : GraphAt K C H x 3 gs) (hm : mst 3 gs = 11) (h1 : H r1 = some (.tup [.int a, .int b])) (h2 : H r2 = some (.tup [.int c, .int e]))
    (a0 : 0 ≤ a) (a1 : a ≤ 1) (b0 : 0 ≤ b) (b1 : b ≤ 1) (c0 : 0 ≤ c) (c1 : c ≤ 11) (e0 : 0 ≤ e) (e1 : e ≤ 11) (w0 : 0 ≤ w) (w1 : w ≤ 11) (q : ∀ H', Same H H' → MA K M H' z x 1 w [a, b] [c, e] → R H') :
    spMI K C M CN CR [.ref z, .ref x, .int 1, .ref r1, .ref r2, .int w] (upd (upd H dz (.own z)) z (.ins M dz [])) (fun v H2 => v = .non ∧ R H2) E := by
  have S := same_ins (C := M) nz nd ne
  refine ⟨z, dz, x, 3, gs, _, _, _, _, rfl, upd_same, gr.firm (Firm.of S), .inr ⟨1, rfl, (by decide), (by decide), .tuple ([a, b].map .int), .tup (.inl (.inl (S _ _ h1))) (ints_dp [a, b]), (by show 2 ≤ 1000; decide), .inr ⟨rowB_tp a0 a1 b0 b1,
    .tuple ([c, e].map .int), .tup (.inl (.inl (S _ _ h2))) (ints_dp [c, e]), (by show 2 ≤ 1000; decide), .inr ⟨by rw [hm]; exact rowB_tp c0 c1 e0 e1, .inr ⟨w, [a, b], [c, e], rfl, w0, by rw [hm]; exact w1, rowI_tup (ns := [a, b]) (S _ _ h1), rowI_tup (ns := [c, e]) (S _ _ h2), fun H' keep ma => ⟨rfl, ?_⟩⟩⟩⟩⟩⟩
  exact q _ (fun b o w => keep _ _ (S _ _ w) (ne_of_none w nz)) ma
/-- row[:1] + (z,) -/
theorem cut_plus {K : PySem.W.Frag} {H : Hp} {t : Addr} {a b z : Int} {σ : L2.St} {Q : VK} (h : H t = some (.tup [.int a, .int b])) (q : ∀ H' r, Same H H' → H' r = some (.tup [.int a, .int z]) → Q (.ref r) H') :
    rSlA K (.ref t) none (some 1) H fun v H1 => tTup (tCons (tC (.int z)) tNil) σ H1 fun y H2 => rCatA K v y H2 Q := by
  refine ⟨t, _, rfl, .inl (.inl h), fun y => absurd (show HT.sIx 2 2 (some 1) = 2 from y.2) (by decide), fun _ s1 n1 => ⟨len1, fun s2 n2 => ?_⟩⟩
  have A1 := same_new (u := .tup [.int a]) n1
  have A2 := same_new (u := .tup [.int z]) n2
  exact ⟨s1, s2, [.int a], [.int z], rfl, rfl, .inl (.inl (A2 _ _ upd_same)), .inl (.inl upd_same), (by decide : 2 ≤ sizeLine), (fun y => by cases y), (fun _ y => by cases y), fun _ _ r nr => q _ r (A1.trans (A2.trans (same_new nr))) upd_same⟩
/-- another machine -/
def Oth (K : PySem.W.Frag) (C M : Addr) (H : Hp) (d e : Int) (v : V) : Prop := ∃ (q x : Addr) (n' i' wi' : Int) (gs' : List (Int × Int)) (rs' nx' : List Int), v = .ref q ∧ MA K M H q x i' wi' rs' nx' ∧ GraphAt K C H x n' gs' ∧ sameM 3 n' GS gs' 1 i' 11 wi' [d, 1] rs' [e, 11] nx' = false
theorem Oth.firm {K : PySem.W.Frag} {C M : Addr} {H H' : Hp} {d e : Int} {v : V} (s : Firm H H') (h : Oth K C M H d e v) : Oth K C M H' d e v := by
  obtain ⟨q, x, n', i', wi', gs', rs', nx', rfl, ma, gr, e⟩ := h
  exact ⟨q, x, n', i', wi', gs', rs', nx', rfl, ma.firm s, gr.firm s, e⟩
theorem same_self (d e : Int) : sameM 3 3 GS GS 1 1 11 11 [d, 1] [d, 1] [e, 11] [e, 11] = true := by
  unfold sameM
  rw [gs_self, self_eq (shaped_ints [d, 1]), self_eq (shaped_ints [e, 11])]
  rfl
theorem other_wish (d e : Int) : sameM 3 3 GS GS 1 1 11 10 [d, 1] [d, 1] [e, 11] [e, 11] = false := by
  unfold sameM
  rw [gs_self, self_eq (shaped_ints [d, 1]), self_eq (shaped_ints [e, 11])]
  rfl
theorem other_rs (d e : Int) : sameM 3 3 GS GS 1 1 11 11 [d, 1] [d, 0] [e, 11] [e, 11] = false := by
  unfold sameM
  rw [gs_self, show PyData.eqv (tD [d, 1]) (tD [d, 0]) = false from by simp [tD, PyData.eqv, PyData.eqvAll]]
  rfl
theorem other_nx (d e : Int) : sameM 3 3 GS GS 1 1 11 11 [d, 1] [d, 1] [e, 11] [e, 2] = false := by
  unfold sameM
  rw [gs_self, self_eq (shaped_ints [d, 1]), show PyData.eqv (tD [e, 11]) (tD [e, 2]) = false from by simp [tD, PyData.eqv, PyData.eqvAll]]
  rfl
abbrev GS2 : List (Int × Int) := [(4, 2), (9, 5)]
theorem other_gs (d e : Int) : sameM 3 3 GS GS2 1 1 11 11 [d, 1] [d, 1] [e, 11] [e, 11] = false := by
  unfold sameM
  rw [show PyData.eqv (gD GS) (gD GS2) = false from by decide +kernel]
  rfl
theorem st_sh : SeqAt.shaped (.tuple [tD [2]]) = true := by
  unfold SeqAt.shaped
  rw [Bool.and_eq_true]
  exact ⟨rfl, decide_eq_true (by show max (max 0 0 + 1) 0 + 1 ≤ 64; decide)⟩
theorem pe_why {X : Cx} {g CN CR c tb : Addr} {fd : FuncData} {k : Nat} {t : XK → TE} {params : Arguments} {body : Expr} {scope : Scope} {p lpos pos : Pos} (F : FnP X.K "_law_why" sWhy g fd) (gW : X.mg "_law_why" = some (.ref g)) (T : Yg.Tw X.K X.mg CN CR)
    (hg : X.A.guards = some []) (hr : Room (k + 2) X.A) (TB : TabB X.base X.mg c tb) (hcode : X.env.code = .ref c) (hq : X.env.qual ++ "<lambda>" = lamQ) (gl : Gl X "_law_why") (L : LamS X.env.scope scope) (hdef : defaultsOf params X.env = ([], []))
    (hbind : ∀ (q : Str) (cl : List (Str × Addr)) (pm cv ctv : Value), bindArgs (PySem.W.kla_fn "<lambda>" q params body scope cl pm cv ctv) ⟨[], []⟩ = pure [])
    (hbody : ∀ (A : Around) (outer : List Env) (s : Shared) (H : Hp) (E : XK) (f c' : Addr), Room k (A.deeper (lamEnv X scope s.heap.objs.size f c')) → PE (lamCx X A outer s H E scope f c') body (t E)) :
    PE X (.Call (.Name "_law_why" p) [.Lambda params body scope lpos] [] pos) (tLam [(tb, lamQ)] (TWhy X.K CN CR) t) := by
  obtain ⟨_, _, _, _, _, _, _, cdv, _, _, rfl, lk, hcd, _, _⟩ := F.ex
  exact pe_lamcall (T := [(tb, lamQ)]) (TT := TWhy X.K CN CR) (a := "_law_call") (Ng := yN) gl gW F.kp lk hcd (F.bindsN fun _ _ _ _ _ _ us hl => match us, hl with | [_], _ => rfl) scWhy rfl (by exact Or.inl rfl)
    (why_gives T hg (hr.mono (by omega : k + 1 ≤ k + 2))) TB hcode (by rw [hq]; exact List.mem_cons_self) (fun p hp _ => by rw [hq]; rw [List.mem_singleton.mp hp]) hr L hdef hbind hbody
end Zl
namespace Zl
open PySem PySem.Spec PyProof.Rows L2 LamX Pen Dat Ki Fi Gr Wy Yg Zm Zn2 Yt Gd
/-! ## The law -/
section
variable {P : Program} {w : World} {K : PySem.W.Frag} {mg : Str → Option Value} {base : Heap} {f C M U CN CR fN fR fE fF c tb : Addr} {fd : FuncData}
theorem ok_law {g fM fI fU : Addr} {fdW fdM fdI fdU fdE fdF : FuncData} (F : FnP K "law" sLaw f fd) (T : Tq K mg C M CN CR fN fR fE fF) (rep : mg "repr" = none) (TB : TabB base mg c tb) (hcv : ∀ cv, fd.code = cv → cv = .ref c)
    (FW : FnP K "_law_why" sWhy g fdW) (gW : mg "_law_why" = some (.ref g))
    (mkM : Mk K C fM) (GM : FnOk P w K mg base CX0 4 fM fdM ["self", "leaves", "gates"] (spInit K C)) (gM : mg "Graph" = some (.ref C)) (bM : Binds K fdM ["self", "leaves", "gates"] [])
    (mkN : Mk K M fI) (GN : FnOk P w K mg base (L2.CX P w) 3 fI fdI mpN (spMI K C M CN CR)) (gN : mg "Machine" = some (.ref M)) (bN : Binds K fdI mpN [])
    (clU : Cls K U) (nU1 : NoAttr K U "graph") (nU2 : NoAttr K U "states") (nU3 : NoAttr K U "wishes") (mkU : Mk K U fU) (GU : FnOk P w K mg base CX0 2 fU fdU uN (spUI K C U)) (gU : mg "Unrolled" = some (.ref U)) (bU : Binds K fdU uN [])
    (GE : FnOk P w K mg base CX0 1 fE fdE ["self", "other"] (spEqG K C)) (bE : Binds K fdE ["self", "other"] []) (GQ : FnOk P w K mg base CX0 2 fF fdF ["self", "other"] (spMEq K C M)) (bQ : Binds K fdF ["self", "other"] [])
    {fP fD fK : Addr} {fdP fdD fdK : FuncData} (GP : FnOk P w K mg base CX0 1 fP fdP ["_law_script"] (spPen K)) (gP : mg "_law_pen" = some (.ref fP)) (kP : PySem.W.keepIn K (.ref fP) = true) (bP : Binds K fdP ["_law_script"] [])
    (GD : FnOk P w K mg base CX0 1 fD fdD ["_law_pen_here", "_law_many"] spDraw) (gD : mg "_law_draw" = some (.ref fD)) (kD : PySem.W.keepIn K (.ref fD) = true) (bD : Binds K fdD ["_law_pen_here", "_law_many"] [])
    (GK : FnOk P w K mg base CX0 2 fK fdK ["_law_pen_here", "_law_some"] (spPick K)) (gK : mg "_law_pick" = some (.ref fK)) (kK : PySem.W.keepIn K (.ref fK) = true) (bK : Binds K fdK ["_law_pen_here", "_law_some"] []) :
    FnG P w K mg base CX0 8 f fd ["_law_script"] (spLaw K tb) := by
  refine mk_ofC F scLaw (fun vs H Q E h => ?_) (fun cdv A outer s H vs Q E hfc hg hr h => ?_)
  · obtain ⟨a, ns, rfl, _⟩ := h
    rfl
  · obtain ⟨a, ns, rfl, ha, hn, hT, q⟩ := h
    refine ⟨_, PSs.nox (pss_cons (ps_set (i := 1) scLaw.nd rfl (Or.inl rfl) (pe_call GP (hr.mono (by decide)) (by rfl) gP kP bP .nil pass0 (pa_cons (pv 0) pa_nil)))
      (pss_cons (ps_set (i := 2) scLaw.nd rfl (Or.inr rfl) (pe_make mkM GM (hr.mono (by decide)) (by rfl) gM bM .nil pass0 (pa_cons pe_int (pa_cons (pe_lst (pa_cons (pe_tup (pa_cons pe_int (pa_cons pe_int pa_nil))) (pa_cons (pe_tup (pa_cons pe_int (pa_cons pe_int pa_nil))) pa_nil))) pa_nil))))
      (pss_cons (ps_set (i := 3) scLaw.nd rfl (Or.inr rfl) (pe_call GK (hr.mono (by decide)) (by rfl) gK kK bK .nil pass0 (pa_cons (pv 1) (pa_cons (pe_lst (pa_cons (pe_un un_neg pe_int) (pa_cons pe_int (pa_cons pe_non (pa_cons pe_bl (pa_cons pe_str (pa_cons (pe_tup (pa_cons pe_int pa_nil)) pa_nil))))))) pa_nil))))
      (pss_cons (ps_set (i := 4) scLaw.nd rfl (Or.inr rfl) (pe_call GK (hr.mono (by decide)) (by rfl) gK kK bK .nil pass0 (pa_cons (pv 1) (pa_cons (pe_lst (pa_cons pe_non (pa_cons pe_int (pa_cons (pe_tup (pa_cons pe_int pa_nil)) (pa_cons (pe_tup (pa_cons pe_int (pa_cons pe_int (pa_cons pe_int pa_nil)))) (pa_cons (pe_tup (pa_cons pe_int (pa_cons pe_int pa_nil))) (pa_cons (pe_tup (pa_cons pe_bl (pa_cons pe_int pa_nil))) (pa_cons pe_str (pa_cons (pe_tup (pa_cons pe_int (pa_cons pe_non pa_nil))) pa_nil))))))))) pa_nil))))
      (pss_cons (ps_set (i := 5) scLaw.nd rfl (Or.inr rfl) (pe_call GK (hr.mono (by decide)) (by rfl) gK kK bK .nil pass0 (pa_cons (pv 1) (pa_cons (pe_lst (pa_cons pe_non (pa_cons pe_int (pa_cons (pe_tup (pa_cons pe_int pa_nil)) (pa_cons (pe_tup (pa_cons pe_int (pa_cons pe_int (pa_cons pe_int pa_nil)))) (pa_cons (pe_tup (pa_cons pe_int (pa_cons pe_int pa_nil))) (pa_cons (pe_tup (pa_cons pe_int (pa_cons (pe_un un_neg pe_int) pa_nil))) (pa_cons (pe_tup (pa_cons pe_int (pa_cons pe_bl pa_nil))) (pa_cons pe_str (pa_cons (pe_tup (pa_cons pe_int (pa_cons pe_non pa_nil))) pa_nil)))))))))) pa_nil))))
      (C8.pss_cut (ps_set (i := 6) scLaw.nd rfl (Or.inr rfl) (pe_call GK (hr.mono (by decide)) (by rfl) gK kK bK .nil pass0 (pa_cons (pv 1) (pa_cons (pe_lst (pa_cons (pe_un un_neg pe_int) (pa_cons pe_int (pa_cons pe_non (pa_cons pe_bl (pa_cons pe_str (pa_cons (pe_tup (pa_cons pe_int pa_nil)) pa_nil))))))) pa_nil))))
      (pss_cons (ps_if (pt_cmpR (op_neD hr.units) (pe_why (k := 4) FW gW T.z.why hg (hr.mono (by decide)) TB (hcv cdv hfc) rfl (by rfl) (lamS_by (sc := defScope sLaw) (by decide +kernel)) (by rfl) (by intros; rfl) fun A outer s H E f c2 hr2 => pe_make mkN GN (hr2.mono (by decide)) (by rfl) gN bN .nil (passes_call (takes_of rfl rfl rfl rfl) fun _ _ _ _ h => h) (pa_cons (pv 2) (pa_cons (pv 3) (pa_cons (pv 4) (pa_cons (pv 5) (pa_cons (pv 6) pa_nil)))))) (pe_tup (pa_cons pe_str (pa_cons pe_str (pa_cons (pe_callB (Gv.call_reprV hg hr) (by rfl) rep (by decide +kernel) (pa_cons (pv 3) pa_nil)) pa_nil)))) (nomark _))
        (pss_one (ps_ret pe_bl))
        pss_nil)
      (pss_cons (ps_if (pt_cmpR (op_neD hr.units) (pe_why (k := 4) FW gW T.z.why hg (hr.mono (by decide)) TB (hcv cdv hfc) rfl (by rfl) (lamS_by (sc := defScope sLaw) (by decide +kernel)) (by rfl) (by intros; rfl) fun A outer s H E f c2 hr2 => pe_make mkN GN (hr2.mono (by decide)) (by rfl) gN bN .nil (passes_call (takes_of rfl rfl rfl rfl) fun _ _ _ _ h => h) (pa_cons (pv 2) (pa_cons pe_int (pa_cons (pv 4) (pa_cons (pv 5) (pa_cons (pv 6) pa_nil)))))) (pe_tup (pa_cons pe_str (pa_cons (pe_callB (Gv.call_reprV hg hr) (by rfl) rep (by decide +kernel) (pa_cons (pv 4) pa_nil)) pa_nil))) (nomark _))
        (pss_one (ps_ret pe_bl))
        pss_nil)
      (pss_cons (ps_if (pt_cmpR (op_neD hr.units) (pe_why (k := 4) FW gW T.z.why hg (hr.mono (by decide)) TB (hcv cdv hfc) rfl (by rfl) (lamS_by (sc := defScope sLaw) (by decide +kernel)) (by rfl) (by intros; rfl) fun A outer s H E f c2 hr2 => pe_make mkN GN (hr2.mono (by decide)) (by rfl) gN bN .nil (passes_call (takes_of rfl rfl rfl rfl) fun _ _ _ _ h => h) (pa_cons (pv 2) (pa_cons pe_int (pa_cons (pe_tup (pa_cons pe_int (pa_cons pe_int pa_nil))) (pa_cons (pv 5) (pa_cons (pv 6) pa_nil)))))) (pe_tup (pa_cons pe_str (pa_cons (pe_callB (Gv.call_reprV hg hr) (by rfl) rep (by decide +kernel) (pa_cons (pv 5) pa_nil)) pa_nil))) (nomark _))
        (pss_one (ps_ret pe_bl))
        pss_nil)
      (pss_cons (ps_if (pt_cmpR (op_neD hr.units) (pe_why (k := 4) FW gW T.z.why hg (hr.mono (by decide)) TB (hcv cdv hfc) rfl (by rfl) (lamS_by (sc := defScope sLaw) (by decide +kernel)) (by rfl) (by intros; rfl) fun A outer s H E f c2 hr2 => pe_make mkN GN (hr2.mono (by decide)) (by rfl) gN bN .nil (passes_call (takes_of rfl rfl rfl rfl) fun _ _ _ _ h => h) (pa_cons (pv 2) (pa_cons pe_int (pa_cons (pe_tup (pa_cons pe_int (pa_cons pe_int pa_nil))) (pa_cons (pe_tup (pa_cons pe_int (pa_cons pe_int pa_nil))) (pa_cons (pv 6) pa_nil)))))) (pe_tup (pa_cons pe_str (pa_cons pe_str (pa_cons (pe_callB (Gv.call_reprV hg hr) (by rfl) rep (by decide +kernel) (pa_cons (pv 6) pa_nil)) pa_nil)))) (nomark _))
        (pss_one (ps_ret pe_bl))
        pss_nil)
      (pss_cons (ps_par (i := 7) (j := 8) rfl scLaw.nd rfl rfl (by decide) rfl rfl (pa_cons (pe_lst (pa_cons (pe_call GD (hr.mono (by decide)) (by rfl) gD kD bD .nil pass0 (pa_cons (pv 1) (pa_cons pe_int pa_nil))) (pa_cons pe_int pa_nil))) (pa_cons (pe_lst (pa_cons (pe_call GD (hr.mono (by decide)) (by rfl) gD kD bD .nil pass0 (pa_cons (pv 1) (pa_cons pe_int pa_nil))) (pa_cons pe_int pa_nil))) pa_nil)) (by rfl))
      (pss_cons (ps_set (i := 9) scLaw.nd rfl (Or.inl rfl) (pe_tup (pa_cons (pe_callTy (T := "tuple") (r := rTupOf K) (by exact call_tuple_of) (by rfl) T.z.gr.ki.tuple (by decide +kernel) (pa_cons (pv 7) pa_nil)) (pa_cons (pe_callTy (T := "tuple") (r := rTupOf K) (by exact call_tuple_of) (by rfl) T.z.gr.ki.tuple (by decide +kernel) (pa_cons (pv 8) pa_nil)) pa_nil))))
      (C8.pss_cut (ps_set (i := 10) scLaw.nd rfl (Or.inr rfl) (pe_make mkN GN (hr.mono (by decide)) (by rfl) gN bN .nil passF (pa_cons (pv 2) (pa_cons pe_int (pa_cons (pv 7) (pa_cons (pv 8) (pa_cons pe_int pa_nil)))))))
      (C8.pss_cut (ps_asg (pe_tup (pa_cons pe_int (pa_cons pe_int pa_nil))) (pg_tup rfl (pgs_cons (pg_sub (pv 7) pe_int set_list) (pgs_cons (pg_sub (pv 8) pe_int set_list) pgs_nil))))
      (pss_cons (ps_if (PW.pt (pw_or (pt_cmpR (op_neD hr.units) (pe_tup (pa_cons (pe_fld (pv 10) rfl) (pa_cons (pe_fld (pv 10) rfl) pa_nil))) (pv 9) (nomark _)) (pw_or (pt_cmpR (op_neD hr.units) (pe_tup (pa_cons (pe_fld (pv 10) rfl) (pa_cons (pe_fld (pv 10) rfl) pa_nil))) (pe_tup (pa_cons pe_int (pa_cons pe_int pa_nil))) (nomark _)) (pw_or1 (pt_not (pt_cmpR (op_ownX (K := K) rfl GE (hr.mono (by decide)) T.eqG T.fnG bE pass0) (pe_fld (pv 10) rfl) (pv 2) (nomark _)))))))
        (pss_one (ps_ret pe_bl))
        pss_nil)
      (pss_cons (ps_if (PW.pt (pw_or (pt_not (pt_cmpR (op_ownX (K := K) rfl GQ (hr.mono (by decide)) T.eqM T.fnM bQ pass0) (pv 10) (pe_make mkN GN (hr.mono (by decide)) (by rfl) gN bN .nil passF (pa_cons (pe_make mkM GM (hr.mono (by decide)) (by rfl) gM bM .nil pass0 (pa_cons pe_int (pa_cons (pe_lst (pa_cons (pe_lst (pa_cons pe_int (pa_cons pe_int pa_nil))) (pa_cons (pe_lst (pa_cons pe_int (pa_cons pe_int pa_nil))) pa_nil))) pa_nil))) (pa_cons pe_int (pa_cons (pe_ix (r := L2.rIxT K) (by exact ix_tup) (pv 9) pe_int (fun _ _ => rfl)) (pa_cons (pe_ix (r := L2.rIxT K) (by exact ix_tup) (pv 9) pe_int (fun _ _ => rfl)) (pa_cons pe_int pa_nil)))))) (nomark _))) (pw_or1 (pt_cmpR (op_ownX (K := K) rfl GQ (hr.mono (by decide)) T.eqM T.fnM bQ pass0) (pv 10) (pv 2) (nomark _)))))
        (pss_one (ps_ret pe_bl))
        pss_nil)
      (pss_cons (ps_set (i := 11) scLaw.nd rfl (Or.inl rfl) (pe_lst (pa_cons (pe_make mkN GN (hr.mono (by decide)) (by rfl) gN bN .nil passF (pa_cons (pv 2) (pa_cons pe_int (pa_cons (pe_ix (r := L2.rIxT K) (by exact ix_tup) (pv 9) pe_int (fun _ _ => rfl)) (pa_cons (pe_ix (r := L2.rIxT K) (by exact ix_tup) (pv 9) pe_int (fun _ _ => rfl)) (pa_cons pe_int pa_nil)))))) (pa_cons (pe_make mkN GN (hr.mono (by decide)) (by rfl) gN bN .nil passF (pa_cons (pv 2) (pa_cons pe_int (pa_cons (pe_op op_catA (pe_slice sl_tupA (pe_ix (r := L2.rIxT K) (by exact ix_tup) (pv 9) pe_int (fun _ _ => rfl)) po_none (po_some pe_int)) (pe_tup (pa_cons pe_int pa_nil))) (pa_cons (pe_ix (r := L2.rIxT K) (by exact ix_tup) (pv 9) pe_int (fun _ _ => rfl)) (pa_cons pe_int pa_nil)))))) pa_nil))))
      (pss_cons (ps_expr (pe_bm PySem.F.plainAttrs_list PySem.F.slot_list_append PySem.F.type_list_append mt_append (pv 11) (pa_cons (pe_make mkN GN (hr.mono (by decide)) (by rfl) gN bN .nil passF (pa_cons (pv 2) (pa_cons pe_int (pa_cons (pe_ix (r := L2.rIxT K) (by exact ix_tup) (pv 9) pe_int (fun _ _ => rfl)) (pa_cons (pe_op op_catA (pe_slice sl_tupA (pe_ix (r := L2.rIxT K) (by exact ix_tup) (pv 9) pe_int (fun _ _ => rfl)) po_none (po_some pe_int)) (pe_tup (pa_cons pe_int pa_nil))) (pa_cons pe_int pa_nil)))))) pa_nil)))
      (C8.pss_cut (ps_expr (pe_bm PySem.F.plainAttrs_list PySem.F.slot_list_append PySem.F.type_list_append mt_append (pv 11) (pa_cons (pe_make mkN GN (hr.mono (by decide)) (by rfl) gN bN .nil passF (pa_cons (pe_make mkM GM (hr.mono (by decide)) (by rfl) gM bM .nil pass0 (pa_cons pe_int (pa_cons (pe_lst (pa_cons (pe_tup (pa_cons pe_int (pa_cons pe_int pa_nil))) (pa_cons (pe_tup (pa_cons pe_int (pa_cons pe_int pa_nil))) pa_nil))) pa_nil))) (pa_cons pe_int (pa_cons (pe_ix (r := L2.rIxT K) (by exact ix_tup) (pv 9) pe_int (fun _ _ => rfl)) (pa_cons (pe_ix (r := L2.rIxT K) (by exact ix_tup) (pv 9) pe_int (fun _ _ => rfl)) (pa_cons pe_int pa_nil)))))) pa_nil)))
      (pss_cons (ps_if (pt_cmpR (op_neD hr.units) (pe_lc (own := [("_law_other", 12)]) (g := gName 12) rfl scLaw.nd (pi_list (pv 11)) (blkOk_by (N := nLaw) (sc := defScope sLaw) (by decide +kernel)) (fun _ _ _ _ _ => pg_name (i := 12) scLaw.nd rfl (Or.inl rfl)) (fun _ _ _ _ _ => pts_one (pt_cmpR (op_ownX (K := K) rfl GQ (hr.mono (by decide)) T.eqM T.fnM bQ pass0) (pv 10) (pv 12) (nomark _))) (fun _ _ _ _ _ => pe_int)) (pe_lst pa_nil) (nomark _))
        (pss_one (ps_ret pe_bl))
        pss_nil)
      (C8.pss_cut (ps_set (i := 13) scLaw.nd rfl (Or.inl rfl) (pe_make mkU GU (hr.mono (by decide)) (by rfl) gU bU .nil pass0 (pa_cons (pv 2) (pa_cons (pe_lst (pa_cons (pe_tup (pa_cons pe_int pa_nil)) pa_nil)) (pa_cons (pe_lst (pa_cons pe_int pa_nil)) pa_nil)))))
      (pss_one (ps_ret (pe_and (pe_cmpR (op_ownX (K := K) rfl GE (hr.mono (by decide)) T.eqG T.fnG bE pass0) (pe_fld (pv 13) rfl) (pv 2) (nomark _)) (pe_and (pe_cmpR (op_eqD hr.units) (pe_fld (pv 13) rfl) (pe_tup (pa_cons (pe_tup (pa_cons pe_int pa_nil)) pa_nil)) (nomark _)) (pe_one (pe_cmpR (op_eqD hr.units) (pe_fld (pv 13) rfl) (pe_tup (pa_cons pe_int pa_nil)) (nomark _)))))))))))))))))))))))))))), ?_⟩
    refine ⟨_, rfl, a, ns, rfl, ha, hn, fun p c0 H1 np s1 hp1 => ?_⟩
    have hT1 := s1 _ _ hT
    refine ⟨len2, fun t1 n1 => ⟨len2, fun t2 n2 => ⟨len2, fun l nl => ?_⟩⟩⟩
    have S1 := same_new (u := .tup [.int 4, .int 2]) n1
    have S2 := same_new (u := .tup [.int 9, .int 7]) n2
    have S3 := same_new (u := .lst [.ref t1, .ref t2]) nl
    refine fun x dx nx ndx ne => ?_
    have S4 := same_ins (C := C) nx ndx ne
    refine ⟨x, dx, 3, .ref l, GS, rfl, upd_same, (by decide), ⟨l, _, rfl, .inl (.inl (.inl (S4 _ _ upd_same))), .cons ⟨t1, rfl, .inr (.inl (.inl (S4 _ _ (S3 _ _ (S2 _ _ upd_same)))))⟩ (.cons ⟨t2, rfl, .inr (.inl (.inl (S4 _ _ (S3 _ _ upd_same))))⟩ .nil)⟩, (by decide), (by decide +kernel), fun H2 keep gr => ⟨rfl, ?_⟩⟩
    have s2 : Same H1 H2 := fun b o e => by
      have e3 := S3 _ _ (S2 _ _ (S1 _ _ e))
      exact keep _ _ (S4 _ _ e3) (ne_of_none e3 nx)
    have hT2 := s2 _ _ hT1
    have hp2 := hp1.same s2
    clear keep S4 S3 S2 S1 nx ndx ne nl n2 n1
    refine ⟨_, rfl, ?_⟩
    refine ⟨_, rfl, len1, fun t1 n1 => ⟨len6, fun l nl => ?_⟩⟩
    have A1 := same_new (u := .tup [.int 1]) n1
    have L := same_new (u := .lst [.int (-1), .int 4, .non, .bl true, .str "1", .ref t1]) nl
    have pb := hp2.same (A1.trans L)
    refine ⟨p, c0, l, _, _, rfl, pb, (by decide), ((hp2.same A1).free nl).1, .inl (.inl upd_same), (by show 0 < 6; decide), (by show 6 ≤ 1000; decide), fun v3 i3 H3 g3 hp3 b3 => ?_⟩
    have f3 := Firm.pen b3 pb
    have hT3 := b3 _ _ (L _ _ (A1 _ _ hT2)) (pen_tbl pb (L _ _ (A1 _ _ hT2)))
    have o3 := (odd_pick (K := K) (top := 3) g3 (by decide) (L _ _ upd_same) (by decide +kernel) (by decide +kernel) (by decide +kernel)).firm f3
    have gr3 := gr.firm ((Firm.of (A1.trans L)).trans f3)
    clear f3 b3 pb L A1 nl n1 g3
    refine ⟨_, rfl, ?_⟩
    refine ⟨len1, fun t1 n1 => ⟨len3, fun t2 n2 => ⟨len2, fun t3 n3 => ⟨len2, fun t4 n4 => ⟨len2, fun t5 n5 => ⟨len8, fun l nl => ?_⟩⟩⟩⟩⟩⟩
    have A1 := same_new (u := .tup [.int 0]) n1
    have A2 := same_new (u := .tup [.int 0, .int 1, .int 1]) n2
    have A3 := same_new (u := .tup [.int 0, .int 2]) n3
    have A4 := same_new (u := .tup [.bl true, .int 0]) n4
    have A5 := same_new (u := .tup [.int 0, .non]) n5
    have L := same_new (u := .lst [.non, .int 5, .ref t1, .ref t2, .ref t3, .ref t4, .str "01", .ref t5]) nl
    have Z5 := A5.trans L
    have Z4 := A4.trans Z5
    have Z3 := A3.trans Z4
    have Z2 := A2.trans Z3
    have Z1 := A1.trans Z2
    have pb := hp3.same Z1
    refine ⟨p, c0, l, _, _, rfl, pb, (by decide), ((hp3.same (A1.trans (A2.trans (A3.trans (A4.trans A5))))).free nl).1, .inl (.inl upd_same), (by show 0 < 8; decide), (by show 8 ≤ 1000; decide), fun v4 i4 H4 g4 hp4 b4 => ?_⟩
    have f4 := Firm.pen b4 pb
    have hT4 := b4 _ _ (Z1 _ _ hT3) (pen_tbl pb (Z1 _ _ hT3))
    have o4 := (resets_pick (K := K) g4 (Z2 _ _ upd_same) (Z3 _ _ upd_same) (Z4 _ _ upd_same) (Z5 _ _ upd_same) (L _ _ upd_same)).firm f4
    have fx := (Firm.of Z1).trans f4
    have gr4 := gr3.firm fx
    have o3 := o3.firm fx
    clear fx f4 b4 pb Z1 Z2 Z3 Z4 Z5 L A1 A2 A3 A4 A5 nl n1 n2 n3 n4 n5 g4
    refine ⟨_, rfl, ?_⟩
    refine ⟨len1, fun t1 n1 => ⟨len3, fun t2 n2 => ⟨len2, fun t3 n3 => ⟨_, rfl, len2, fun t4 n4 => ⟨len2, fun t5 n5 => ⟨len2, fun t6 n6 => ⟨len9, fun l nl => ?_⟩⟩⟩⟩⟩⟩⟩
    have A1 := same_new (u := .tup [.int 8]) n1
    have A2 := same_new (u := .tup [.int 8, .int 10, .int 2]) n2
    have A3 := same_new (u := .tup [.int 8, .int 12]) n3
    have A4 := same_new (u := .tup [.int 8, .int (-1)]) n4
    have A5 := same_new (u := .tup [.int 8, .bl true]) n5
    have A6 := same_new (u := .tup [.int 8, .non]) n6
    have L := same_new (u := .lst [.non, .int 5, .ref t1, .ref t2, .ref t3, .ref t4, .ref t5, .str "ab", .ref t6]) nl
    have Z6 := A6.trans L
    have Z5 := A5.trans Z6
    have Z4 := A4.trans Z5
    have Z3 := A3.trans Z4
    have Z2 := A2.trans Z3
    have Z1 := A1.trans Z2
    have pb := hp4.same Z1
    refine ⟨p, c0, l, _, _, rfl, pb, (by decide), ((hp4.same (A1.trans (A2.trans (A3.trans (A4.trans (A5.trans A6)))))).free nl).1, .inl (.inl upd_same), (by show 0 < 9; decide), (by show 9 ≤ 1000; decide), fun v5 i5 H5 g5 hp5 b5 => ?_⟩
    have f5 := Firm.pen b5 pb
    have hT5 := b5 _ _ (Z1 _ _ hT4) (pen_tbl pb (Z1 _ _ hT4))
    have o5 := (nexts_pick (K := K) g5 (Z2 _ _ upd_same) (Z3 _ _ upd_same) (Z4 _ _ upd_same) (Z5 _ _ upd_same) (Z6 _ _ upd_same) (L _ _ upd_same)).firm f5
    have fx := (Firm.of Z1).trans f5
    have gr5 := gr4.firm fx
    have o3 := o3.firm fx
    have o4 := o4.firm fx
    clear fx f5 b5 pb Z1 Z2 Z3 Z4 Z5 Z6 L A1 A2 A3 A4 A5 A6 nl n1 n2 n3 n4 n5 n6 g5
    refine ⟨fun σ H' => ∃ v6, σ = [some (.ref a), some (.ref p), some (.ref x), some v3, some v4, some v5, some v6, none, none, none, none, none, none, none] ∧ H' tb = some (.tbl #[]) ∧ Fa K C H' p c0 x v3 v4 v5 v6, ?_, ?_⟩
    · refine ⟨_, rfl, ?_⟩
      refine ⟨_, rfl, len1, fun t1 n1 => ⟨len6, fun l nl => ?_⟩⟩
      have A1 := same_new (u := .tup [.int 2]) n1
      have L := same_new (u := .lst [.int (-1), .int 12, .non, .bl true, .str "2", .ref t1]) nl
      have pb := hp5.same (A1.trans L)
      refine ⟨p, c0, l, _, _, rfl, pb, (by decide), ((hp5.same A1).free nl).1, .inl (.inl upd_same), (by show 0 < 6; decide), (by show 6 ≤ 1000; decide), fun v6 i6 H6 g6 hp6 b6 => ?_⟩
      have f6 := Firm.pen b6 pb
      have fx := (Firm.of (A1.trans L)).trans f6
      have hT6 := b6 _ _ (L _ _ (A1 _ _ hT5)) (pen_tbl pb (L _ _ (A1 _ _ hT5)))
      exact ⟨v6, rfl, hT6, ⟨_, by decide, hp6⟩, gr5.firm fx, o3.firm fx, o4.firm fx, o5.firm fx, (odd_pick (K := K) (top := 11) g6 (by decide) (L _ _ upd_same) (by decide +kernel) (by decide +kernel) (by decide +kernel)).firm f6⟩
    rintro σ H6 ⟨v6, rfl, hT6, F6⟩
    clear hp5 hp4 hp3 hp2 hp1 hT5 hT4 hT3 hT2 hT1 o5 o4 o3 gr5 gr4 gr3 gr s2 s1 np hT ha
    have T6 : Tabs [(tb, lamQ)] H6 := fun q hq => by rw [List.mem_singleton.mp hq]; exact TabS.nil hT6
    refine ⟨T6, fun H7 e7 T7 => ?_⟩
    have F7 := F6.ext e7
    clear F6 T6 hT6
    have ⟨d3, va, sh, be⟩ := F7.odd
    refine ⟨_, rfl, _, rfl, _, rfl, _, rfl, _, rfl, fun z dz nz ndz nez => ?_⟩
    have S := same_ins (C := M) nz ndz nez
    have fS := Firm.of S
    refine ⟨z, dz, x, 3, GS, v3, v4, v5, v6, rfl, upd_same, F7.gr.firm fS, .inl ⟨d3, (va.firm fS).dp, be, num_of (va.firm fS) sh fun H8 t s8 e8 => ?_⟩⟩
    have va8 := (va.firm fS).firm (Firm.of s8)
    have tl8 := tells_of va8 sh
    refine ⟨_, rfl, v3, d3, rfl, tl8.dp, tl8.show_, tl8.dict, tl8.deep, tl8.long, len3, fun t2 n2 => ?_⟩
    have s9 := same_new (u := .tup [.str "number", .str "inputs", .str d3.shown]) n2
    have hs := three_sh (a := "number") (b := "inputs") (c := d3.shown) (by decide +kernel) (by decide +kernel) (sh_str sh)
    refine ⟨_, _, strs3 (s9 _ _ e8), strs3 upd_same, hs, hs, _, rfl, goF (by rw [three_eqv]; rfl) ?_⟩
    have X := S.trans (s8.trans s9)
    have F := F7.ext (ExtN.of X)
    have T := T7.ext X
    clear X hs s9 n2 tl8 va8 e8 s8 fS S nez ndz nz be sh va F7 T7
    generalize upd H8 t2 _ = Ha at F T ⊢
    refine ⟨T, fun H7 e7 T7 => ?_⟩
    have F7 := F.ext e7
    clear F T
    have ⟨dd, va, sh, lz, be⟩ := F7.rs
    refine ⟨_, rfl, _, rfl, _, rfl, _, rfl, fun z dz nz ndz nez => ?_⟩
    have S := same_ins (C := M) nz ndz nez
    have fS := Firm.of S
    refine ⟨z, dz, x, 3, GS, _, v4, v5, v6, rfl, upd_same, F7.gr.firm fS, .inr ⟨1, rfl, (by decide), (by decide), dd, (va.firm fS).dp, lz, .inl ⟨be, row_of (va.firm fS) sh fun H8 t s8 e8 => ?_⟩⟩⟩
    have va8 := (va.firm fS).firm (Firm.of s8)
    have tl8 := tells_of va8 sh
    refine ⟨_, rfl, v4, dd, rfl, tl8.dp, tl8.show_, tl8.dict, tl8.deep, tl8.long, len2, fun t2 n2 => ?_⟩
    have s9 := same_new (u := .tup [.str "row", .str dd.shown]) n2
    have hs := two_sh (a := "row") (b := dd.shown) (by decide +kernel) (sh_str sh)
    refine ⟨_, _, strs2 (s9 _ _ e8), strs2 upd_same, hs, hs, _, rfl, goF (by rw [two_eqv]; rfl) ?_⟩
    have X := S.trans (s8.trans s9)
    have F := F7.ext (ExtN.of X)
    have T := T7.ext X
    clear X hs s9 n2 tl8 va8 e8 s8 fS S nez ndz nz be lz sh va F7 T7
    generalize upd H8 t2 _ = Hb at F T ⊢
    refine ⟨T, fun H7 e7 T7 => ?_⟩
    have F7 := F.ext e7
    clear F T
    have ⟨dd, va, sh, lz, be⟩ := F7.nx
    refine ⟨_, rfl, len2, fun t3 n3 => ⟨_, rfl, _, rfl, fun z dz nz ndz nez => ?_⟩⟩
    have S3 := same_new (u := .tup [.int 0, .int 1]) n3
    have S4 := same_ins (C := M) nz ndz nez
    have S := S3.trans S4
    have fS := Firm.of S
    refine ⟨z, dz, x, 3, GS, _, _, v5, v6, rfl, upd_same, F7.gr.firm fS, .inr ⟨1, rfl, (by decide), (by decide), tD [0, 1], .tup (.inl (.inl (S4 _ _ upd_same))) (ints_dp [0, 1]), (by decide), .inr ⟨(by decide +kernel), dd, (va.firm fS).dp, lz, .inl ⟨be, row_of (va.firm fS) sh fun H8 t s8 e8 => ?_⟩⟩⟩⟩
    have va8 := (va.firm fS).firm (Firm.of s8)
    have tl8 := tells_of va8 sh
    refine ⟨_, rfl, v5, dd, rfl, tl8.dp, tl8.show_, tl8.dict, tl8.deep, tl8.long, len2, fun t2 n2 => ?_⟩
    have s9 := same_new (u := .tup [.str "row", .str dd.shown]) n2
    have hs := two_sh (a := "row") (b := dd.shown) (by decide +kernel) (sh_str sh)
    refine ⟨_, _, strs2 (s9 _ _ e8), strs2 upd_same, hs, hs, _, rfl, goF (by rw [two_eqv]; rfl) ?_⟩
    have X := S.trans (s8.trans s9)
    have F := F7.ext (ExtN.of X)
    have T := T7.ext X
    clear X hs s9 n2 tl8 va8 e8 s8 fS S S3 S4 nez ndz nz n3 be lz sh va F7 T7
    generalize upd H8 t2 _ = Hc at F T ⊢
    refine ⟨T, fun H7 e7 T7 => ?_⟩
    have F7 := F.ext e7
    clear F T
    have ⟨dd, va, sh, be⟩ := F7.wi
    refine ⟨_, rfl, len2, fun t3 n3 => ⟨len2, fun t4 n4 => ⟨_, rfl, fun z dz nz ndz nez => ?_⟩⟩⟩
    have S3 := same_new (u := .tup [.int 0, .int 1]) n3
    have S4 := same_new (u := .tup [.int 8, .int 10]) n4
    have S5 := same_ins (C := M) nz ndz nez
    have S := S3.trans (S4.trans S5)
    have fS := Firm.of S
    refine ⟨z, dz, x, 3, GS, _, _, _, v6, rfl, upd_same, F7.gr.firm fS, .inr ⟨1, rfl, (by decide), (by decide), tD [0, 1], .tup (.inl (.inl (S5 _ _ (S4 _ _ upd_same)))) (ints_dp [0, 1]), (by decide), .inr ⟨(by decide +kernel), tD [8, 10], .tup (.inl (.inl (S5 _ _ upd_same))) (ints_dp [8, 10]), (by decide), .inr ⟨(by decide +kernel), .inl ⟨dd, (va.firm fS).dp, be, num_of (va.firm fS) sh fun H8 t s8 e8 => ?_⟩⟩⟩⟩⟩
    have va8 := (va.firm fS).firm (Firm.of s8)
    have tl8 := tells_of va8 sh
    refine ⟨_, rfl, v6, dd, rfl, tl8.dp, tl8.show_, tl8.dict, tl8.deep, tl8.long, len3, fun t2 n2 => ?_⟩
    have s9 := same_new (u := .tup [.str "number", .str "wish", .str dd.shown]) n2
    have hs := three_sh (a := "number") (b := "wish") (c := dd.shown) (by decide +kernel) (by decide +kernel) (sh_str sh)
    refine ⟨_, _, strs3 (s9 _ _ e8), strs3 upd_same, hs, hs, _, rfl, goF (by rw [three_eqv]; rfl) ?_⟩
    have X := S.trans (s8.trans s9)
    have F := F7.ext (ExtN.of X)
    clear X hs s9 n2 tl8 va8 e8 s8 fS S S3 S4 S5 nez ndz nz n3 n4 be sh va F7 T7
    generalize upd H8 t2 _ = Hd at F ⊢
    obtain ⟨m, hm, hp⟩ := F.pen
    have gr := F.gr
    clear F
    refine ⟨_, rfl, p, c0, m, 2, rfl, hp, (by omega), (by decide), (by decide), fun d He d0 d2 hpe be => ⟨len2, fun l1 nl1 => ?_⟩⟩
    have fe := Firm.pen be hp
    have L1 := same_new (u := .lst [.int d, .int 1]) nl1
    have hpf := hpe.same L1
    refine ⟨_, rfl, p, c0, m + 1, 12, rfl, hpf, (by omega), (by decide), (by decide), fun e Hf e0 e2 hpg bf => ⟨len2, fun l2 nl2 => ⟨_, _, rfl, ?_⟩⟩⟩
    have ff := Firm.pen bf hpf
    have L2 := same_new (u := .lst [.int e, .int 11]) nl2
    have gr := gr.firm (fe.trans ((Firm.of L1).trans (ff.trans (Firm.of L2))))
    have k1 := bf _ _ (upd_same (H := He) (a := l1) (o := .lst [.int d, .int 1])) (hpe.free nl1).1
    have n12 : l1 ≠ l2 := fun z => by
      rw [← z, k1] at nl2
      cases nl2
    have k1 := L2 _ _ k1
    have k2 := upd_same (H := Hf) (a := l2) (o := .lst [.int e, .int 11])
    clear hp hpe hpf hpg be bf fe ff L1 L2 nl1 nl2
    generalize upd Hf l2 _ = Hg at gr k1 k2 ⊢
    refine ⟨_, rfl, l1, _, rfl, .inl ⟨.inl (.inl k1), fun t1 n1 => ?_⟩⟩
    have A1 := same_new (u := .tup [.int d, .int 1]) n1
    refine ⟨_, rfl, l2, _, rfl, .inl ⟨.inl (.inl (A1 _ _ k2)), fun t2 n2 => ⟨len2, fun du nd => ?_⟩⟩⟩
    have A2 := same_new (u := .tup [.int e, .int 11]) n2
    have A3 := same_new (u := .tup [.ref t1, .ref t2]) nd
    have A := A1.trans (A2.trans A3)
    refine ⟨fun σ H' => ∃ q, σ = [some (.ref a), some (.ref p), some (.ref x), some v3, some v4, some v5, some v6, some (.ref l1), some (.ref l2), some (.ref du), some (.ref q), none, none, none] ∧ Fc K C M H' x q l1 l2 du t1 t2 d e, ?_, ?_⟩
    · refine ⟨_, rfl, _, rfl, _, rfl, fun z dz nz ndz nez => ?_⟩
      have S := same_ins (C := M) nz ndz nez
      have B := A.trans S
      refine ⟨z, dz, x, 3, GS, _, _, _, _, rfl, upd_same, gr.firm (Firm.of B), .inr ⟨1, rfl, (by decide), (by decide), .list ([d, 1].map .int), .lst (.inl (.inl (B _ _ k1))) (ints_dp [d, 1]), (by show 2 ≤ 1000; decide), .inr ⟨rowB_lp d0 (by omega) (by decide) (by decide),
        .list ([e, 11].map .int), .lst (.inl (.inl (B _ _ k2))) (ints_dp [e, 11]), (by show 2 ≤ 1000; decide), .inr ⟨rowB_lp e0 (by show e ≤ 11; omega) (by decide) (by decide), .inr ⟨11, [d, 1], [e, 11], rfl, (by decide), (by decide), rowI_lst (ns := [d, 1]) (B _ _ k1), rowI_lst (ns := [e, 11]) (B _ _ k2), fun H' keep ma => ⟨rfl, ?_⟩⟩⟩⟩⟩⟩
      have s : Same (upd (upd (upd Hg t1 (.tup [.int d, .int 1])) t2 (.tup [.int e, .int 11])) du (.tup [.ref t1, .ref t2])) H' := fun b o w => keep _ _ (S _ _ w) (ne_of_none w nz)
      exact ⟨z, rfl, gr.firm (Firm.of (A.trans s)), ma, s _ _ (A _ _ k1), s _ _ (A _ _ k2), n12, s _ _ upd_same, s _ _ (A3 _ _ (A2 _ _ upd_same)), s _ _ (A3 _ _ upd_same), d0, by omega, e0, by omega⟩
    rintro σ Hh ⟨q1, rfl, F⟩
    clear A A1 A2 A3 n1 n2 nd k1 k2 gr
    refine ⟨fun σ H' => σ = [some (.ref a), some (.ref p), some (.ref x), some v3, some v4, some v5, some v6, some (.ref l1), some (.ref l2), some (.ref du), some (.ref q1), none, none, none] ∧ Fd K C M H' x q1 du t1 t2 d e, ?_, ?_⟩
    · refine ⟨len2, fun tt nt => ⟨tt, _, rfl, .inl (.inl upd_same), rfl, ?_⟩⟩
      have B := same_new (u := .tup [.int 0, .int 0]) nt
      have h1 := B _ _ F.h1
      have h2 := B _ _ F.h2
      refine ⟨_, _, rfl, _, rfl, l1, _, 1, 1, rfl, rfl, h1, rfl, _, _, rfl, _, rfl, l2, _, 1, 1, rfl, rfl, (by rw [upd_ne (Ne.symm F.ne)]; exact h2), rfl, rfl, rfl, ?_⟩
      have f := (Firm.of B).trans ((Firm.upd (o := .lst [.int d, .int 0]) h1 rfl).trans (Firm.upd (a := l2) (u := .lst [.int e, .int 11]) (o := .lst [.int e, .int 0]) (by rw [upd_ne (Ne.symm F.ne)]; exact h2) rfl))
      exact ⟨F.gr.firm f, F.ma.firm f, f _ _ F.hd rfl, f _ _ F.k1 rfl, f _ _ F.k2 rfl, F.d0, F.d1, F.e0, F.e1⟩
    rintro σ Hi ⟨rfl, Fi⟩
    clear F
    obtain ⟨dq, fq, rt, nt, m1, m2, m3, m4, m5, m6, m7, m8⟩ := Fi.ma.ex
    refine ⟨_, rfl, q1, M, dq, fq, _, rfl, m1, T.z.cl, T.z.nR, m4, _, rfl, q1, M, dq, fq, _, rfl, m1, T.z.cl, T.z.nN, m5, len2, fun u1 nu1 => ?_⟩
    have B1 := same_new (u := .tup [.ref rt, .ref nt]) nu1
    refine ⟨_, rfl, _, _, two_dp upd_same (seqT_same B1 m7) (seqT_same B1 m8), two_dp (B1 _ _ Fi.hd) (.inl (.inl (B1 _ _ Fi.k1))) (.inl (.inl (B1 _ _ Fi.k2))), due_sh d e, due_sh d e, _, rfl, goF (by rw [self_eq (due_sh d e)]; rfl) ?_⟩
    refine ⟨_, rfl, q1, M, dq, fq, _, rfl, B1 _ _ m1, T.z.cl, T.z.nI, m3, _, rfl, q1, M, dq, fq, _, rfl, B1 _ _ m1, T.z.cl, T.z.nW, m6, len2, fun u2 nu2 => ⟨len2, fun u3 nu3 => ?_⟩⟩
    have B2 := same_new (u := .tup [.int 1, .int 11]) nu2
    have B3 := same_new (u := .tup [.int 1, .int 11]) nu3
    refine ⟨tD [1, 11], tD [1, 11], .tup (.inl (.inl (B3 _ _ upd_same))) (ints_dp [1, 11]), .tup (.inl (.inl upd_same)) (ints_dp [1, 11]), shaped_ints _, shaped_ints _, _, rfl, goF (by rw [self_eq (shaped_ints [1, 11])]; rfl) ?_⟩
    have B := B1.trans (B2.trans B3)
    refine ⟨_, rfl, q1, M, dq, fq, _, rfl, B _ _ m1, T.z.cl, T.z.nG, m2, _, rfl, eqG_use (k := true) (Fi.gr.firm (Firm.of B)) (Fi.gr.firm (Firm.of B)) (by rw [gs_self]; rfl) ⟨_, rfl, goF (by rfl) ?_⟩⟩
    have F := Fi.firm (Firm.of B)
    clear B B3 B2 B1 nu1 nu2 nu3 m1 m2 m3 m4 m5 m6 m7 m8 Fi
    generalize upd (upd (upd Hi u1 _) u2 _) u3 _ = Hj at F ⊢
    refine ⟨_, rfl, len2, fun a1 n1 => ⟨len2, fun a2 n2 => ⟨len2, fun l nl => fun g2 dg ng ndg neg => ?_⟩⟩⟩
    have A1 := same_new (u := .lst [.int 4, .int 2]) n1
    have A2 := same_new (u := .lst [.int 9, .int 7]) n2
    have A3 := same_new (u := .lst [.ref a1, .ref a2]) nl
    have S := same_ins (C := C) ng ndg neg
    refine ⟨g2, dg, 3, .ref l, GS, rfl, upd_same, (by decide), ⟨l, _, rfl, .inl (.inl (.inl (S _ _ upd_same))), .cons ⟨a1, rfl, .inl (.inl (.inl (S _ _ (A3 _ _ (A2 _ _ upd_same)))))⟩ (.cons ⟨a2, rfl, .inl (.inl (.inl (S _ _ (A3 _ _ upd_same))))⟩ .nil)⟩, (by decide), (by decide +kernel), fun Hk keep gr2 => ⟨rfl, ?_⟩⟩
    have B : Same Hj Hk := fun b o w => by
      have e3 := A3 _ _ (A2 _ _ (A1 _ _ w))
      exact keep _ _ (S _ _ e3) (ne_of_none e3 ng)
    have F2 := F.firm (Firm.of B)
    clear keep S A1 A2 A3 n1 n2 nl ng ndg neg B F
    refine ⟨_, rfl, du, _, 0, _, rfl, rfl, .inl (.inl F2.hd), rfl, _, rfl, du, _, 1, _, rfl, rfl, .inl (.inl F2.hd), rfl, fun z dz nz ndz nez => ?_⟩
    refine made (w := 11) nz ndz nez gr2 (by decide) F2.k1 F2.k2 F2.d0 F2.d1 (by decide) (by decide) F2.e0 F2.e1 (by decide) (by decide) (by decide) (by decide) fun Hl sl ma => ?_
    have F := F2.firm (Firm.of sl)
    refine eqM_use (k := true) F.ma F.gr ma (gr2.firm (Firm.of sl)) (same_self d e) ⟨_, rfl, goF (by rfl) ?_⟩
    refine ⟨_, rfl, _, rfl, eqMG_use T.gM F.ma F.gr F.gr ⟨_, rfl, goF (by rfl) ?_⟩⟩
    clear sl ma F2 gr2 nz ndz nez
    have gx := F.gr
    refine ⟨_, rfl, _, rfl, du, _, 0, _, rfl, rfl, .inl (.inl F.hd), rfl, _, rfl, du, _, 1, _, rfl, rfl, .inl (.inl F.hd), rfl, fun z dz nz ndz nez => ?_⟩
    refine made (w := 10) nz ndz nez F.gr (by decide) F.k1 F.k2 F.d0 F.d1 (by decide) (by decide) F.e0 F.e1 (by decide) (by decide) (by decide) (by decide) fun H1 s1 ma1 => ?_
    have F1 := F.firm (Firm.of s1)
    have o1 : Oth K C M H1 d e (.ref z) := ⟨z, x, 3, 1, 10, GS, _, _, rfl, ma1, F1.gr, other_wish d e⟩
    clear ma1 nz ndz nez
    refine ⟨_, rfl, _, rfl, du, _, 0, _, rfl, rfl, .inl (.inl F1.hd), rfl, _, rfl, cut_plus F1.k1 fun H2 r2 s2 h2 => ?_⟩
    have F2 := F1.firm (Firm.of s2)
    refine ⟨_, rfl, du, _, 1, _, rfl, rfl, .inl (.inl F2.hd), rfl, fun y dy ny ndy ney => ?_⟩
    refine made (w := 11) ny ndy ney F2.gr (by decide) h2 F2.k2 F2.d0 F2.d1 (by decide) (by decide) F2.e0 F2.e1 (by decide) (by decide) (by decide) (by decide) fun H3 s3 ma2 => ?_
    have F3 := F2.firm (Firm.of s3)
    have o2 : Oth K C M H3 d e (.ref y) := ⟨y, x, 3, 1, 11, GS, _, _, rfl, ma2, F3.gr, other_rs d e⟩
    refine ⟨len2, fun lo nlo => ?_⟩
    have s4 := same_new (u := .lst [.ref z, .ref y]) nlo
    have F4 := F3.firm (Firm.of s4)
    have o1 := o1.firm (Firm.of (s2.trans (s3.trans s4)))
    have o2 := o2.firm (Firm.of s4)
    have hlo := upd_same (H := H3) (a := lo) (o := .lst [.ref z, .ref y])
    clear s4 s3 s2 s1 ma2 h2 nlo ny ndy ney F F1 F2 F3
    generalize upd H3 lo _ = H4 at F4 o1 o2 hlo ⊢
    refine ⟨_, rfl, .inl ⟨rfl, _, .inl (.inl hlo)⟩, ?_⟩
    refine ⟨_, rfl, _, rfl, du, _, 0, _, rfl, rfl, .inl (.inl F4.hd), rfl, _, rfl, du, _, 1, _, rfl, rfl, .inl (.inl F4.hd), rfl, _, rfl, cut_plus F4.k2 fun H5 r5 s5 h5 => ?_⟩
    have F5 := F4.firm (Firm.of s5)
    refine fun u du' nu ndu neu => ?_
    refine made (w := 11) nu ndu neu F5.gr (by decide) F5.k1 h5 F5.d0 F5.d1 (by decide) (by decide) F5.e0 F5.e1 (by decide) (by decide) (by decide) (by decide) fun H6 s6 ma3 => ?_
    have F6 := F5.firm (Firm.of s6)
    have o3 : Oth K C M H6 d e (.ref u) := ⟨u, x, 3, 1, 11, GS, _, _, rfl, ma3, F6.gr, other_nx d e⟩
    have h6 := s6 _ _ (s5 _ _ hlo)
    refine ⟨lo, _, _, rfl, rfl, h6, (by show 2 < sizeLine; decide), ?_⟩
    have f7 := Firm.upd (o := .lst ([V.ref z, .ref y] ++ [.ref u])) h6 rfl
    have F7 := F6.firm f7
    have o1 := (o1.firm (Firm.of (s5.trans s6))).firm f7
    have o2 := (o2.firm (Firm.of (s5.trans s6))).firm f7
    have o3 := o3.firm f7
    have hlo := upd_same (H := H6) (a := lo) (o := .lst ([V.ref z, .ref y] ++ [.ref u]))
    clear f7 h6 ma3 s5 s6 h5 nu ndu neu F4 F5 F6
    generalize upd H6 lo _ = H7 at F7 o1 o2 o3 hlo ⊢
    refine ⟨fun σ H' => ∃ ms, σ = [some (.ref a), some (.ref p), some (.ref x), some v3, some v4, some v5, some v6, some (.ref l1), some (.ref l2), some (.ref du), some (.ref q1), some (.ref lo), none, none] ∧ Fd K C M H' x q1 du t1 t2 d e ∧ H' lo = some (.lst ms) ∧ ms.length = 4 ∧ ∀ m ∈ ms, Oth K C M H' d e m, ?_, ?_⟩
    · refine ⟨_, rfl, .inl ⟨rfl, _, .inl (.inl hlo)⟩, ?_⟩
      refine ⟨len2, fun a1 n1 => ⟨len2, fun a2 n2 => ⟨len2, fun l nl => fun g3 dg ng ndg neg => ?_⟩⟩⟩
      have A1 := same_new (u := .tup [.int 4, .int 2]) n1
      have A2 := same_new (u := .tup [.int 9, .int 5]) n2
      have A3 := same_new (u := .lst [.ref a1, .ref a2]) nl
      have S := same_ins (C := C) ng ndg neg
      refine ⟨g3, dg, 3, .ref l, GS2, rfl, upd_same, (by decide), ⟨l, _, rfl, .inl (.inl (.inl (S _ _ upd_same))), .cons ⟨a1, rfl, .inr (.inl (.inl (S _ _ (A3 _ _ (A2 _ _ upd_same)))))⟩ (.cons ⟨a2, rfl, .inr (.inl (.inl (S _ _ (A3 _ _ upd_same))))⟩ .nil)⟩, (by decide), (by decide +kernel), fun Hk keep gr3 => ⟨rfl, ?_⟩⟩
      have B : Same H7 Hk := fun b o w => by
        have e3 := A3 _ _ (A2 _ _ (A1 _ _ w))
        exact keep _ _ (S _ _ e3) (ne_of_none e3 ng)
      have F8 := F7.firm (Firm.of B)
      refine ⟨_, rfl, du, _, 0, _, rfl, rfl, .inl (.inl F8.hd), rfl, _, rfl, du, _, 1, _, rfl, rfl, .inl (.inl F8.hd), rfl, fun t dt nt' ndt net => ?_⟩
      refine made (w := 11) nt' ndt net gr3 (by decide) F8.k1 F8.k2 F8.d0 F8.d1 (by decide) (by decide) F8.e0 F8.e1 (by decide) (by decide) (by decide) (by decide) fun H9 s9 ma4 => ?_
      have F9 := F8.firm (Firm.of s9)
      have o4 : Oth K C M H9 d e (.ref t) := ⟨t, g3, 3, 1, 11, GS2, _, _, rfl, ma4, gr3.firm (Firm.of s9), other_gs d e⟩
      have h9 := s9 _ _ (B _ _ hlo)
      refine ⟨lo, _, _, rfl, rfl, h9, (by show 3 < sizeLine; decide), ?_⟩
      have f10 := Firm.upd (o := .lst (([V.ref z, .ref y] ++ [.ref u]) ++ [.ref t])) h9 rfl
      have fb := (Firm.of (B.trans s9)).trans f10
      refine ⟨_, rfl, F9.firm f10, upd_same, rfl, fun m hm => ?_⟩
      have hm : m = .ref z ∨ m = .ref y ∨ m = .ref u ∨ m = .ref t := by simpa using hm
      rcases hm with rfl | rfl | rfl | rfl
      · exact o1.firm fb
      · exact o2.firm fb
      · exact o3.firm fb
      · exact o4.firm f10
    clear hlo F7 o1 o2 o3
    rintro σ Hm ⟨ms, rfl, F, hlo, lm, hm⟩
    refine ⟨_, rfl, lo, rfl, ⟨_, .inl (.inl hlo)⟩, fun D nD => ?_⟩
    refine lc_list (K := K) (a := lo) (xs := ms) (fun k H2 => Same Hm H2 ∧ H2 D = some (.lst [])) ⟨same_new nD, upd_same⟩ (fun k H2 _ ⟨s2, _⟩ => s2.seq (.inl (.inl hlo))) ?_ ?_
    · rintro k y H2 hi ⟨s2, h2⟩
      obtain ⟨q', x', n', i', wi', gs', rs', nx', rfl, ma, gr, e0⟩ := hm y (List.mem_of_getElem? hi)
      refine ⟨rfl, ?_⟩
      have f2 := Firm.of s2
      exact ⟨_, rfl, _, rfl, eqM_use (k := false) (F.ma.firm f2) (F.gr.firm f2) (ma.firm f2) (gr.firm f2) e0 ⟨_, rfl, iteF ⟨s2, h2⟩⟩⟩
    rintro H2 ⟨s2, h2⟩
    refine ⟨len0, fun l nl => ?_⟩
    have sl := same_new (u := .lst []) nl
    refine ⟨.list [], .list [], .lst (.inl (.inl (sl _ _ h2))) .nil, .lst (.inl (.inl upd_same)) .nil, (by rfl), (by rfl), _, rfl, goF (by rfl) ?_⟩
    have gr := F.gr.firm (Firm.of (s2.trans sl))
    clear F hlo hm sl nl h2 s2
    refine ⟨fun σ H' => ∃ tl dz fs s1 s2 a1, σ = [some (.ref a), some (.ref p), some (.ref x), some v3, some v4, some v5, some v6, some (.ref l1), some (.ref l2), some (.ref du), some (.ref q1), some (.ref lo), none, some (.ref tl)] ∧ GraphAt K C H' x 3 GS ∧ H' tl = some (.ins U dz fs) ∧ fs.lookup ("graph" : Str) = some (.ref x) ∧
      fs.lookup ("states" : Str) = some (.ref s1) ∧ fs.lookup ("wishes" : Str) = some (.ref s2) ∧ SqT K H' s1 [.ref a1] ∧ SqT K H' s2 [.int 4] ∧ H' a1 = some (.tup [.int 2]), ?_, ?_⟩
    · refine ⟨_, rfl, len1, fun a1 n1 => ⟨len1, fun la nla => ⟨len1, fun lb nlb => fun z dz nz ndz nez => ?_⟩⟩⟩
      have A1 := same_new (u := .tup [.int 2]) n1
      have A2 := same_new (u := .lst [.ref a1]) nla
      have A3 := same_new (u := .lst [.int 4]) nlb
      have S := same_ins (C := U) nz ndz nez
      have B := A1.trans (A2.trans (A3.trans S))
      have gr1 := gr.firm (Firm.of B)
      obtain ⟨dg, gg, e1, _⟩ := id gr1
      refine ⟨z, dz, x, la, lb, [.ref a1], [.int 4], rfl, upd_same, ⟨dg, _, e1⟩, .inl (.inl (S _ _ (A3 _ _ upd_same))), .inl (.inl (S _ _ upd_same)), fun H' s1 s2 fs keep hz g1 g2 g3 r1 r2 => ⟨rfl, ?_⟩⟩
      refine ⟨z, dz, fs, s1, s2, a1, rfl, gr.firm fun b o e f => ?_, hz, g1, g2, g3, r1, r2, ?_⟩
      · have e3 := A3 _ _ (A2 _ _ (A1 _ _ e))
        exact keep _ _ (S _ _ e3) (ne_of_none e3 nz)
      · have e3 := A3 _ _ (A2 _ _ (upd_same (H := upd H2 l (.lst [])) (a := a1) (o := .tup [.int 2])))
        exact keep _ _ (S _ _ e3) (ne_of_none e3 nz)
    rintro σ Hn ⟨tl, dz, fs, s1, s2, a1, rfl, gr, hz, g1, g2, g3, r1, r2, ha1⟩
    refine ⟨_, rfl, tl, U, dz, fs, _, rfl, hz, clU, nU1, g1, _, rfl, eqG_use (k := true) gr gr (by rw [gs_self]; rfl) ⟨_, rfl, iteT ?_⟩⟩
    refine ⟨_, rfl, tl, U, dz, fs, _, rfl, hz, clU, nU2, g2, len1, fun b1 nb1 => ⟨len1, fun b2 nb2 => ?_⟩⟩
    have B1 := same_new (u := .tup [.int 2]) nb1
    have B2 := same_new (u := .tup [.ref b1]) nb2
    have B := B1.trans B2
    refine ⟨.tuple [tD [2]], .tuple [tD [2]], .tup (seqT_same B r1) (.cons (.tup (.inl (.inl (B _ _ ha1))) (ints_dp [2])) .nil), .tup (.inl (.inl upd_same)) (.cons (.tup (.inl (.inl (B2 _ _ upd_same))) (ints_dp [2])) .nil), st_sh, st_sh, _, rfl, goT (self_eq st_sh) ?_⟩
    refine ⟨_, rfl, tl, U, dz, fs, _, rfl, B _ _ hz, clU, nU3, g3, len1, fun b3 nb3 => ?_⟩
    have B3 := same_new (u := .tup [.int 4]) nb3
    refine ⟨tD [4], tD [4], .tup (seqT_same (B.trans B3) r2) (ints_dp [4]), .tup (.inl (.inl upd_same)) (ints_dp [4]), shaped_ints _, shaped_ints _, ?_⟩
    rw [self_eq (shaped_ints [4])]
    exact q _
end
end Zl
namespace Exo
open PySem PySem.Spec PyProof.Rows L2
/-! ## Own exceptions as values: made by a call, with or without an own __init__, their fields, isinstance -/
/-- the class at C: an own exception class over ValueError -/
def oexB (K : PySem.W.Frag) (C : Addr) : Bool := match K.lookup C with
  | some ⟨.type "type", _, .cls cd, sl⟩ =>
    (match cd.mro, sl.toList with
    | .ref D :: bm, [_, _, _, _, some (.builtin n), _] => (decide (D = C) && decide (n = "ValueError.__new__")) && ((!cd.hasDel && cd.hasDict) && PySem.HandSPX.refsVE bm)
    | _, _ => false)
  | _ => false
theorem and2 {a b : Bool} (h : (a && b) = true) : a = true ∧ b = true := Bool.and_eq_true_iff.mp h
theorem oexB_ok {K : PySem.W.Frag} {C : Addr} (h : oexB K C = true) :
    ∃ nm q N bs bm sn sub ab col dd k0 k1 k2 k3 k5, K.lookup C = some (excClassObj nm q C N bs bm true sn sub ab col dd k0 k1 k2 k3 k5 "ValueError.__new__") ∧ PySem.HandSPX.refsVE bm = true := by
  unfold oexB at h
  split at h
  · rename_i dd cd sl ho
    split at h
    · rename_i D bm k0 k1 k2 k3 n k5 hm hs
      obtain ⟨h1, h2⟩ := and2 h
      obtain ⟨e1, e2⟩ := and2 h1
      obtain ⟨h3, h4⟩ := and2 h2
      obtain ⟨e3, e4⟩ := and2 h3
      have e1 := of_decide_eq_true e1
      have e2 := of_decide_eq_true e2
      subst e1 e2
      obtain ⟨nm, bs, mro, ns, qn, hd, sn, sub, ab, col, del⟩ := cd
      dsimp only at hm e3 e4
      have e3 : del = false := by
        cases del with
        | false => rfl
        | true => cases e3
      subst hm e3 e4
      have hsl : sl = #[k0, k1, k2, k3, some (.builtin "ValueError.__new__"), k5] := by
        obtain ⟨l⟩ := sl
        have hs : l = _ := hs
        rw [hs]
      subst hsl
      exact ⟨nm, qn, ns, bs, bm, sn, sub, ab, col, dd, k0, k1, k2, k3, k5, ho, h4⟩
    · cases h
  · cases h
/-- all that is asked of such a class, decided -/
def okB (K : PySem.W.Frag) (C : Addr) : Bool :=
  (oexB K C && decide (PySem.W.findIn K (.ref C) "__setattr__" = some (some (.builtin "object.__setattr__")))) &&
  ((decide (PySem.W.subIn K (.ref C) (.type "BaseException") = some true) && decide (PySem.W.typeIn K (.ref C) = some (.type "type"))) &&
  ((PySem.W.keepIn K (.ref C) && decide (PySem.W.findIn K (.ref C) "__getattribute__" = some (some (.builtin "BaseException.__getattribute__")))) &&
  ((decide (PySem.W.findIn K (.ref C) "__getattr__" = some none) && PySem.W.hasDictIn K C) &&
  ((decide (PySem.W.findIn K (.ref C) "__class__" = some (some (.builtin "object.__class__"))) && decide (PySem.W.specialIn K (.builtin "object.__class__") "__get__" = some (some (.builtin "getset_descriptor.__get__")))) &&
  (decide (PySem.W.takesIn K (.builtin "object.__class__") = some true) && decide (PySem.W.mroIn K C (.type "object") = some true))))))
structure Cl (K : PySem.W.Frag) (C : Addr) : Prop where
  oe : OexC K C
  ex : ExcC K C
theorem okB_ok {K : PySem.W.Frag} {C : Addr} (h : okB K C = true) : Cl K C := by
  obtain ⟨h1, h⟩ := and2 h
  obtain ⟨a1, a2⟩ := and2 h1
  obtain ⟨h2, h⟩ := and2 h
  obtain ⟨a3, a4⟩ := and2 h2
  obtain ⟨h3, h⟩ := and2 h
  obtain ⟨a5, a6⟩ := and2 h3
  obtain ⟨h4, h⟩ := and2 h
  obtain ⟨a7, a8⟩ := and2 h4
  obtain ⟨h5, h6⟩ := and2 h
  obtain ⟨a9, b1⟩ := and2 h5
  obtain ⟨b2, b3⟩ := and2 h6
  exact ⟨⟨oexB_ok a1, of_decide_eq_true a2, of_decide_eq_true a3, of_decide_eq_true a4, a5⟩,
    ⟨of_decide_eq_true a6, of_decide_eq_true a7, of_decide_eq_true a3, a8, of_decide_eq_true a9, of_decide_eq_true b1, of_decide_eq_true b2, of_decide_eq_true b3⟩⟩
end Exo
namespace E23
open PySem PySem.Spec PyProof.Rows L2 Pen Dat Ki Fi Gr Wy Yg Zm Zn2 Yt Zl Gd He
def ds_is_between : DefD := ⟨("is_between", none), "is_between", "is_between", defArgs sBetween, defBody sBetween, defScope sBetween, [], []⟩
def ds_is_from : DefD := ⟨("is_from", none), "is_from", "is_from", defArgs sFrom, defBody sFrom, defScope sFrom, [], []⟩
def ds_is_row : DefD := ⟨("is_row", none), "is_row", "is_row", defArgs sRow, defBody sRow, defScope sRow, [], []⟩
def ds_is_row_between : DefD := ⟨("is_row_between", none), "is_row_between", "is_row_between", defArgs sRowB, defBody sRowB, defScope sRowB, [], []⟩
def ds_row_kept : DefD := ⟨("row_kept", none), "row_kept", "row_kept", defArgs sKeptR, defBody sKeptR, defScope sKeptR, [], []⟩
def ds_need_leaves : DefD := ⟨("need_leaves", none), "need_leaves", "need_leaves", defArgs sNeed, defBody sNeed, defScope sNeed, [], []⟩
def ds_are_gates : DefD := ⟨("are_gates", none), "are_gates", "are_gates", defArgs sGates, defBody sGates, defScope sGates, [], []⟩
def ds__law_pen : DefD := ⟨("_law_pen", none), "_law_pen", "_law_pen", defArgs sPen, defBody sPen, defScope sPen, [], []⟩
def ds__law_draw : DefD := ⟨("_law_draw", none), "_law_draw", "_law_draw", defArgs sDraw, defBody sDraw, defScope sDraw, [], []⟩
def ds__law_pick : DefD := ⟨("_law_pick", none), "_law_pick", "_law_pick", defArgs sPick, defBody sPick, defScope sPick, [], []⟩
def ds__law_why : DefD := ⟨("_law_why", none), "_law_why", "_law_why", defArgs sWhy, defBody sWhy, defScope sWhy, [], []⟩
def ds_law : DefD := ⟨("law", none), "law", "law", defArgs sLaw, defBody sLaw, defScope sLaw, [], []⟩
def di_BadNumber___init__ : DefD := ⟨("BadNumber", some "__init__"), "__init__", "BadNumber.__init__", defArgs sNumI, defBody sNumI, defScope sNumI, [], []⟩
def di_BadRow___init__ : DefD := ⟨("BadRow", some "__init__"), "__init__", "BadRow.__init__", defArgs sRowI, defBody sRowI, defScope sRowI, [], []⟩
def di_Graph___init__ : DefD := ⟨("Graph", some "__init__"), "__init__", "Graph.__init__", defArgs sInit, defBody sInit, defScope sInit, [], []⟩
def di_Graph___eq__ : DefD := ⟨("Graph", some "__eq__"), "__eq__", "Graph.__eq__", defArgs sEq, defBody sEq, defScope sEq, [], []⟩
def di_Machine___init__ : DefD := ⟨("Machine", some "__init__"), "__init__", "Machine.__init__", defArgs sMInit, defBody sMInit, defScope sMInit, [], []⟩
def di_Machine___eq__ : DefD := ⟨("Machine", some "__eq__"), "__eq__", "Machine.__eq__", defArgs sMEq, defBody sMEq, defScope sMEq, [], []⟩
def di_Unrolled___init__ : DefD := ⟨("Unrolled", some "__init__"), "__init__", "Unrolled.__init__", defArgs sUInit, defBody sUInit, defScope sUInit, [], []⟩
def fn : List DefD := [ds_is_between, ds_is_from, ds_is_row, ds_is_row_between, ds_row_kept, ds_need_leaves, ds_are_gates, ds__law_pen, ds__law_draw, ds__law_pick, ds__law_why, ds_law, di_BadNumber___init__, di_BadRow___init__, di_Graph___init__, di_Graph___eq__, di_Machine___init__, di_Machine___eq__, di_Unrolled___init__]
def fa : List Fa := [.glo "is_between", .glo "is_from", .glo "is_row", .glo "is_row_between", .glo "row_kept", .glo "need_leaves", .glo "are_gates", .glo "_law_pen", .glo "_law_draw", .glo "_law_pick", .glo "_law_why", .glo "law", .glo "Graph", .glo "Machine", .glo "Unrolled", .glo "BadNumber", .glo "BadRow", .free "isinstance", .free "int", .free "bool", .free "tuple", .free "list", .free "len", .free "all", .free "repr", .cls "Graph", .mkr "Graph", .noat "Graph" "leaves", .noat "Graph" "gates", .cls "Machine", .mkr "Machine", .noat "Machine" "graph", .noat "Machine" "inputs", .noat "Machine" "resets", .noat "Machine" "nexts", .noat "Machine" "wish", .cls "Unrolled", .mkr "Unrolled", .noat "Unrolled" "graph", .noat "Unrolled" "states", .noat "Unrolled" "wishes", .meth "Graph" "__eq__", .meth "Machine" "__eq__"]
abbrev cGraph (K : PySem.W.Frag) : Addr := ga K "Graph"
abbrev cMachine (K : PySem.W.Frag) : Addr := ga K "Machine"
abbrev cUnrolled (K : PySem.W.Frag) : Addr := ga K "Unrolled"
def exB (K : PySem.W.Frag) : Bool := (decide (PySem.W.findIn K (.ref (cGraph K)) "__class__" = some (some (.builtin "object.__class__"))) && (decide (PySem.W.specialIn K (.builtin "object.__class__") "__get__" = some (some (.builtin "getset_descriptor.__get__"))) && (decide (PySem.W.takesIn K (.builtin "object.__class__") = some true) && (decide (PySem.W.mroIn K (cGraph K) (.type "object") = some true) && (decide (PySem.W.kitOne K (.ref (cGraph K)) (.ref (cGraph K)) = some true) && (decide (PySem.W.kitOne K (.type "tuple") (.ref (cGraph K)) = some false) && (decide (PySem.W.subIn K (.type "tuple") (.ref (cGraph K)) = some false) && (decide (PySem.W.subIn K (.ref (cGraph K)) (.ref (cMachine K)) = some false) && (decide (PySem.W.kitOne K (.ref (cMachine K)) (.ref (cMachine K)) = some true) && (decide (PySem.W.kitOne K (.ref (cGraph K)) (.ref (cMachine K)) = some false) && (decide (PySem.W.kitOne K (.ref (cGraph K)) (.type "list") = some false) && (decide (PySem.W.findIn K (.ref (cMachine K)) "__class__" = some (some (.builtin "object.__class__"))) && (decide (PySem.W.mroIn K (cMachine K) (.type "object") = some true) && (decide (PySem.W.exmOne K (.ref (ga K "BadNumber")) (.ref (ga K "BadNumber")) = some true) && (decide (PySem.W.exmOne K (.ref (ga K "BadRow")) (.ref (ga K "BadNumber")) = some false) && (decide (PySem.W.exmOne K (.ref (ga K "BadRow")) (.ref (ga K "BadRow")) = some true) && (decide (xfB K (ga K "BadNumber") = true) && (decide (xfB K (ga K "BadRow") = true) && (decide (PySem.W.findIn K (.ref (ga K "BadNumber")) "what" = some none) && (decide (PySem.W.findIn K (.ref (ga K "BadNumber")) "number" = some none) && (decide (PySem.W.findIn K (.ref (ga K "BadRow")) "row" = some none) && (decide (Exo.okB K (ga K "BadNumber") = true) && (decide (Exo.okB K (ga K "BadRow") = true) && (decide (PySem.W.findIn K (.ref (ga K "BadNumber")) "__init__" = some (some (.ref (fAd K ("BadNumber", some "__init__"))))) && (decide (PySem.W.typeIn K (.ref (fAd K ("BadNumber", some "__init__"))) = some (.type "function")) && (decide (PySem.W.findIn K (.ref (ga K "BadRow")) "__init__" = some (some (.ref (fAd K ("BadRow", some "__init__"))))) && (decide (PySem.W.typeIn K (.ref (fAd K ("BadRow", some "__init__"))) = some (.type "function")) && true)))))))))))))))))))))))))))
abbrev R : PySem.W.OpenRow := PySem.W.OpenLaw.row PySem.Challenge.rw_everycycle_k23_machines_refused
abbrev hk : PySem.W.Hook := hookX 6 fa fn [] [("law", none)] exB
def ob (s : PySem.W.SharedT) : AlX := obsX 6 fa fn [] [("law", none)] exB (HandSHeadRun.getT s)
theorem ob_eq (s : PySem.W.SharedT) : ob s = hk.obs s.abs := obsX_eq (HandSHeadRun.getT_eq s)
theorem run (w : World) : HandSHeadRun.RunEq R (PySem.W.view R.prog [22]) hk ob 4000 [("CycleError" : PySem.Str), ("BadNumber" : PySem.Str), ("BadRow" : PySem.Str), ("is_between" : PySem.Str), ("is_from" : PySem.Str), ("is_row" : PySem.Str), ("is_row_between" : PySem.Str), ("row_kept" : PySem.Str), ("Graph" : PySem.Str), ("need_leaves" : PySem.Str), ("are_gates" : PySem.Str), ("Machine" : PySem.Str), ("Unrolled" : PySem.Str), ("_law_pen" : PySem.Str), ("_law_draw" : PySem.Str), ("_law_pick" : PySem.Str), ("_law_why" : PySem.Str)] w := by
  intro os
  kernel_rfl
theorem and2 {a b : Bool} (h : (a && b) = true) : a = true ∧ b = true := Bool.and_eq_true_iff.mp h
theorem facts {P : Program} {w : World} {K : PySem.W.Frag} {h : Heap} {mg : Str → Option Value} {f : Addr} (X : K.In h) (G : h.Ns mainGlobals mg) (hfa : mg ("law" : Str) = some (.ref f)) (c : SaysX fa fn [] [("law", none)] exB w h K) :
    ∃ fd : FuncData, (∀ (s : Shared) (v : Value), BindsTo s fd ⟨[v], []⟩ [("_law_script", v)]) ∧ ∀ base : Heap, K.In base → base.Ns mainGlobals mg → LamX.TabB base mg (cT K ("law", none)).1 (cT K ("law", none)).2 → FnG P w K mg base CX0 8 f fd ["_law_script"] (Zl.spLaw K (cT K ("law", none)).2) := by
  have cd := c.t.d
  obtain ⟨fd0, F0⟩ := cd.def_ 0 (d := ds_is_between) rfl
  obtain ⟨fd1, F1⟩ := cd.def_ 1 (d := ds_is_from) rfl
  obtain ⟨fd2, F2⟩ := cd.def_ 2 (d := ds_is_row) rfl
  obtain ⟨fd3, F3⟩ := cd.def_ 3 (d := ds_is_row_between) rfl
  obtain ⟨fd4, F4⟩ := cd.def_ 4 (d := ds_row_kept) rfl
  obtain ⟨fd5, F5⟩ := cd.def_ 5 (d := ds_need_leaves) rfl
  obtain ⟨fd6, F6⟩ := cd.def_ 6 (d := ds_are_gates) rfl
  obtain ⟨fd7, F7⟩ := cd.def_ 7 (d := ds__law_pen) rfl
  obtain ⟨fd8, F8⟩ := cd.def_ 8 (d := ds__law_draw) rfl
  obtain ⟨fd9, F9⟩ := cd.def_ 9 (d := ds__law_pick) rfl
  obtain ⟨fd10, F10⟩ := cd.def_ 10 (d := ds__law_why) rfl
  obtain ⟨fd11, F11⟩ := cd.def_ 11 (d := ds_law) rfl
  obtain ⟨fd12, F12⟩ := cd.def_ 12 (d := di_BadNumber___init__) rfl
  obtain ⟨fd13, F13⟩ := cd.def_ 13 (d := di_BadRow___init__) rfl
  obtain ⟨fd14, F14⟩ := cd.def_ 14 (d := di_Graph___init__) rfl
  obtain ⟨fd15, F15⟩ := cd.def_ 15 (d := di_Graph___eq__) rfl
  obtain ⟨fd16, F16⟩ := cd.def_ 16 (d := di_Machine___init__) rfl
  obtain ⟨fd17, F17⟩ := cd.def_ 17 (d := di_Machine___eq__) rfl
  obtain ⟨fd18, F18⟩ := cd.def_ 18 (d := di_Unrolled___init__) rfl
  have glo : ∀ i x, fa[i]? = some (Fa.glo x) → mg x = some (.ref (ga K x)) := fun i x e => glo_ok X G (cd.fact i e)
  have fre : ∀ i x, fa[i]? = some (Fa.free x) → mg x = none := fun i x e => free_ok X G (cd.fact i e)
  have e := hfa.symm.trans (glo 11 "law" rfl)
  cases e
  have b0 : Binds K fd0 ["value", "least", "most"] [] := F0.bindsN fun _ _ _ _ _ _ us hl => match us, hl with | [_, _, _], _ => rfl
  have b1 : Binds K fd1 ["value", "least"] [] := F1.bindsN fun _ _ _ _ _ _ us hl => match us, hl with | [_, _], _ => rfl
  have b2 : Binds K fd2 ["value"] [] := F2.bindsN fun _ _ _ _ _ _ us hl => match us, hl with | [_], _ => rfl
  have b3 : Binds K fd3 ["value", "many", "least", "most"] [] := F3.bindsN fun _ _ _ _ _ _ us hl => match us, hl with | [_, _, _, _], _ => rfl
  have b4 : Binds K fd4 ["value"] [] := F4.bindsN fun _ _ _ _ _ _ us hl => match us, hl with | [_], _ => rfl
  have b5 : Binds K fd5 ["leaves"] [] := F5.bindsN fun _ _ _ _ _ _ us hl => match us, hl with | [_], _ => rfl
  have b6 : Binds K fd6 ["leaves", "value"] [] := F6.bindsN fun _ _ _ _ _ _ us hl => match us, hl with | [_, _], _ => rfl
  have b7 : Binds K fd7 ["_law_script"] [] := F7.bindsN fun _ _ _ _ _ _ us hl => match us, hl with | [_], _ => rfl
  have b8 : Binds K fd8 ["_law_pen_here", "_law_many"] [] := F8.bindsN fun _ _ _ _ _ _ us hl => match us, hl with | [_, _], _ => rfl
  have b9 : Binds K fd9 ["_law_pen_here", "_law_some"] [] := F9.bindsN fun _ _ _ _ _ _ us hl => match us, hl with | [_, _], _ => rfl
  have b10 : Binds K fd10 ["_law_call"] [] := F10.bindsN fun _ _ _ _ _ _ us hl => match us, hl with | [_], _ => rfl
  have b12 : Binds K fd12 ["self", "what", "number"] [] := F12.bindsN fun _ _ _ _ _ _ us hl => match us, hl with | [_, _, _], _ => rfl
  have b13 : Binds K fd13 ["self", "row"] [] := F13.bindsN fun _ _ _ _ _ _ us hl => match us, hl with | [_, _], _ => rfl
  have b14 : Binds K fd14 ["self", "leaves", "gates"] [] := F14.bindsN fun _ _ _ _ _ _ us hl => match us, hl with | [_, _, _], _ => rfl
  have b15 : Binds K fd15 ["self", "other"] [] := F15.bindsN fun _ _ _ _ _ _ us hl => match us, hl with | [_, _], _ => rfl
  have b16 : Binds K fd16 ["self", "graph", "inputs", "resets", "nexts", "wish"] [] := F16.bindsN fun _ _ _ _ _ _ us hl => match us, hl with | [_, _, _, _, _, _], _ => rfl
  have b17 : Binds K fd17 ["self", "other"] [] := F17.bindsN fun _ _ _ _ _ _ us hl => match us, hl with | [_, _], _ => rfl
  have b18 : Binds K fd18 ["self", "graph", "states", "wishes"] [] := F18.bindsN fun _ _ _ _ _ _ us hl => match us, hl with | [_, _, _, _], _ => rfl
  have b := FunD.bindsA (ps := ["_law_script"]) F11 fun _ _ _ _ _ _ us hl => match us, hl with | [_], _ => rfl
  have g0 := glo 0 "is_between" rfl
  have g1 := glo 1 "is_from" rfl
  have g2 := glo 2 "is_row" rfl
  have g3 := glo 3 "is_row_between" rfl
  have g4 := glo 4 "row_kept" rfl
  have g5 := glo 5 "need_leaves" rfl
  have g6 := glo 6 "are_gates" rfl
  have g7 := glo 7 "_law_pen" rfl
  have g8 := glo 8 "_law_draw" rfl
  have g9 := glo 9 "_law_pick" rfl
  have g10 := glo 10 "_law_why" rfl
  have g11 := glo 11 "law" rfl
  have gGraph := glo 12 "Graph" rfl
  have gMachine := glo 13 "Machine" rfl
  have gUnrolled := glo 14 "Unrolled" rfl
  have gBadNumber := glo 15 "BadNumber" rfl
  have gBadRow := glo 16 "BadRow" rfl
  have z_isinstance := fre 17 "isinstance" rfl
  have z_int := fre 18 "int" rfl
  have z_bool := fre 19 "bool" rfl
  have z_tuple := fre 20 "tuple" rfl
  have z_list := fre 21 "list" rfl
  have z_len := fre 22 "len" rfl
  have z_all := fre 23 "all" rfl
  have z_repr := fre 24 "repr" rfl
  have clGraph := cls_ok (cd.fact 25 (f := .cls "Graph") rfl)
  have mkGraph := mkr_ok (cd.fact 26 (f := .mkr "Graph") rfl)
  have nGraph_leaves := noat_ok (cd.fact 27 (f := .noat "Graph" "leaves") rfl)
  have nGraph_gates := noat_ok (cd.fact 28 (f := .noat "Graph" "gates") rfl)
  have clMachine := cls_ok (cd.fact 29 (f := .cls "Machine") rfl)
  have mkMachine := mkr_ok (cd.fact 30 (f := .mkr "Machine") rfl)
  have nMachine_graph := noat_ok (cd.fact 31 (f := .noat "Machine" "graph") rfl)
  have nMachine_inputs := noat_ok (cd.fact 32 (f := .noat "Machine" "inputs") rfl)
  have nMachine_resets := noat_ok (cd.fact 33 (f := .noat "Machine" "resets") rfl)
  have nMachine_nexts := noat_ok (cd.fact 34 (f := .noat "Machine" "nexts") rfl)
  have nMachine_wish := noat_ok (cd.fact 35 (f := .noat "Machine" "wish") rfl)
  have clUnrolled := cls_ok (cd.fact 36 (f := .cls "Unrolled") rfl)
  have mkUnrolled := mkr_ok (cd.fact 37 (f := .mkr "Unrolled") rfl)
  have nUnrolled_graph := noat_ok (cd.fact 38 (f := .noat "Unrolled" "graph") rfl)
  have nUnrolled_states := noat_ok (cd.fact 39 (f := .noat "Unrolled" "states") rfl)
  have nUnrolled_wishes := noat_ok (cd.fact 40 (f := .noat "Unrolled" "wishes") rfl)
  have meGraph___eq__ := meth_ok (cd.fact 41 (f := .meth "Graph" "__eq__") rfl)
  have meMachine___eq__ := meth_ok (cd.fact 42 (f := .meth "Machine" "__eq__") rfl)
  have r0 := c.more
  obtain ⟨q0, r1⟩ := and2 r0
  have e1 := of_decide_eq_true q0
  obtain ⟨q1, r2⟩ := and2 r1
  have e2 := of_decide_eq_true q1
  obtain ⟨q2, r3⟩ := and2 r2
  have e3 := of_decide_eq_true q2
  obtain ⟨q3, r4⟩ := and2 r3
  have e4 := of_decide_eq_true q3
  obtain ⟨q4, r5⟩ := and2 r4
  have e5 := of_decide_eq_true q4
  obtain ⟨q5, r6⟩ := and2 r5
  have e6 := of_decide_eq_true q5
  obtain ⟨q6, r7⟩ := and2 r6
  have e7 := of_decide_eq_true q6
  obtain ⟨q7, r8⟩ := and2 r7
  have q1 := of_decide_eq_true q7
  obtain ⟨q8, r9⟩ := and2 r8
  have q2 := of_decide_eq_true q8
  obtain ⟨q9, r10⟩ := and2 r9
  have q3 := of_decide_eq_true q9
  obtain ⟨q10, r11⟩ := and2 r10
  have q4 := of_decide_eq_true q10
  obtain ⟨q11, r12⟩ := and2 r11
  have f1 := of_decide_eq_true q11
  obtain ⟨q12, r13⟩ := and2 r12
  have f4 := of_decide_eq_true q12
  obtain ⟨q13, r14⟩ := and2 r13
  have x1 := of_decide_eq_true q13
  obtain ⟨q14, r15⟩ := and2 r14
  have x2 := of_decide_eq_true q14
  obtain ⟨q15, r16⟩ := and2 r15
  have x3 := of_decide_eq_true q15
  obtain ⟨q16, r17⟩ := and2 r16
  have x4 := of_decide_eq_true q16
  obtain ⟨q17, r18⟩ := and2 r17
  have x5 := of_decide_eq_true q17
  obtain ⟨q18, r19⟩ := and2 r18
  have y1 := of_decide_eq_true q18
  obtain ⟨q19, r20⟩ := and2 r19
  have y2 := of_decide_eq_true q19
  obtain ⟨q20, r21⟩ := and2 r20
  have y3 := of_decide_eq_true q20
  obtain ⟨q21, r22⟩ := and2 r21
  have o1 := of_decide_eq_true q21
  obtain ⟨q22, r23⟩ := and2 r22
  have o2 := of_decide_eq_true q22
  obtain ⟨q23, r24⟩ := and2 r23
  have i1 := of_decide_eq_true q23
  obtain ⟨q24, r25⟩ := and2 r24
  have i2 := of_decide_eq_true q24
  obtain ⟨q25, r26⟩ := and2 r25
  have j1 := of_decide_eq_true q25
  obtain ⟨q26, r27⟩ := and2 r26
  have j2 := of_decide_eq_true q26
  have ki : Ki.Tx mg := ⟨z_isinstance, z_int, z_bool, z_tuple, z_list, z_len, z_all⟩
  have pt : Pen.Txt mg := ⟨z_len, z_int, z_list⟩
  have tg : Gr.Tx K mg (cGraph K) := ⟨ki, clGraph, nGraph_leaves, nGraph_gates, gGraph, e1, e2, e3, fun e => .ins e clGraph e1 e2 e3 e4, e5, e6⟩
  have tw : Yg.Tw K mg (ga K "BadNumber") (ga K "BadRow") := ⟨gBadNumber, gBadRow, x1, x2, x3, xfB_ok x4, xfB_ok x5, y1, y2, y3, z_repr⟩
  have T : Zm.Tz K mg (cGraph K) (cMachine K) (ga K "BadNumber") (ga K "BadRow") (fAd K ("BadNumber", some "__init__")) (fAd K ("BadRow", some "__init__")) := ⟨tg, tw, ⟨(Exo.okB_ok o1).oe, i1, i2⟩, ⟨(Exo.okB_ok o2).oe, j1, j2⟩, clMachine, nMachine_graph, nMachine_inputs, nMachine_resets, nMachine_nexts, nMachine_wish, gMachine⟩
  have tq : Zn2.Tq K mg (cGraph K) (cMachine K) (ga K "BadNumber") (ga K "BadRow") (fAd K ("BadNumber", some "__init__")) (fAd K ("BadRow", some "__init__")) _ _ := ⟨T, meGraph___eq__.at_, meGraph___eq__.fn, e7, meMachine___eq__.at_, meMachine___eq__.fn, q1, fun e => .ins e clMachine f1 e2 e3 f4, q2, q3, q4⟩
  refine ⟨fd11, fun s v => b s [v] rfl, fun base _ _ TB => ?_⟩
  have hcv : ∀ cv, fd11.code = cv → cv = .ref (cT K ("law", none)).1 := fun cv hc => by
    obtain ⟨_, _, _, _, _, _, _, cdv, _, _, e, lk, hcd, _, _⟩ := F11.ex
    obtain ⟨c0, rfl⟩ := codeIn_ref hcd
    have hf : fd11.code = .ref c0 := by rw [e]
    rw [← hc, hf]
    exact congrArg Value.ref (codeOf_eq (p := ("law", none)) lk hf).symm
  have G0 : FnOk P w K mg base CX0 _ _ _ _ _ := ok_between F0 ki
  have G2 : FnOk P w K mg base CX0 _ _ _ _ _ := ok_row F2 ki
  have G3 : FnOk P w K mg base CX0 _ _ _ _ _ := ok_rowB F3 ki F0 g0 F2 g2
  have G5 : FnOk P w K mg base CX0 _ _ _ _ _ := ok_need F5 ki F1 g1
  have G6 : FnOk P w K mg base CX0 _ _ _ _ _ := ok_gates F6 ki F2 g2 F3 g3 F0 g0
  have G14 : FnOk P w K mg base CX0 _ _ _ _ _ := ok_init F14 tg G5 g5 F5.kp b5 G6 g6 F6.kp b6
  have G15 : FnOk P w K mg base CX0 _ _ _ _ _ := ok_eq F15 tg
  have G12 : FnOk P w K mg base CX0 _ _ _ _ _ := ok_numi F12 T
  have G13 : FnOk P w K mg base CX0 _ _ _ _ _ := ok_rowi F13 T
  have GMI : FnOk P w K mg base (L2.CX P w) _ _ _ _ _ := ok_mi F16 T G0 g0 F0.kp b0 G3 g3 F3.kp b3 G12 b12 G13 b13
  have G17 : FnOk P w K mg base CX0 _ _ _ _ _ := ok_meq F17 tq G15 b15
  have G4 : FnOk P w K mg base CX0 _ _ _ _ _ := Zn2.ok_kept F4 tq
  have G18 : FnOk P w K mg base CX0 _ _ _ _ _ := ok_ui F18 tq clUnrolled nUnrolled_graph nUnrolled_states nUnrolled_wishes G4 g4 F4.kp b4
  have G7 : FnOk P w K mg base CX0 _ _ _ _ _ := ok_pen F7 pt
  have G8 : FnOk P w K mg base CX0 _ _ _ _ _ := ok_draw F8 pt
  have G9 : FnOk P w K mg base CX0 _ _ _ _ _ := ok_pick F9 pt F8 g8
  exact ok_law F11 tq z_repr TB hcv F10 g10 mkGraph G14 gGraph b14 mkMachine GMI gMachine b16 clUnrolled nUnrolled_graph nUnrolled_states nUnrolled_wishes mkUnrolled G18 gUnrolled b18 G15 b15 G17 b17 G7 g7 F7.kp b7 G8 g8 F8.kp b8 G9 g9 F9.kp b9
end E23
open PySem PySem.W PySem.Calls PyProof.Rows
theorem PySem.Challenge.cw_everycycle_k23_machines_refused_holds : PySem.Challenge.rw_everycycle_k23_machines_refused.Holds := by
  w_on; o_law
  refine HandSHeadRun.head_any (r := OpenLaw.row PySem.Challenge.rw_everycycle_k23_machines_refused) (q := view (OpenLaw.row PySem.Challenge.rw_everycycle_k23_machines_refused).prog [22]) (H := E23.hk) (ob := E23.ob) (M := 4000) (loose := [("CycleError" : PySem.Str), ("BadNumber" : PySem.Str), ("BadRow" : PySem.Str), ("is_between" : PySem.Str), ("is_from" : PySem.Str), ("is_row" : PySem.Str), ("is_row_between" : PySem.Str), ("row_kept" : PySem.Str), ("Graph" : PySem.Str), ("need_leaves" : PySem.Str), ("are_gates" : PySem.Str), ("Machine" : PySem.Str), ("Unrolled" : PySem.Str), ("_law_pen" : PySem.Str), ("_law_draw" : PySem.Str), ("_law_pick" : PySem.Str), ("_law_why" : PySem.Str)]) (d := HandSHeadRun.topDef (OpenLaw.row PySem.Challenge.rw_everycycle_k23_machines_refused).prog 22) (kwd := []) E23.ob_eq
    (by kernel_rfl) (fun s => by kernel_rfl) E23.run (by kernel_rfl) (by kernel_rfl) (by kernel_rfl) (by rfl) (by first | assumption | decide +kernel) (by decide +kernel) ⟨rfl, rfl, rfl, rfl, rfl, by decide +kernel⟩ ?hw ?hc
  case hw => w_witness2
  case hc =>
    refine Yt.walk_goT (l := PySem.Challenge.rw_everycycle_k23_machines_refused) (n := 63) (k := 8) (x := "_law_script") (CX := fun _ => L2.CX0) rfl (by decide) (by kernel_rfl) ⟨rfl, by decide, by decide⟩ ?F (fun _ _ _ _ _ z => z)
    intro w mg fa h Y G hmg0
    obtain ⟨K, KX, c⟩ := Y
    have hmg : mg ("law" : PySem.Str) = some (.ref fa) := by
      have e : (HandSHeadRun.topDef (OpenLaw.row PySem.Challenge.rw_everycycle_k23_machines_refused).prog 22).name = ("law" : PySem.Str) := by kernel_rfl
      rw [← e]
      exact hmg0
    obtain ⟨fd, hb, hF⟩ := E23.facts (P := (PySem.Challenge.rw_everycycle_k23_machines_refused).prog) (w := w) KX G hmg c
    exact ⟨K, fd, Zl.spLaw K (He.cT K ("law", none)).2, (He.cT K ("law", none)).1, (He.cT K ("law", none)).2, KX, c.empty _ List.mem_cons_self, c.out _ List.mem_cons_self, c.hd _ List.mem_cons_self, hb, fun H a ns hl hT hS => ⟨a, ns, rfl, hS, hl, hT, fun _ => rfl⟩, hF⟩
