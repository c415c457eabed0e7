import PyProof.Rows.All
import Wide.All
import OpenK.AllK
import Wide.FinOn
import Lean
import HandS.ForMost
import HandS.Codes
import HandS.Defaults
import HandS.Wide
import HandS.DeepEq
import HandS.Exc
import HandS.ExcInit
import HandS.ExcValue
import HandS.IsInst
import HandS.TupAny
import HandS.OwnEq
import HandS.Star
import HandS.SortInts
import HandS.Conv
import HandS.Style
import HandS.Head0
import HandS.Head1
import HandS.Head2
import HandS.HeadEnd
import HandS.HeadHook1
import HandS.HeadHook2
import HandS.HeadHook3
import HandS.HeadHook4
import HandS.ExcIs
import HandS.ExcField
import KE.KExcIs
import KE.GoesEnum
import PySem.Challenge.RW_everycycle_k16_whole_builders
import HandS.Deep
set_option Elab.async false
set_option linter.all false
set_option maxRecDepth 100000
set_option maxHeartbeats 4000000
namespace Gd
open PySem PySem.Spec PyProof.Rows L2
/-! ## What a def does where no repr is under way: the promise of FnOk, for such callers alone -/
structure FnG (P : Program) (w : World) (K : PySem.W.Frag) (mg : Str → Option Value) (base : Heap) (CX : CXT) (k : Nat) (f : Addr) (fd : FuncData) (ps : List Str) (sp : Sp) : Prop where
  many : ∀ vs H Q E, sp vs H Q E → vs.length = ps.length
  go : ∀ (A : Around) (fs : List Env) (s : Shared) (H : Hp) (ag : Args) (us : List Value) (vs : List V) (Q : VK) (E : XK), A.guards = some [] → Room k A → Env0 P w K mg base A fs s H →
    BindsTo s fd ag (ps.zip us) → Vals vs us → sp vs H Q E → codeAny (model P w) A (.call (.ref f) ag) (CR CX fs P w H s Q E) s
section
variable {P : Program} {w : World} {K : PySem.W.Frag} {mg : Str → Option Value} {base : Heap} {CX : CXT} {k : Nat} {f : Addr} {fd : FuncData} {ps : List Str} {sp : Sp}
theorem FnG.of (F : FnOk P w K mg base CX k f fd ps sp) : FnG P w K mg base CX k f fd ps sp := ⟨F.len, fun A fs s H ag us vs Q E _ => F.run A fs s H ag us vs Q E⟩
/-- from the def's body -/
theorem FnG.mk_of {x qual : Str} {params : Arguments} {body : List Stmt} {scope : Scope} {dvs : List V} {kws : List (Str × V)} {N : List Str}
    (F : FunD K x qual params body scope dvs kws f fd) (S : FnScope N ps scope) (many : ∀ vs H Q E, sp vs H Q E → vs.length = ps.length)
    (walk : ∀ (cv : Value) (A : Around) (fs : List Env) (s : Shared) (H : Hp) (vs : List V) (Q : VK) (E : XK), A.guards = some [] → Room k (A.deeper (envOfC qual scope s.heap.objs.size f cv)) → sp vs H Q E →
      ∃ t, PSs (cxOf CX P w K mg base N qual scope f cv A fs s H E) body t ∧ t { nx := fun _ H' => Q .non H', rt := Q } (start N vs) H) :
    FnG P w K mg base CX (k + 1) f fd ps sp := by
  obtain ⟨_, _, _, _, _, _, _, cv, _, _, rfl, look, code, _, _⟩ := F.ex
  refine ⟨many, fun A fs s H ag us vs Q E hg room e bind rel prom => ?_⟩
  have kin : K.In s.heap := e.mod.kin.keeps fun b u z => (e.bs b u z).1
  have kinds : ∀ y ∈ ps.zip us, scope.names.lookup y.1 = some .local ∨ (scope.names.lookup y.1 = some .cell ∧ ((cellsFrom (s.heap.objs.size + 1) scope.names []).lookup y.1).isSome = true) := by
    rintro ⟨y, u⟩ hy
    rcases S.par y (List.of_mem_zip hy).1 with q | q
    · exact Or.inl q
    · exact Or.inr ⟨q, PySem.W.cellsFrom_some _ _ _ (Or.inl q)⟩
  refine codeAny_call_function room.depth (kin _ _ look) rfl S.co S.gen rfl (PySem.W.codeRec_of kin code) (bind _ _ _ _ ?_)
  refine wpAny_newFunctionEnv_cells S.kind kinds ?_
  rintro env rfl s1 hs1
  refine ⟨(e.mod.nolimit.keeps fun b u z => (e.bs b u z).1).keeps hs1.toInCall.keep, codeAny_func ?_⟩
  obtain ⟨t, ht, q⟩ := walk cv A fs s H vs Q E hg (room.deeper _) prom
  have I := inv_start (CX := CX) (E := E) S room.hd e (many _ _ _ _ prom) rel hs1
  refine wpAny_mono (ht.run [] s1 (start N vs) H _ I q) (fun fl s2 z => ?_) (fun _ _ z => z)
  match fl, z with
  | .ret u, ⟨v, σ', H', J, rv, q⟩ => exact ⟨v, H', J.os, J.bare, J.base, J.hok, rv, q⟩
  | .next, ⟨σ', H', J, q⟩ => exact ⟨V.non, H', J.os, J.bare, J.base, J.hok, rfl, q⟩
  | .brk, ⟨_, _, _, q⟩ => exact q.elim
  | .cont, ⟨_, _, _, q⟩ => exact q.elim
end
/-- the script's object -/
abbrev scr (vs : List Value) : Obj := { cls := .type "list", data := .seq vs.toArray }
/-- the heap in which the script alone is tracked, if the top did not write it -/
def onlyScr (K : PySem.W.Frag) (a : Addr) (vs : List Value) (ns : List Int) : Hp := fun b => if b = a ∧ (K.lookup a).isNone = true then some (.frz (scr vs) (.lst (ns.map V.int))) else none
theorem onlyScr_get {K : PySem.W.Frag} {a b : Addr} {vs : List Value} {ns : List Int} {o : HO} (h : onlyScr K a vs ns b = some o) : b = a ∧ K.lookup a = none ∧ o = .frz (scr vs) (.lst (ns.map V.int)) := by
  unfold onlyScr at h
  split at h
  · rename_i c
    exact ⟨c.1, Option.isNone_iff_eq_none.mp c.2, (Option.some.inj h).symm⟩
  · cases h
/-- the law is called with its script -/
theorem law_go {P : Program} {w : World} {K : PySem.W.Frag} {mg mb : Str → Option Value} {CX : CXT} {k : Nat} {f a : Addr} {fd : FuncData} {x : Str} {sp : Sp} {s : Shared} {vs : List Value} {ns : List Int}
    (kin : K.In s.heap) (hm : s.heap.Ns mainGlobals mg) (hb : s.heap.Ns builtinsNs mb) (hbb : ∀ y : Str, y ≠ "__name__" → mb y = bootBuiltins y) (lim : s.heap.NoLimit) (hgen : s.gens = #[])
    (ha : s.heap.get? a = some (scr vs)) (hi : IntsAre vs ns) (hl : ns.length ≤ sizeLine) (hr : Room k callerA)
    (F : ∀ base : Heap, K.In base → base.Ns mainGlobals mg → FnG P w K mg base CX k f fd [x] sp) (bind : ∀ (s : Shared) (u : Value), BindsTo s fd ⟨[u], []⟩ [(x, u)])
    (prom : ∀ H : Hp, Only H → SqL K H a (ns.map V.int) → sp [.ref a] H (fun v _ => v = .bl true) fun _ _ _ => False)
    (none_out : ∀ H e s', CX [] H s (fun _ _ _ => False) e s' → False) :
    codeAny (model P w) callerA (.call (.ref f) ⟨[.ref a], []⟩) (fun r s' => r = .ok (.ret (.bool true)) ∧ OldK s.heap s'.heap ∧ s'.os = s.os ∧ AllBare s'.gens) s := by
  have hv := vals_ints hi
  have hlen := hi.length
  let H := onlyScr K a vs ns
  have gone : ∀ {b : Addr} {o : Obj}, K.lookup b = some o → H b = none := fun {b o} q => by
    cases e : H b with
    | none => rfl
    | some u =>
      obtain ⟨rfl, n, _⟩ := onlyScr_get e
      rw [n] at q
      cases q
  have ns_free : ∀ {b : Addr} {o : Obj} {es : Array DictEntry} {ep : Nat}, s.heap.get? b = some o → o.data = .dict es ep → H b = none := fun {b o es ep} q d => by
    cases e : H b with
    | none => rfl
    | some u =>
      obtain ⟨rfl, _, _⟩ := onlyScr_get e
      rw [ha] at q
      cases q
      cases d
  have stays : ∀ {b : Addr} {m : Str → Option Value}, s.heap.Ns b m → (hidT s.heap H).Ns b m := fun ⟨o, es, ep, q, d, r⟩ => ⟨o, es, ep, hidT_get q (ns_free q d), d, r⟩
  have kinT : K.In (hidT s.heap H) := fun b o q => hidT_get (kin b o q) (gone q)
  have hok : HOk P w H s.heap := fun b u q => by
    obtain ⟨rfl, _, rfl⟩ := onlyScr_get q
    exact ⟨ha, by rw [List.length_map]; exact hl, vs, _, hv, ha⟩
  have hO : Only H := fun b => by
    cases e : H b with
    | none => exact Or.inl rfl
    | some u =>
      obtain ⟨_, _, rfl⟩ := onlyScr_get e
      exact Or.inr ⟨_, _, rfl⟩
  have hS : SqL K H a (ns.map V.int) := by
    cases e : K.lookup a with
    | none => exact .inl (.inr ⟨scr vs, if_pos ⟨rfl, by rw [e]; rfl⟩⟩)
    | some o =>
      have q := kin a o e
      rw [ha] at q
      cases q
      exact .inr ⟨_, vs.toArray, _, e, rfl, rfl, rfl, by rw [List.size_toArray, hlen]; exact hl, by simpa using hv⟩
  obtain ⟨mc, l1, l2⟩ := lim
  have e0 : Env0 P w K mg (hidT s.heap H) callerA [] s H := by
    refine ⟨rfl, ⟨kinT, stays hm, ⟨mb, stays hb, hbb⟩, ⟨mc, stays l1, l2⟩⟩, fun b o q => of_hidT q, Nat.le_of_eq (hidT_size _ _), trivial, fun b q => ?_, hok, .of_eq hgen⟩
    cases q
  refine codeAny_mono ((F _ kinT (stays hm)).go callerA [] s H ⟨[.ref a], []⟩ [.ref a] [.ref a] _ _ rfl hr e0 (bind s (.ref a)) (.cons rfl .nil) (prom H hO hS)) fun r s' h => ?_
  match r, h with
  | .error e, h => exact (none_out H e s' h).elim
  | .ok .next, h => exact h.elim
  | .ok .brk, h => exact h.elim
  | .ok .cont, h => exact h.elim
  | .ok (.ret u), ⟨v, H', os, bare, un, hok', rv, q⟩ =>
    have q' : v = .bl true := q
    subst q'
    have hu : u = Value.bool true := rv
    subst hu
    refine ⟨rfl, OldK.of_keep fun b o z => ?_, os, bare⟩
    cases e : H b with
    | none => exact un.keep b o z e (by intro y; cases y) (by simp)
    | some t =>
      obtain ⟨rfl, _, rfl⟩ := onlyScr_get e
      rw [ha] at z
      cases z
      exact (hok' b _ (un.frzs b _ _ e)).1
/-- the end of a law -/
theorem walk_go {l : PySem.W.OpenLaw} {n k : Nat} {q : Program} {loose : List Str} {XP : (Str → Option Value) → Heap → Prop} {YP : World → Heap → Prop} {d : DefRec} {CX : CXT} {x : Str}
    (hn : l.most = some n) (hn2 : n ≤ sizeLine) (hdf : d.params.defaults = []) (hr : Room k callerA)
    (F : ∀ (w : World) (mg : Str → Option Value) (f : Addr) (h : Heap), YP w h → h.Ns mainGlobals mg → mg d.name = some (.ref f) → ∃ (K : PySem.W.Frag) (fd : FuncData) (sp : Sp), K.In h ∧ (∀ (s : Shared) (u : Value), BindsTo s fd ⟨[u], []⟩ [(x, u)]) ∧
      (∀ (H : Hp) (a : Addr) (ns : List Int), ns.length ≤ n → Only H → SqL K H a (ns.map V.int) → sp [.ref a] H (fun v _ => v = .bl true) fun _ _ _ => False) ∧ ∀ base : Heap, K.In base → base.Ns mainGlobals mg → FnG l.prog w K mg base CX k f fd [x] sp)
    (none_out : ∀ (H : Hp) (s : Shared) (e : Value) (s' : Shared), CX [] H s (fun _ _ _ => False) e s' → False) : PySem.W.WalkO q loose XP YP l.row.toRowW d [] (fun f vs => PySem.call f vs) :=
  Att.attach_call hn hdf fun w _ s _ _ f _ _ _ _ a _ ns G Y _ _ _ hmg hobj hints hlen hgen =>
    let ⟨_, _, _, kin, bind, prom, ok⟩ := F w _ f _ Y G.T.g hmg
    law_go kin G.T.g G.T.b G.T.builtins G.T.nolimit hgen hobj hints (Nat.le_trans hlen hn2) hr ok bind (fun H hO hS => prom H a ns hlen hO hS) fun H e s' => none_out H s e s'
/-! ## repr of data -/
section
variable {X : Cx}
/-- repr(x), x data of any depth but dicts -/
def rRepr (K : PySem.W.Frag) : List V → Hp → VK → Prop := fun xs H Q => ∃ (a : Addr) (d : PyData), xs = [.ref a] ∧ Dp K H (.ref a) d ∧ d.showable = true ∧ d.hasDict = false ∧ d.depth ≤ 60 ∧ d.shown.length ≤ sizeLine ∧ Q (.str d.shown) H
theorem call_repr {k : Nat} (hg : X.A.guards = some []) (hr : Room k X.A) : CallR X (.builtin "repr") (rRepr X.K) := by
  intro pins s σ H xs us Q I r h
  obtain ⟨a, d, rfl, hd, h1, h2, h3, h4, q⟩ := h
  obtain ⟨u, rfl, ru⟩ := vals1 r
  obtain ⟨as, rd⟩ := Dp.reads I d _ u hd ru
  have hu : u = Value.ref a := ru
  subst hu
  have room := hr.un
  refine repr_of_reads' rd h1 (fun z => by rw [h2] at z; cases z) hg (by omega) (fun _ _ e => e) (fun h' t tk hk => ?_) h4
  exact ⟨.str d.shown, H, I.kept hk, ⟨t, rfl⟩, q⟩
end
end Gd
namespace Gv
open PySem PySem.Spec PyProof.Rows L2
/-- repr(x), x any data but dicts -/
def rReprV (K : PySem.W.Frag) : List V → Hp → VK → Prop := fun xs H Q => ∃ (v : V) (d : PyData), xs = [v] ∧ Dp K H v d ∧ d.showable = true ∧ d.hasDict = false ∧ d.depth ≤ 60 ∧ d.shown.length ≤ sizeLine ∧ Q (.str d.shown) H
theorem call_reprV {X : Cx} {k : Nat} (hg : X.A.guards = some []) (hr : Room k X.A) : CallR X (.builtin "repr") (rReprV X.K) := by
  intro pins s σ H xs us Q I r h
  obtain ⟨v, d, rfl, hd, h1, h2, h3, h4, q⟩ := h
  cases hd with
  | lst a b => exact Gd.call_repr hg hr pins s σ H _ us Q I r ⟨_, _, rfl, .lst a b, h1, h2, h3, h4, q⟩
  | tup a b => exact Gd.call_repr hg hr pins s σ H _ us Q I r ⟨_, _, rfl, .tup a b, h1, h2, h3, h4, q⟩
  | non =>
    obtain ⟨u, rfl, ru⟩ := vals1 r
    have hu : u = Value.none := ru
    subst hu
    exact PySem.P.repr_of_none ⟨.str "None", H, I.tok _, ⟨_, rfl⟩, q⟩
  | bl b =>
    obtain ⟨u, rfl, ru⟩ := vals1 r
    have hu : u = Value.bool b := ru
    subst hu
    exact PySem.P.repr_of_bool ⟨.str _, H, I.tok _, ⟨_, rfl⟩, q⟩
  | int i =>
    obtain ⟨u, rfl, t, rfl⟩ := vals1 r
    exact PySem.P.repr_of_int (of_decide_eq_true h1) ⟨.str _, H, I.tok _, ⟨_, rfl⟩, q⟩
  | str x =>
    obtain ⟨u, rfl, t, rfl⟩ := vals1 r
    exact PySem.P.repr_of_str ⟨.str _, H, I.tok _, ⟨_, rfl⟩, q⟩ h4
end Gv
namespace Dat
open PySem PySem.Spec PyProof.Rows L2
/-! ## Data of any depth: its kind, and that it stays -/
def isIntD : PyData → Bool
  | .int _ => true
  | .bool _ => true
  | _ => false
def isBoolD : PyData → Bool
  | .bool _ => true
  | _ => false
def isRowD : PyData → Bool
  | .list _ => true
  | .tuple _ => true
  | _ => false
def clsD : PyData → String
  | .none => "NoneType"
  | .bool _ => "bool"
  | .int _ => "int"
  | .str _ => "str"
  | .list _ => "list"
  | .tuple _ => "tuple"
  | .dict _ => "dict"
section
variable {K : PySem.W.Frag} {H H' : Hp} {v : V} {d : PyData}
theorem ty_list {a : Addr} {xs : List V} (h : SqL K H a xs) : TyX K H (.ref a) (.type "list") := by
  rcases h with (h | ⟨o, h⟩) | ⟨o, its, n, h1, h2, _⟩
  · exact .base (.lst h)
  · exact .base (.frz h)
  · exact .kList h1 h2
theorem ty_tup {a : Addr} {xs : List V} (h : SqT K H a xs) : TyX K H (.ref a) (.type "tuple") := by
  rcases h with (h | ⟨o, h⟩) | ⟨o, its, n, h1, h2, _⟩
  · exact .base (.tup h)
  · exact .fTuple h
  · exact .kTuple h1 h2
theorem ty_of (h : Dp K H v d) : TyX K H v (.type (clsD d)) := by
  cases h with
  | non => exact .base .non
  | bl b => exact .base (.bl b)
  | int i => exact .base (.int i)
  | str x => exact .base (.str x)
  | lst hs _ => exact ty_list hs
  | tup hs _ => exact ty_tup hs
theorem kit_int (h : Dp K H v d) : PySem.W.kitOne K (.type (clsD d)) (.type "int") = some (isIntD d) := by
  cases h with
  | non => exact kit_ty (a := "NoneType") (b := "int") (r := false) (by decide +kernel)
  | bl _ => exact kit_ty (a := "bool") (b := "int") (r := true) (by decide +kernel)
  | int _ => exact kit_ty (a := "int") (b := "int") (r := true) (by decide +kernel)
  | str _ => exact kit_ty (a := "str") (b := "int") (r := false) (by decide +kernel)
  | lst _ _ => exact kit_ty (a := "list") (b := "int") (r := false) (by decide +kernel)
  | tup _ _ => exact kit_ty (a := "tuple") (b := "int") (r := false) (by decide +kernel)
theorem kit_bool (h : Dp K H v d) : PySem.W.kitOne K (.type (clsD d)) (.type "bool") = some (isBoolD d) := by
  cases h with
  | non => exact kit_ty (a := "NoneType") (b := "bool") (r := false) (by decide +kernel)
  | bl _ => exact kit_ty (a := "bool") (b := "bool") (r := true) (by decide +kernel)
  | int _ => exact kit_ty (a := "int") (b := "bool") (r := false) (by decide +kernel)
  | str _ => exact kit_ty (a := "str") (b := "bool") (r := false) (by decide +kernel)
  | lst _ _ => exact kit_ty (a := "list") (b := "bool") (r := false) (by decide +kernel)
  | tup _ _ => exact kit_ty (a := "tuple") (b := "bool") (r := false) (by decide +kernel)
theorem kit_row (h : Dp K H v d) : PySem.W.kitAny K (.type (clsD d)) [.type "tuple", .type "list"] = some (isRowD d) := by
  cases h with
  | non => exact kitAny_cons (b := false) (kit_ty (a := "NoneType") (b := "tuple") (r := false) (by decide +kernel)) (fun _ => kitAny_cons (b := false) (kit_ty (a := "NoneType") (b := "list") (r := false) (by decide +kernel)) (fun _ => rfl) (fun z => by cases z)) (fun z => by cases z)
  | bl _ => exact kitAny_cons (b := false) (kit_ty (a := "bool") (b := "tuple") (r := false) (by decide +kernel)) (fun _ => kitAny_cons (b := false) (kit_ty (a := "bool") (b := "list") (r := false) (by decide +kernel)) (fun _ => rfl) (fun z => by cases z)) (fun z => by cases z)
  | int _ => exact kitAny_cons (b := false) (kit_ty (a := "int") (b := "tuple") (r := false) (by decide +kernel)) (fun _ => kitAny_cons (b := false) (kit_ty (a := "int") (b := "list") (r := false) (by decide +kernel)) (fun _ => rfl) (fun z => by cases z)) (fun z => by cases z)
  | str _ => exact kitAny_cons (b := false) (kit_ty (a := "str") (b := "tuple") (r := false) (by decide +kernel)) (fun _ => kitAny_cons (b := false) (kit_ty (a := "str") (b := "list") (r := false) (by decide +kernel)) (fun _ => rfl) (fun z => by cases z)) (fun z => by cases z)
  | lst _ _ => exact kitAny_cons (b := false) (kit_ty (a := "list") (b := "tuple") (r := false) (by decide +kernel)) (fun _ => kitAny_cons (b := true) (kit_ty (a := "list") (b := "list") (r := true) (by decide +kernel)) (fun z => by cases z) (fun _ => rfl)) (fun z => by cases z)
  | tup _ _ => exact kitAny_cons (b := true) (kit_ty (a := "tuple") (b := "tuple") (r := true) (by decide +kernel)) (fun z => by cases z) (fun _ => rfl)
theorem seqT_same {a : Addr} {xs : List V} (s : Same H H') (h : SqT K H a xs) : SqT K H' a xs :=
  h.elim (fun h => .inl (h.elim (fun h => .inl (s _ _ h)) fun ⟨o, h⟩ => .inr ⟨o, s _ _ h⟩)) .inr
mutual
theorem dp_same (s : Same H H') : ∀ {d : PyData} {v : V}, Dp K H v d → Dp K H' v d
  | .none, _, h => by
    cases h
    exact .non
  | .bool b, _, h => by
    cases h
    exact .bl b
  | .int i, _, h => by
    cases h
    exact .int i
  | .str x, _, h => by
    cases h
    exact .str x
  | .list ds, _, h => by
    cases h with
    | lst hs ha => exact .lst (s.seq hs) (dps_same s ha)
  | .tuple ds, _, h => by
    cases h with
    | tup hs ha => exact .tup (seqT_same s hs) (dps_same s ha)
  | .dict _, _, h => by cases h
theorem dps_same (s : Same H H') : ∀ {ds : List PyData} {vs : List V}, DpAll K H vs ds → DpAll K H' vs ds
  | [], _, h => by
    cases h
    exact .nil
  | d :: ds, _, h => by
    cases h with
    | cons h1 h2 => exact .cons (dp_same s h1) (dps_same s h2)
end
theorem dps_len : ∀ {vs : List V} {ds : List PyData}, DpAll K H vs ds → vs.length = ds.length
  | _, [], h => by
    cases h
    rfl
  | _, _ :: _, h => by
    cases h with
    | cons _ h2 => exact congrArg Nat.succ (dps_len h2)
theorem dps_get : ∀ {vs : List V} {ds : List PyData}, DpAll K H vs ds → ∀ {i : Nat} {v : V}, vs[i]? = some v → ∃ d, ds[i]? = some d ∧ Dp K H v d
  | _, [], h, i, v, e => by
    cases h
    simp at e
  | _, d :: ds, h, i, v, e => by
    cases h with
    | cons h1 h2 =>
      cases i with
      | zero =>
        simp at e
        subst e
        exact ⟨d, rfl, h1⟩
      | succ i =>
        simp at e
        obtain ⟨d', q1, q2⟩ := dps_get h2 e
        exact ⟨d', by simpa using q1, q2⟩
end
end Dat
namespace Pen
open PySem
def top (i : Nat) : Stmt := PySem.Challenge.pw_everycycle_k16_whole_builders.main.body.getD i (.Pass ⟨0, 0, 0, 0⟩)
abbrev sBetween : Stmt := top 5
abbrev sFrom : Stmt := top 6
abbrev sRow : Stmt := top 7
abbrev sRowB : Stmt := top 8
abbrev cGraph : Stmt := top 10
abbrev sNeed : Stmt := top 11
abbrev sGates : Stmt := top 12
abbrev cBuild : Stmt := top 13
abbrev sOr : Stmt := top 14
abbrev sXorB : Stmt := top 15
abbrev sChoice : Stmt := top 16
abbrev sLitIn : Stmt := top 17
abbrev sPut : Stmt := top 18
abbrev sPen : Stmt := top 20
abbrev sDraw : Stmt := top 21
abbrev sPick : Stmt := top 22
abbrev sWhole : Stmt := top 23
abbrev sDrawn : Stmt := top 24
abbrev sValues : Stmt := top 25
abbrev sBit : Stmt := top 26
abbrev sFlip : Stmt := top 27
abbrev sLonger : Stmt := top 28
abbrev sRows : Stmt := top 29
abbrev sGatesOf : Stmt := top 30
abbrev sTold : Stmt := top 31
abbrev sAreLits : Stmt := top 32
abbrev sOwnAnd : Stmt := top 33
abbrev sLed : Stmt := top 34
abbrev sOwnPut : Stmt := top 35
abbrev sLits : Stmt := top 36
abbrev sSame : Stmt := top 37
abbrev sRight : Stmt := top 38
abbrev sFurther : Stmt := top 39
abbrev sLaw : Stmt := top 40
end Pen
namespace Pen
open PySem PySem.Spec PyProof.Rows L2
/-! ## The pen: the source of all draws. Its three defs, once for each law -/
abbrev FnP (K : PySem.W.Frag) (x : Str) (st : Stmt) (f : Addr) (fd : FuncData) : Prop := FunD K x x (defArgs st) (defBody st) (defScope st) [] [] f fd
/-- the pen's pairs: cells, at, digits, count, fold -/
def cols (c : Addr) (a d n f : Int) : List (Key × V) := [(.inr "cells", .ref c), (.inr "at", .int a), (.inr "digits", .int d), (.inr "count", .int n), (.inr "fold", .int f)]
section
variable {c : Addr} {a d n f z : Int}
theorem get_cells : valV (cols c a d n f) (.inr "cells" : Key) = some (.ref c) := by rfl
theorem get_at : valV (cols c a d n f) (.inr "at" : Key) = some (.int a) := by rfl
theorem get_digits : valV (cols c a d n f) (.inr "digits" : Key) = some (.int d) := by rfl
theorem get_count : valV (cols c a d n f) (.inr "count" : Key) = some (.int n) := by rfl
theorem get_fold : valV (cols c a d n f) (.inr "fold" : Key) = some (.int f) := by rfl
theorem put_at : putK (cols c a d n f) (.inr "at" : Key) (.int z) = cols c z d n f := by rfl
theorem put_digits : putK (cols c a d n f) (.inr "digits" : Key) (.int z) = cols c a z n f := by rfl
theorem put_count : putK (cols c a d n f) (.inr "count" : Key) (.int z) = cols c a d z f := by rfl
theorem put_fold : putK (cols c a d n f) (.inr "fold" : Key) (.int z) = cols c a d n z := by rfl
variable {H : Hp} {p : Addr}
theorem dg_cells (h : H p = some (.dK (cols c a d n f))) : DGet H p (.str "cells") (some (.ref c)) := DGet.k (k := .inr "cells") h
theorem dg_at (h : H p = some (.dK (cols c a d n f))) : DGet H p (.str "at") (some (.int a)) := DGet.k (k := .inr "at") h
theorem dg_digits (h : H p = some (.dK (cols c a d n f))) : DGet H p (.str "digits") (some (.int d)) := DGet.k (k := .inr "digits") h
theorem dg_count (h : H p = some (.dK (cols c a d n f))) : DGet H p (.str "count") (some (.int n)) := DGet.k (k := .inr "count") h
theorem dg_fold (h : H p = some (.dK (cols c a d n f))) : DGet H p (.str "fold") (some (.int f)) := DGet.k (k := .inr "fold") h
theorem five : 5 < sizeLine := by decide
theorem dp_at (h : H p = some (.dK (cols c a d n f))) : DPut H p (.str "at") (.int z) (upd H p (.dK (cols c z d n f))) := DPut.k (k := .inr "at") h five
theorem dp_digits (h : H p = some (.dK (cols c a d n f))) : DPut H p (.str "digits") (.int z) (upd H p (.dK (cols c a z n f))) := DPut.k (k := .inr "digits") h five
theorem dp_count (h : H p = some (.dK (cols c a d n f))) : DPut H p (.str "count") (.int z) (upd H p (.dK (cols c a d z f))) := DPut.k (k := .inr "count") h five
theorem dp_fold (h : H p = some (.dK (cols c a d n f))) : DPut H p (.str "fold") (.int z) (upd H p (.dK (cols c a d n z))) := DPut.k (k := .inr "fold") h five
end
/-- a pen stands at p, its cells at c; so many draws were made at most -/
def PenC (H : Hp) (p c : Addr) (m : Nat) : Prop :=
  ∃ (ns : List Int) (a d n f : Int), H p = some (.dK (cols c a d n f)) ∧ H c = some (.lst (ns.map V.int)) ∧ ns.length ≤ 1000 ∧ 0 ≤ a ∧ 0 ≤ n ∧ n ≤ m ∧ 0 ≤ f ∧ f < 2147483648
/-- all but the object at p stands as it stood -/
def But (p : Addr) (H H' : Hp) : Prop := ∀ b o, H b = some o → b ≠ p → H' b = some o
theorem But.upd {p : Addr} {H : Hp} {o : HO} : But p H (upd H p o) := fun b o e h => by
  rw [upd_ne h]
  exact e
theorem But.trans {p : Addr} {H H1 H2 : Hp} (a : But p H H1) (b : But p H1 H2) : But p H H2 := fun c o e h => b c o (a c o e h) h
theorem But.refl {p : Addr} {H : Hp} : But p H H := fun _ _ e _ => e
theorem But.of_same {p : Addr} {H H' : Hp} (s : Same H H') : But p H H' := fun c o e _ => s c o e
theorem PenC.same {H H' : Hp} {p c : Addr} {m : Nat} (h : PenC H p c m) (s : Same H H') : PenC H' p c m := by
  obtain ⟨ns, a, d, n, f, h1, h2, r⟩ := h
  exact ⟨ns, a, d, n, f, s _ _ h1, s _ _ h2, r⟩
theorem PenC.more {H : Hp} {p c : Addr} {m m' : Nat} (h : PenC H p c m) (s : m ≤ m') : PenC H p c m' := by
  obtain ⟨ns, a, d, n, f, h1, h2, h3, ha, h4, h5, r⟩ := h
  exact ⟨ns, a, d, n, f, h1, h2, h3, ha, h4, by omega, r⟩
theorem PenC.upd {H : Hp} {p c q : Addr} {m : Nat} {o : HO} (h : PenC H p c m) (n1 : q ≠ p) (n2 : q ≠ c) : PenC (upd H q o) p c m := by
  obtain ⟨ns, a, d, n, f, h1, h2, r⟩ := h
  exact ⟨ns, a, d, n, f, by rw [upd_ne n1.symm]; exact h1, by rw [upd_ne n2.symm]; exact h2, r⟩
theorem PenC.free {H : Hp} {p c q : Addr} {m : Nat} (h : PenC H p c m) (e : H q = none) : q ≠ p ∧ q ≠ c := by
  obtain ⟨ns, a, d, n, f, h1, h2, r⟩ := h
  refine ⟨fun z => ?_, fun z => ?_⟩
  · rw [z, h1] at e
    cases e
  · rw [z, h2] at e
    cases e
/-- the script, as each def is handed it -/
def spPen (K : PySem.W.Frag) : Sp := fun vs H Q _ => ∃ (a : Addr) (ns : List Int), vs = [.ref a] ∧ SqL K H a (ns.map V.int) ∧ ns.length ≤ 63 ∧
  ∀ (p c : Addr) (H' : Hp), H p = none → Same H H' → PenC H' p c 0 → Q (.ref p) H'
def spDraw : Sp := fun vs H Q _ => ∃ (p c : Addr) (m : Nat) (many : Int), vs = [.ref p, .int many] ∧ PenC H p c m ∧ m ≤ 1000000000000 ∧ 0 < many ∧ many < 1073741824 ∧
  ∀ (r : Int) (H' : Hp), 0 ≤ r → r < many → PenC H' p c (m + 1) → But p H H' → Q (.int r) H'
def spPick (K : PySem.W.Frag) : Sp := fun vs H Q _ => ∃ (p c l : Addr) (m : Nat) (xs : List V), vs = [.ref p, .ref l] ∧ PenC H p c m ∧ m ≤ 1000000000000 ∧ l ≠ p ∧ SqL K H l xs ∧ 0 < xs.length ∧ xs.length ≤ 1000 ∧
  ∀ (v : V) (i : Nat) (H' : Hp), xs[i]? = some v → PenC H' p c (m + 1) → But p H H' → Q v H'
abbrev pN : List Str := ["_law_script", "_law_fold", "_law_cell"]
abbrev dN : List Str := ["_law_pen_here", "_law_many", "_law_cell", "_law_digit", "_law_blend"]
abbrev kN : List Str := ["_law_pen_here", "_law_some"]
theorem int_item {ns : List Int} {i : Nat} {y : V} (h : (ns.map V.int)[i]? = some y) : ∃ z, y = V.int z := by
  rw [List.getElem?_map] at h
  cases e : ns[i]? with
  | none =>
    rw [e] at h
    cases h
  | some u =>
    rw [e] at h
    exact ⟨u, (Option.some.inj h).symm⟩
structure Txt (mg : Str → Option Value) : Prop where
  len : mg "len" = none
  int : mg "int" = none
  list : mg "list" = none
section
variable {P : Program} {w : World} {K : PySem.W.Frag} {mg : Str → Option Value} {base : Heap} {f : Addr} {fd : FuncData}
theorem scPen : FnScope pN ["_law_script"] (defScope sPen) := ⟨rfl, rfl, rfl, by decide +kernel, rfl, by decide +kernel, by decide +kernel⟩
theorem scDraw : FnScope dN ["_law_pen_here", "_law_many"] (defScope sDraw) := ⟨rfl, rfl, rfl, by decide +kernel, rfl, by decide +kernel, by decide +kernel⟩
theorem scPick : FnScope kN ["_law_pen_here", "_law_some"] (defScope sPick) := ⟨rfl, rfl, rfl, by decide +kernel, rfl, by decide +kernel, by decide +kernel⟩
theorem ok_pen {CX : CXT} (F : FnP K "_law_pen" sPen f fd) (T : Txt mg) : FnOk P w K mg base CX 1 f fd ["_law_script"] (spPen K) := by
  refine F.ok scPen (fun vs H Q E h => ?_) (fun cdv A outer s H vs Q E hr h => ?_)
  · obtain ⟨a, ns, rfl, _⟩ := h
    rfl
  · obtain ⟨a, ns, rfl, hS, hl, k⟩ := h
    refine ⟨_, PSs.nox (pss_cons (ps_set (i := 1) scPen.nd rfl (Or.inl rfl) pe_int)
      (pss_cons (ps_for PassesOwn.never rfl (pi_list (pv 0)) (pg_name (i := 2) scPen.nd rfl (Or.inl rfl))
        (pss_one (ps_set (i := 1) scPen.nd rfl (Or.inl rfl) (pe_op op_mod (pe_callTy call_int1 (by rfl) T.int (by decide +kernel) (pa_cons (pe_op op_add (pe_op op_mul (pv 1) pe_int) (pv 2)) pa_nil)) pe_int))))
      (pss_one (ps_ret (pe_disp (pps_cons pe_str (pe_callTy call_list_of (by rfl) T.list (by decide +kernel) (pa_cons (pv 0) pa_nil)) (pps_cons pe_str pe_int (pps_cons pe_str pe_int (pps_cons pe_str pe_int (pps_cons pe_str (pv 1) pps_nil))))) (by rfl) (by rfl) (fun z => by cases z) (by decide)))))), ?_⟩
    refine ⟨_, rfl, a, rfl, ⟨_, hS⟩, for_list (K := K) (a := a) (xs := ns.map V.int) (fun i σ H2 => ∃ (z : Int) (v : Option V), σ = [some (.ref a), some (.int z), v] ∧ H2 = H ∧ 0 ≤ z ∧ z < 1000000007)
      ⟨0, none, rfl, rfl, by decide, by decide⟩ (fun i σ H2 _ ⟨_, _, _, e, _⟩ => by rw [e]; exact hS) ?_ ?_⟩
    · rintro i y σ H2 hi ⟨z, v, rfl, rfl, h0, h1⟩
      obtain ⟨u, rfl⟩ := int_item hi
      refine ⟨_, rfl, _, _, rfl, rfl, .inr ⟨by decide, by decide⟩, _, rfl, _, _, rfl, rfl, .inl ⟨_, rfl, _, _, rfl, rfl, (by show (0 : Int) < 1000000007; decide), ?_⟩⟩
      exact ⟨_, _, rfl, rfl, Int.emod_nonneg _ (by decide), Int.emod_lt_of_pos _ (by decide)⟩
    · rintro σ H2 ⟨z, v, rfl, rfl, h0, h1⟩
      intro p hp
      have sp : Same H2 (upd H2 p (.dK [])) := fun b o e => by
        rw [upd_ne (ne_of_none e hp)]
        exact e
      refine ⟨_, rfl, a, _, rfl, .inl (sp.seq hS), fun l hl0 => ?_⟩
      have npl : p ≠ l := fun q => by
        rw [← q, upd_same] at hl0
        cases hl0
      have hl1 : H2 l = none := by
        rw [upd_ne npl.symm] at hl0
        exact hl0
      refine ⟨_, rfl, by rw [upd_ne npl, upd_same], cols l 0 0 0 z, rfl, (by show 5 ≤ 15; decide), ?_⟩
      refine k p l _ hp (fun b o e => ?_) ⟨ns, 0, 0, 0, z, upd_same, ?_, by omega, by decide, by decide, by decide, h0, by omega⟩
      · rw [upd_ne (ne_of_none e hp), upd_ne (ne_of_none e hl1), upd_ne (ne_of_none e hp)]
        exact e
      · rw [upd_ne npl.symm, upd_same]
theorem ok_draw {CX : CXT} (F : FnP K "_law_draw" sDraw f fd) (T : Txt mg) : FnOk P w K mg base CX 1 f fd ["_law_pen_here", "_law_many"] spDraw := by
  refine F.ok scDraw (fun vs H Q E h => ?_) (fun cdv A outer s H vs Q E hr h => ?_)
  · obtain ⟨p, c, m, many, rfl, _⟩ := h
    rfl
  · obtain ⟨p, c, m, many, rfl, ⟨ns, a, d, n, fo, hp, hc, hz, a0, n0, nm, f0, f1⟩, hm, m0, m1, k⟩ := h
    have hu := hu_of hr
    have ncp : c ≠ p := ne_of hc hp (by intro z; cases z)
    refine ⟨_, PSs.nox (pss_cons (ps_dput hu (pv 0) pe_str (pe_op op_add (pe_dget hu (pv 0) pe_str (fun _ _ => rfl)) pe_int) rfl)
      (C8.pss_cut (ps_if (PW.pt (pw_and (pt_cmpR op_eq (pe_dget hu (pv 0) pe_str (fun _ _ => rfl)) pe_int (nomark _))
          (pw_and1 (pt_cmpR op_lt (pe_dget hu (pv 0) pe_str (fun _ _ => rfl)) (pe_callB call_len_seq (by rfl) T.len PySem.boot_len (pa_cons (pe_dget hu (pv 0) pe_str (fun _ _ => rfl)) pa_nil)) (nomark _)))))
        (pss_cons (ps_set (i := 2) scDraw.nd rfl (Or.inl rfl) (pe_ix ix_list (pe_dget hu (pv 0) pe_str (fun _ _ => rfl)) (pe_dget hu (pv 0) pe_str (fun _ _ => rfl)) (fun _ _ => rfl)))
        (pss_cons (ps_dput hu (pv 0) pe_str (pe_op op_add (pe_dget hu (pv 0) pe_str (fun _ _ => rfl)) pe_int) rfl)
        (pss_one (ps_if (pt_cmpR op_ge (pv 2) (pe_op op_pow pe_int pe_int) (nomark _))
          (pss_one (ps_dput hu (pv 0) pe_str (pe_op op_sub (pv 2) (pe_op op_pow pe_int pe_int)) rfl))
          (pss_one (ps_dput hu (pv 0) pe_str (pe_op op_mod (pe_callTy call_int1 (by rfl) T.int (by decide +kernel) (pa_cons (pe_op op_add (pe_op op_mul (pe_dget hu (pv 0) pe_str (fun _ _ => rfl)) pe_int) (pv 2)) pa_nil)) pe_int) rfl))))))
        pss_nil)
      (pss_cons (ps_if (pt_cmpR op_gt (pe_dget hu (pv 0) pe_str (fun _ _ => rfl)) pe_int (nomark _))
        (pss_cons (ps_set (i := 3) scDraw.nd rfl (Or.inl rfl) (pe_op op_mod (pe_callTy call_int1 (by rfl) T.int (by decide +kernel) (pa_cons (pe_dget hu (pv 0) pe_str (fun _ _ => rfl)) pa_nil)) (pv 1)))
        (pss_cons (ps_dput hu (pv 0) pe_str (pe_op op_fdiv (pe_dget hu (pv 0) pe_str (fun _ _ => rfl)) (pv 1)) rfl)
        (pss_one (ps_ret (pv 3)))))
        pss_nil)
      (pss_cons (ps_set (i := 4) scDraw.nd rfl (Or.inl rfl) (pe_op op_add (pe_op op_add (pe_dget hu (pv 0) pe_str (fun _ _ => rfl)) (pe_op op_mul (pe_dget hu (pv 0) pe_str (fun _ _ => rfl)) pe_int)) pe_int))
      (pss_one (ps_ret (pe_op op_mod (pe_op op_fdiv (pe_callTy call_int1 (by rfl) T.int (by decide +kernel) (pa_cons (pe_op op_mod (pe_op op_pow (pv 4) pe_int) pe_int) pa_nil)) pe_int) (pv 1)))))))), ?_⟩
    -- count
    refine ⟨_, rfl, _, _, rfl, dg_count hp, _, _, rfl, rfl, _, rfl, p, _, rfl, dp_count hp, ?_⟩
    have hp1 : ∀ {o : HO}, upd H p o p = some o := upd_same
    have hc1 : ∀ {o : HO}, upd H p o c = some (.lst (ns.map V.int)) := by
      intro o
      rw [upd_ne ncp]
      exact hc
    refine ⟨fun σ H2 => ∃ (a' d' fo' : Int) (cell : Option V), σ = [some (.ref p), some (.int many), cell, none, none] ∧ H2 = upd H p (.dK (cols c a' d' (n + 1) fo')) ∧ 0 ≤ a' ∧ 0 ≤ fo' ∧ fo' < 2147483648, ?_, ?_⟩
    · refine ⟨_, rfl, _, _, rfl, dg_digits hp1, rfl, _, rfl, ?_⟩
      refine ite2 (fun _ => ?_) (fun _ => ?_)
      · refine ⟨_, rfl, _, _, rfl, dg_at hp1, _, rfl, _, _, rfl, dg_cells hp1, _, _, rfl, .inl (SqL.of hc1), _, _, rfl, rfl, _, rfl, ?_⟩
        refine ite2 (fun hlt => ?_) (fun _ => ?_)
        · have hlt := of_decide_eq_true hlt
          have hj : a.toNat < (ns.map V.int).length := by omega
          obtain ⟨u, hu2⟩ := int_item (List.getElem?_eq_getElem hj)
          have hit : (ns.map V.int)[a.toNat]? = some (V.int u) := by
            rw [List.getElem?_eq_getElem hj, hu2]
          refine ⟨_, rfl, _, _, rfl, dg_cells hp1, _, rfl, _, _, rfl, dg_at hp1, _, _, _, _, rfl, rfl, SqL.of hc1, at_of (j := a.toNat) (by omega) hit, ?_⟩
          refine ⟨_, rfl, _, _, rfl, dg_at hp1, _, _, rfl, rfl, _, rfl, p, _, rfl, dp_at hp1, ?_⟩
          rw [upd_upd]
          refine ⟨_, rfl, _, _, rfl, rfl, ⟨by decide, by decide, by decide⟩, _, _, rfl, rfl, _, rfl, ?_⟩
          refine ite2 (fun _ => ?_) (fun _ => ?_)
          · refine ⟨_, rfl, _, _, rfl, rfl, ⟨by decide, by decide, by decide⟩, _, _, rfl, rfl, _, rfl, p, _, rfl, dp_digits hp1, ?_⟩
            rw [upd_upd]
            exact ⟨_, _, _, _, rfl, rfl, by omega, f0, f1⟩
          · refine ⟨_, rfl, _, _, rfl, dg_fold hp1, _, _, rfl, rfl, .inr ⟨by decide, by decide⟩, _, rfl, _, _, rfl, rfl, .inl ⟨_, rfl, _, _, rfl, rfl, (by show (0 : Int) < 2147483587; decide), ?_⟩⟩
            refine ⟨_, rfl, p, _, rfl, dp_fold hp1, ?_⟩
            rw [upd_upd]
            exact ⟨_, _, _, _, rfl, rfl, by omega, Int.emod_nonneg _ (by decide), Int.lt_trans (Int.emod_lt_of_pos _ (by decide)) (by decide)⟩
        · exact ⟨_, _, _, _, rfl, rfl, a0, f0, f1⟩
      · exact ⟨_, _, _, _, rfl, rfl, a0, f0, f1⟩
    · rintro σ H2 ⟨a', d', fo', cell, rfl, rfl, h0, g0, g1⟩
      refine ⟨_, rfl, _, _, rfl, dg_digits hp1, _, _, rfl, rfl, _, rfl, ?_⟩
      refine ite2 (fun _ => ?_) (fun _ => ?_)
      · refine ⟨_, rfl, _, _, rfl, dg_digits hp1, .inl ⟨_, rfl, _, rfl, _, _, rfl, rfl, m0, ?_⟩⟩
        refine ⟨_, rfl, _, _, rfl, dg_digits hp1, _, rfl, _, _, rfl, rfl, ⟨m0, m1⟩, _, rfl, p, _, rfl, dp_digits hp1, ?_⟩
        rw [upd_upd]
        refine ⟨_, rfl, k _ _ (Int.emod_nonneg _ (by omega)) (Int.emod_lt_of_pos _ m0) ⟨ns, _, _, _, _, hp1, hc1, hz, h0, by omega, by omega, g0, g1⟩ But.upd⟩
      · refine ⟨_, rfl, _, _, rfl, dg_fold hp1, _, rfl, _, _, rfl, dg_count hp1, _, _, rfl, rfl, .inr ⟨by decide, by decide⟩, _, _, rfl, rfl, _, _, rfl, rfl, ?_⟩
        refine ⟨_, rfl, _, _, rfl, rfl, ⟨by decide, by decide, ?_⟩, _, _, rfl, rfl, (by show (0 : Int) < 2305843009213693951; decide), .inl ⟨_, rfl, _, _, rfl, rfl, ⟨by decide, by decide⟩, _, rfl, _, _, rfl, rfl, m0, ?_⟩⟩
        · omega
        · exact k _ _ (Int.emod_nonneg _ (by omega)) (Int.emod_lt_of_pos _ m0) ⟨ns, _, _, _, _, hp1, hc1, hz, h0, by omega, by omega, g0, g1⟩ But.upd
theorem ok_pick {CX : CXT} {fD : Addr} {fdD : FuncData} (F : FnP K "_law_pick" sPick f fd) (T : Txt mg) (FD : FnP K "_law_draw" sDraw fD fdD) (gD : mg "_law_draw" = some (.ref fD)) (hCX : ∀ X, Passes CX X E0 := by exact fun X => pass0) : FnOk P w K mg base CX 2 f fd ["_law_pen_here", "_law_some"] (spPick K) := by
  have GD : FnOk P w K mg base CX0 1 fD fdD ["_law_pen_here", "_law_many"] spDraw := ok_draw FD T
  have bD : Binds K fdD ["_law_pen_here", "_law_many"] [] := FD.bindsN fun _ _ _ _ _ _ us hl => match us, hl with | [_, _], _ => rfl
  refine F.ok scPick (fun vs H Q E h => ?_) (fun cdv A outer s H vs Q E hr h => ?_)
  · obtain ⟨p, c, l, m, xs, rfl, _⟩ := h
    rfl
  · obtain ⟨p, c, l, m, xs, rfl, hP, hm, hlp, hS, h0, h1, k⟩ := h
    refine ⟨_, PSs.nox (pss_one (ps_ret (pe_ix ix_list (pv 1) (pe_call GD hr rfl gD FD.kp bD .nil pass0 (pa_cons (pv 0) (pa_cons (pe_callB call_len_seq (by rfl) T.len PySem.boot_len (pa_cons (pv 1) pa_nil)) pa_nil))) (fun _ _ => rfl)))), ?_⟩
    refine ⟨_, rfl, _, rfl, _, rfl, _, _, rfl, .inl hS, p, c, m, _, rfl, hP, hm, by omega, by omega, fun r H' r0 r1 hP' hB => ?_⟩
    have hj : r.toNat < xs.length := by omega
    have hS' : SqL K H' l xs := by
      rcases hS with (h | ⟨o, h⟩) | h
      · exact .inl (.inl (hB _ _ h hlp))
      · exact .inl (.inr ⟨o, hB _ _ h hlp⟩)
      · exact .inr h
    exact ⟨_, _, _, _, rfl, rfl, hS', at_of (j := r.toNat) (by omega) (List.getElem?_eq_getElem hj), k _ _ _ (List.getElem?_eq_getElem hj) hP' hB⟩
end
end Pen
namespace Ki
open PySem PySem.Spec PyProof.Rows L2 Pen Dat
/-! ## Of which kind a value is -/
structure Tx (mg : Str → Option Value) : Prop where
  isi : mg "isinstance" = none
  int : mg "int" = none
  bool : mg "bool" = none
  tuple : mg "tuple" = none
  list : mg "list" = none
  len : mg "len" = none
  all : mg "all" = none
def betD (d : PyData) (lo hi : Int) : Bool :=
  match d with
  | .int i => decide (lo ≤ i) && decide (i ≤ hi)
  | _ => false
def fromD (d : PyData) (lo : Int) : Bool :=
  match d with
  | .int i => decide (i ≥ lo)
  | _ => false
def rowsD (d : PyData) : List PyData :=
  match d with
  | .list ds => ds
  | .tuple ds => ds
  | _ => []
def rowB (d : PyData) (many lo hi : Int) : Bool := isRowD d && (decide (((rowsD d).length : Int) = many) && (rowsD d).all fun e => betD e lo hi)
def spBetween (K : PySem.W.Frag) : Sp := fun vs H Q _ => ∃ (v : V) (lo hi : Int) (d : PyData), vs = [v, .int lo, .int hi] ∧ Dp K H v d ∧ Q (.bl (betD d lo hi)) H
def spFrom (K : PySem.W.Frag) : Sp := fun vs H Q _ => ∃ (v : V) (lo : Int) (d : PyData), vs = [v, .int lo] ∧ Dp K H v d ∧ Q (.bl (fromD d lo)) H
def spRow (K : PySem.W.Frag) : Sp := fun vs H Q _ => ∃ (v : V) (d : PyData), vs = [v] ∧ Dp K H v d ∧ ∀ H', Same H H' → Q (.bl (isRowD d)) H'
def spRowB (K : PySem.W.Frag) : Sp := fun vs H Q _ => ∃ (v : V) (many lo hi : Int) (d : PyData), vs = [v, .int many, .int lo, .int hi] ∧ Dp K H v d ∧ (rowsD d).length ≤ 1000 ∧ ∀ H', Same H H' → Q (.bl (rowB d many lo hi)) H'
section
variable {P : Program} {w : World} {K : PySem.W.Frag} {mg : Str → Option Value} {base : Heap} {f : Addr} {fd : FuncData}
theorem same_new {H : Hp} {p : Addr} {u : HO} (np : H p = none) : Same H (upd H p u) := fun b o e => by
  rw [upd_ne (ne_of_none e np)]
  exact e
theorem scBetween : FnScope ["value", "least", "most"] ["value", "least", "most"] (defScope sBetween) := ⟨rfl, rfl, rfl, by decide +kernel, rfl, by decide +kernel, by decide +kernel⟩
theorem scFrom : FnScope ["value", "least"] ["value", "least"] (defScope sFrom) := ⟨rfl, rfl, rfl, by decide +kernel, rfl, by decide +kernel, by decide +kernel⟩
theorem scRow : FnScope ["value"] ["value"] (defScope sRow) := ⟨rfl, rfl, rfl, by decide +kernel, rfl, by decide +kernel, by decide +kernel⟩
abbrev rbN : List Str := ["value", "many", "least", "most", "part"]
theorem scRowB : FnScope rbN ["value", "many", "least", "most"] (defScope sRowB) := ⟨rfl, rfl, rfl, by decide +kernel, rfl, by decide +kernel, by decide +kernel⟩
theorem ok_between (F : FnP K "is_between" sBetween f fd) (T : Tx mg) : FnOk P w K mg base CX0 1 f fd ["value", "least", "most"] (spBetween K) := by
  refine F.ok scBetween (fun vs H Q E h => ?_) (fun cdv A outer s H vs Q E hr h => ?_)
  · obtain ⟨v, lo, hi, d, rfl, _⟩ := h
    rfl
  · obtain ⟨v, lo, hi, d, rfl, hd, q⟩ := h
    refine ⟨_, PSs.nox (pss_one (ps_ret (pe_and (pe_callB call_isi (by rfl) T.isi (by decide +kernel) (pa_cons (pv 0) (pa_cons (pe_bltn (v := .ty "int") (by rfl) T.int (by decide +kernel) rfl) pa_nil)))
      (pe_and (pe_not (pe_callB call_isi (by rfl) T.isi (by decide +kernel) (pa_cons (pv 0) (pa_cons (pe_bltn (v := .ty "bool") (by rfl) T.bool (by decide +kernel) rfl) pa_nil))))
      (pe_one (pe_chain op_le op_le (pv 1) (pv 0) (pv 2))))))), ?_⟩
    refine ⟨_, rfl, _, _, _, _, _, rfl, .ty _, ty_of hd, kit_int hd, _, rfl, ?_⟩
    have kb := kit_bool hd
    have tb := ty_of hd
    cases hd with
    | non => exact iteF q
    | str x => exact iteF q
    | lst _ _ => exact iteF q
    | tup _ _ => exact iteF q
    | bl b => exact iteT ⟨_, rfl, _, _, _, _, _, rfl, .ty _, tb, kb, _, rfl, _, rfl, iteF q⟩
    | int i =>
      refine iteT ⟨_, rfl, _, _, _, _, _, rfl, .ty _, tb, kb, _, rfl, _, rfl, iteT ?_⟩
      refine ⟨_, rfl, _, rfl, _, _, rfl, rfl, _, rfl, ite2 (fun h1 => ?_) (fun h1 => ?_)⟩
      · refine ⟨_, rfl, _, _, rfl, rfl, ?_⟩
        have e : (decide (lo ≤ i) && decide (i ≤ hi)) = decide (i ≤ hi) := by
          rw [h1]
          rfl
        show Q (V.bl (decide (i ≤ hi))) H
        rw [← e]
        exact q
      · have e : (decide (lo ≤ i) && decide (i ≤ hi)) = false := by
          rw [Bool.eq_false_iff.mpr h1]
          rfl
        show Q (V.bl false) H
        rw [← e]
        exact q
theorem ok_from (F : FnP K "is_from" sFrom f fd) (T : Tx mg) : FnOk P w K mg base CX0 1 f fd ["value", "least"] (spFrom K) := by
  refine F.ok scFrom (fun vs H Q E h => ?_) (fun cdv A outer s H vs Q E hr h => ?_)
  · obtain ⟨v, lo, d, rfl, _⟩ := h
    rfl
  · obtain ⟨v, lo, d, rfl, hd, q⟩ := h
    refine ⟨_, PSs.nox (pss_one (ps_ret (pe_and (pe_callB call_isi (by rfl) T.isi (by decide +kernel) (pa_cons (pv 0) (pa_cons (pe_bltn (v := .ty "int") (by rfl) T.int (by decide +kernel) rfl) pa_nil)))
      (pe_and (pe_not (pe_callB call_isi (by rfl) T.isi (by decide +kernel) (pa_cons (pv 0) (pa_cons (pe_bltn (v := .ty "bool") (by rfl) T.bool (by decide +kernel) rfl) pa_nil))))
      (pe_one (pe_cmpR op_ge (pv 0) (pv 1) (nomark _))))))), ?_⟩
    refine ⟨_, rfl, _, _, _, _, _, rfl, .ty _, ty_of hd, kit_int hd, _, rfl, ?_⟩
    have kb := kit_bool hd
    have tb := ty_of hd
    cases hd with
    | non => exact iteF q
    | str x => exact iteF q
    | lst _ _ => exact iteF q
    | tup _ _ => exact iteF q
    | bl b => exact iteT ⟨_, rfl, _, _, _, _, _, rfl, .ty _, tb, kb, _, rfl, _, rfl, iteF q⟩
    | int i =>
      refine iteT ⟨_, rfl, _, _, _, _, _, rfl, .ty _, tb, kb, _, rfl, _, rfl, iteT ?_⟩
      exact ⟨_, rfl, _, rfl, _, _, rfl, rfl, q⟩
theorem ok_row (F : FnP K "is_row" sRow f fd) (T : Tx mg) : FnOk P w K mg base CX0 1 f fd ["value"] (spRow K) := by
  refine F.ok scRow (fun vs H Q E h => ?_) (fun cdv A outer s H vs Q E hr h => ?_)
  · obtain ⟨v, d, rfl, _⟩ := h
    rfl
  · obtain ⟨v, d, rfl, hd, q⟩ := h
    refine ⟨_, PSs.nox (pss_one (ps_ret (pe_callB call_isiT (by rfl) T.isi (by decide +kernel) (pa_cons (pv 0) (pa_cons (pe_tup (pa_cons (pe_bltn (v := .ty "tuple") (by rfl) T.tuple (by decide +kernel) rfl) (pa_cons (pe_bltn (v := .ty "list") (by rfl) T.list (by decide +kernel) rfl) pa_nil))) pa_nil))))), ?_⟩
    refine ⟨_, rfl, (by show 2 ≤ sizeLine; decide), fun p np => ?_⟩
    exact ⟨_, _, _, _, _, _, rfl, upd_same, .cons (.ty _) (.cons (.ty _) .nil), ty_of (dp_same (same_new np) hd), kit_row hd, q _ (same_new np)⟩
theorem take_more {α : Type} {xs : List α} {i : Nat} {x : α} (h : xs[i]? = some x) : xs.take (i + 1) = xs.take i ++ [x] := by
  rw [List.take_succ, h]
  rfl
theorem yes_of {σ : L2.St} {H : Hp} {A B : Hp → Prop} (h : A H) : tYes σ H fun b H3 => if b = true then A H3 else B H3 := by
  show if true = true then A H else B H
  exact iteT h
theorem ok_rowB {fB fR : Addr} {fdB fdR : FuncData} (F : FnP K "is_row_between" sRowB f fd) (T : Tx mg) (FB : FnP K "is_between" sBetween fB fdB) (gB : mg "is_between" = some (.ref fB)) (FR : FnP K "is_row" sRow fR fdR) (gR : mg "is_row" = some (.ref fR)) :
    FnOk P w K mg base CX0 2 f fd ["value", "many", "least", "most"] (spRowB K) := by
  have GB : FnOk P w K mg base CX0 1 fB fdB ["value", "least", "most"] (spBetween K) := ok_between FB T
  have GR : FnOk P w K mg base CX0 1 fR fdR ["value"] (spRow K) := ok_row FR T
  have bB : Binds K fdB ["value", "least", "most"] [] := FB.bindsN fun _ _ _ _ _ _ us hl => match us, hl with | [_, _, _], _ => rfl
  have bR : Binds K fdR ["value"] [] := FR.bindsN fun _ _ _ _ _ _ us hl => match us, hl with | [_], _ => rfl
  refine F.ok scRowB (fun vs H Q E h => ?_) (fun cdv A outer s H vs Q E hr h => ?_)
  · obtain ⟨v, many, lo, hi, d, rfl, _⟩ := h
    rfl
  · obtain ⟨v, many, lo, hi, d, rfl, hd, hz, q⟩ := h
    cases hd with
    | lst hs ha =>
      rename_i a vs ds
      have hlen := dps_len ha
      have hz' : ds.length ≤ 1000 := hz
      refine ⟨_, PSs.nox (pss_one (ps_ret (pe_and (pe_call GR hr (by rfl) gR FR.kp bR .nil pass0 (pa_cons (pv 0) pa_nil))
        (pe_and (pe_cmpR op_eq (pe_callB call_len_seq (by rfl) T.len PySem.boot_len (pa_cons (pv 0) pa_nil)) (pv 1) (nomark _))
        (pe_one (pe_callB (cr_all rfl) (by rfl) T.all (by decide +kernel) (pa_cons
          (pe_lc (own := [("part", 4)]) (g := gName 4) (tt := tYes) rfl scRowB.nd (pi_list (pv 0)) (blkOk_by (N := rbN) (sc := defScope sRowB) (by decide +kernel)) (fun _ _ _ _ _ => pg_name (i := 4) scRowB.nd rfl (Or.inl rfl)) (fun _ _ _ _ _ => pts_nil)
            (fun _ _ _ _ _ => pe_call GB hr (by rfl) gB FB.kp bB .nil pass0 (pa_cons (pv 4) (pa_cons (pv 2) (pa_cons (pv 3) pa_nil))))) pa_nil))))))), ?_⟩
      refine ⟨_, rfl, _, _, rfl, .lst hs ha, fun H1 s1 => ⟨_, rfl, iteT ?_⟩⟩
      refine ⟨_, rfl, _, _, rfl, .inl (s1.seq hs), _, rfl, rfl, _, rfl, ite2 (fun e1 => ?_) (fun e1 => ?_)⟩
      · have e2 : (ds.length : Int) = many := by
          rw [← hlen]
          exact V.int.inj (of_decide_eq_true e1)
        refine ⟨_, rfl, a, rfl, ⟨_, s1.seq hs⟩, fun D nD => ?_⟩
        have sD : Same H1 (upd H1 D (.lst [])) := same_new nD
        refine lc_list (K := K) (a := a) (xs := vs) (fun i H2 => Same H1 H2 ∧ H2 D = some (.lst ((ds.take i).map fun e => V.bl (betD e lo hi)))) ⟨sD, by rw [upd_same]; rfl⟩ (fun i H2 _ ⟨s2, _⟩ => s2.seq (s1.seq hs)) ?_ ?_
        · rintro i v H2 hi ⟨s2, h2⟩
          obtain ⟨e, he, hv⟩ := dps_get ha hi
          refine ⟨rfl, yes_of ?_⟩
          refine ⟨_, rfl, _, rfl, _, rfl, _, _, _, e, rfl, dp_same (s1.trans s2) hv, _, h2, ?_, fun b o z => ?_, ?_⟩
          · rw [List.length_map, List.length_take]
            exact Nat.lt_of_le_of_lt (Nat.min_le_right _ _) (Nat.lt_of_le_of_lt hz' (by decide))
          · rw [upd_ne (ne_of_none z nD)]
            exact s2 _ _ z
          · rw [upd_same, take_more he, List.map_append]
            rfl
        · rintro H2 ⟨s2, h2⟩
          rw [hlen, List.take_length] at h2
          refine ⟨D, ds.map fun e => betD e lo hi, rfl, SqL.of ?_, ?_⟩
          · rw [h2, List.map_map]
            rfl
          · have e3 : rowB (.list ds) many lo hi = (ds.map fun e => betD e lo hi).all id := by
              show (true && (decide ((ds.length : Int) = many) && ds.all fun e => betD e lo hi)) = _
              rw [decide_eq_true e2, List.all_map]
              rfl
            rw [← e3]
            exact q _ (s1.trans s2)
      · have e2 : ¬ (ds.length : Int) = many := fun z => e1 (decide_eq_true (by rw [hlen, z]))
        have e3 : rowB (.list ds) many lo hi = false := by
          show (true && (decide ((ds.length : Int) = many) && ds.all fun e => betD e lo hi)) = false
          rw [decide_eq_false e2]
          rfl
        rw [← e3]
        exact q _ s1
    | tup hs ha =>
      rename_i a vs ds
      have hlen := dps_len ha
      have hz' : ds.length ≤ 1000 := hz
      refine ⟨_, PSs.nox (pss_one (ps_ret (pe_and (pe_call GR hr (by rfl) gR FR.kp bR .nil pass0 (pa_cons (pv 0) pa_nil))
        (pe_and (pe_cmpR op_eq (pe_callB call_len_seq (by rfl) T.len PySem.boot_len (pa_cons (pv 0) pa_nil)) (pv 1) (nomark _))
        (pe_one (pe_callB (cr_all rfl) (by rfl) T.all (by decide +kernel) (pa_cons
          (pe_lc (own := [("part", 4)]) (g := gName 4) (tt := tYes) rfl scRowB.nd (pi_tup (pv 0)) (blkOk_by (N := rbN) (sc := defScope sRowB) (by decide +kernel)) (fun _ _ _ _ _ => pg_name (i := 4) scRowB.nd rfl (Or.inl rfl)) (fun _ _ _ _ _ => pts_nil)
            (fun _ _ _ _ _ => pe_call GB hr (by rfl) gB FB.kp bB .nil pass0 (pa_cons (pv 4) (pa_cons (pv 2) (pa_cons (pv 3) pa_nil))))) pa_nil))))))), ?_⟩
      refine ⟨_, rfl, _, _, rfl, .tup hs ha, fun H1 s1 => ⟨_, rfl, iteT ?_⟩⟩
      refine ⟨_, rfl, _, _, rfl, .inr (seqT_same s1 hs), _, rfl, rfl, _, rfl, ite2 (fun e1 => ?_) (fun e1 => ?_)⟩
      · have e2 : (ds.length : Int) = many := by
          rw [← hlen]
          exact V.int.inj (of_decide_eq_true e1)
        refine ⟨_, rfl, a, rfl, ⟨_, seqT_same s1 hs⟩, fun D nD => ?_⟩
        have sD : Same H1 (upd H1 D (.lst [])) := same_new nD
        refine lc_tup (K := K) (a := a) (xs := vs) (fun i H2 => Same H1 H2 ∧ H2 D = some (.lst ((ds.take i).map fun e => V.bl (betD e lo hi)))) ⟨sD, by rw [upd_same]; rfl⟩ (fun i H2 _ ⟨s2, _⟩ => seqT_same s2 (seqT_same s1 hs)) ?_ ?_
        · rintro i v H2 hi ⟨s2, h2⟩
          obtain ⟨e, he, hv⟩ := dps_get ha hi
          refine ⟨rfl, yes_of ?_⟩
          refine ⟨_, rfl, _, rfl, _, rfl, _, _, _, e, rfl, dp_same (s1.trans s2) hv, _, h2, ?_, fun b o z => ?_, ?_⟩
          · rw [List.length_map, List.length_take]
            exact Nat.lt_of_le_of_lt (Nat.min_le_right _ _) (Nat.lt_of_le_of_lt hz' (by decide))
          · rw [upd_ne (ne_of_none z nD)]
            exact s2 _ _ z
          · rw [upd_same, take_more he, List.map_append]
            rfl
        · rintro H2 ⟨s2, h2⟩
          rw [hlen, List.take_length] at h2
          refine ⟨D, ds.map fun e => betD e lo hi, rfl, SqL.of ?_, ?_⟩
          · rw [h2, List.map_map]
            rfl
          · have e3 : rowB (.tuple ds) many lo hi = (ds.map fun e => betD e lo hi).all id := by
              show (true && (decide ((ds.length : Int) = many) && ds.all fun e => betD e lo hi)) = _
              rw [decide_eq_true e2, List.all_map]
              rfl
            rw [← e3]
            exact q _ (s1.trans s2)
      · have e2 : ¬ (ds.length : Int) = many := fun z => e1 (decide_eq_true (by rw [hlen, z]))
        have e3 : rowB (.tuple ds) many lo hi = false := by
          show (true && (decide ((ds.length : Int) = many) && ds.all fun e => betD e lo hi)) = false
          rw [decide_eq_false e2]
          rfl
        rw [← e3]
        exact q _ s1
    | non =>
      refine ⟨_, PSs.nox (pss_one (ps_ret (pe_and (pe_call GR hr (by rfl) gR FR.kp bR .nil pass0 (pa_cons (pv 0) pa_nil))
        (pe_and (pe_cmpR op_eq (pe_callB call_len_seq (by rfl) T.len PySem.boot_len (pa_cons (pv 0) pa_nil)) (pv 1) (nomark _))
        (pe_one (pe_callB (cr_all rfl) (by rfl) T.all (by decide +kernel) (pa_cons
          (pe_lc (own := [("part", 4)]) (g := gName 4) (tt := tYes) rfl scRowB.nd (pi_list (pv 0)) (blkOk_by (N := rbN) (sc := defScope sRowB) (by decide +kernel)) (fun _ _ _ _ _ => pg_name (i := 4) scRowB.nd rfl (Or.inl rfl)) (fun _ _ _ _ _ => pts_nil)
            (fun _ _ _ _ _ => pe_call GB hr (by rfl) gB FB.kp bB .nil pass0 (pa_cons (pv 4) (pa_cons (pv 2) (pa_cons (pv 3) pa_nil))))) pa_nil))))))), ?_⟩
      exact ⟨_, rfl, _, _, rfl, .non, fun H1 s1 => ⟨_, rfl, iteF (q _ s1)⟩⟩
    | bl b =>
      refine ⟨_, PSs.nox (pss_one (ps_ret (pe_and (pe_call GR hr (by rfl) gR FR.kp bR .nil pass0 (pa_cons (pv 0) pa_nil))
        (pe_and (pe_cmpR op_eq (pe_callB call_len_seq (by rfl) T.len PySem.boot_len (pa_cons (pv 0) pa_nil)) (pv 1) (nomark _))
        (pe_one (pe_callB (cr_all rfl) (by rfl) T.all (by decide +kernel) (pa_cons
          (pe_lc (own := [("part", 4)]) (g := gName 4) (tt := tYes) rfl scRowB.nd (pi_list (pv 0)) (blkOk_by (N := rbN) (sc := defScope sRowB) (by decide +kernel)) (fun _ _ _ _ _ => pg_name (i := 4) scRowB.nd rfl (Or.inl rfl)) (fun _ _ _ _ _ => pts_nil)
            (fun _ _ _ _ _ => pe_call GB hr (by rfl) gB FB.kp bB .nil pass0 (pa_cons (pv 4) (pa_cons (pv 2) (pa_cons (pv 3) pa_nil))))) pa_nil))))))), ?_⟩
      exact ⟨_, rfl, _, _, rfl, .bl b, fun H1 s1 => ⟨_, rfl, iteF (q _ s1)⟩⟩
    | int i =>
      refine ⟨_, PSs.nox (pss_one (ps_ret (pe_and (pe_call GR hr (by rfl) gR FR.kp bR .nil pass0 (pa_cons (pv 0) pa_nil))
        (pe_and (pe_cmpR op_eq (pe_callB call_len_seq (by rfl) T.len PySem.boot_len (pa_cons (pv 0) pa_nil)) (pv 1) (nomark _))
        (pe_one (pe_callB (cr_all rfl) (by rfl) T.all (by decide +kernel) (pa_cons
          (pe_lc (own := [("part", 4)]) (g := gName 4) (tt := tYes) rfl scRowB.nd (pi_list (pv 0)) (blkOk_by (N := rbN) (sc := defScope sRowB) (by decide +kernel)) (fun _ _ _ _ _ => pg_name (i := 4) scRowB.nd rfl (Or.inl rfl)) (fun _ _ _ _ _ => pts_nil)
            (fun _ _ _ _ _ => pe_call GB hr (by rfl) gB FB.kp bB .nil pass0 (pa_cons (pv 4) (pa_cons (pv 2) (pa_cons (pv 3) pa_nil))))) pa_nil))))))), ?_⟩
      exact ⟨_, rfl, _, _, rfl, .int i, fun H1 s1 => ⟨_, rfl, iteF (q _ s1)⟩⟩
    | str x =>
      refine ⟨_, PSs.nox (pss_one (ps_ret (pe_and (pe_call GR hr (by rfl) gR FR.kp bR .nil pass0 (pa_cons (pv 0) pa_nil))
        (pe_and (pe_cmpR op_eq (pe_callB call_len_seq (by rfl) T.len PySem.boot_len (pa_cons (pv 0) pa_nil)) (pv 1) (nomark _))
        (pe_one (pe_callB (cr_all rfl) (by rfl) T.all (by decide +kernel) (pa_cons
          (pe_lc (own := [("part", 4)]) (g := gName 4) (tt := tYes) rfl scRowB.nd (pi_list (pv 0)) (blkOk_by (N := rbN) (sc := defScope sRowB) (by decide +kernel)) (fun _ _ _ _ _ => pg_name (i := 4) scRowB.nd rfl (Or.inl rfl)) (fun _ _ _ _ _ => pts_nil)
            (fun _ _ _ _ _ => pe_call GB hr (by rfl) gB FB.kp bB .nil pass0 (pa_cons (pv 4) (pa_cons (pv 2) (pa_cons (pv 3) pa_nil))))) pa_nil))))))), ?_⟩
      exact ⟨_, rfl, _, _, rfl, .str x, fun H1 s1 => ⟨_, rfl, iteF (q _ s1)⟩⟩
end
end Ki
namespace Fi
open PySem PySem.Spec PyProof.Rows L2 Pen Dat
/-! ## What never changes: tuples, locked things, instances -/
def firm : HO → Bool
  | .tup _ => true
  | .frz _ _ => true
  | .ins _ _ _ => true
  | _ => false
def Firm (H H' : Hp) : Prop := ∀ b o, H b = some o → firm o = true → H' b = some o
theorem Firm.refl (H : Hp) : Firm H H := fun _ _ e _ => e
theorem Firm.trans {H H1 H2 : Hp} (a : Firm H H1) (b : Firm H1 H2) : Firm H H2 := fun c o e h => b c o (a c o e h) h
theorem Firm.of {H H' : Hp} (s : Same H H') : Firm H H' := fun b o e _ => s b o e
theorem Firm.upd {H : Hp} {a : Addr} {u o : HO} (h : H a = some u) (hu : firm u = false) : Firm H (upd H a o) := fun b z e hz => by
  rw [upd_ne (fun q => by rw [q, h] at e; cases e; rw [hu] at hz; cases hz)]
  exact e
theorem Firm.but {H H' : Hp} {p : Addr} {u : HO} (c : But p H H') (h : H p = some u) (hu : firm u = false) : Firm H H' := fun b z e hz =>
  c b z e fun q => by
    rw [q, h] at e
    cases e
    rw [hu] at hz
    cases hz
theorem Firm.pen {H H' : Hp} {p c : Addr} {m : Nat} (b : But p H H') (h : PenC H p c m) : Firm H H' := by
  obtain ⟨_, _, _, _, _, h1, _⟩ := h
  exact Firm.but b h1 rfl
/-! ### two lists, item by item -/
inductive All2 {α : Type} (R : V → α → Prop) : List V → List α → Prop
  | nil : All2 R [] []
  | cons {v : V} {x : α} {vs : List V} {xs : List α} : R v x → All2 R vs xs → All2 R (v :: vs) (x :: xs)
section
variable {α : Type} {R R' : V → α → Prop}
theorem All2.len : ∀ {vs : List V} {xs : List α}, All2 R vs xs → vs.length = xs.length
  | _, _, .nil => rfl
  | _, _, .cons _ h => congrArg Nat.succ h.len
theorem All2.imp (f : ∀ v x, R v x → R' v x) : ∀ {vs : List V} {xs : List α}, All2 R vs xs → All2 R' vs xs
  | _, _, .nil => .nil
  | _, _, .cons h t => .cons (f _ _ h) (t.imp f)
theorem All2.get : ∀ {vs : List V} {xs : List α}, All2 R vs xs → ∀ {i : Nat} {v : V}, vs[i]? = some v → ∃ x, xs[i]? = some x ∧ R v x
  | _, _, .nil, i, v, e => by simp at e
  | _, _, .cons (v := v0) (x := x0) h t, 0, v, e => by
    simp at e
    subst e
    exact ⟨x0, rfl, h⟩
  | _, _, .cons h t, i + 1, v, e => by
    simp at e
    obtain ⟨x, q1, q2⟩ := t.get e
    exact ⟨x, by simpa using q1, q2⟩
theorem All2.get' : ∀ {vs : List V} {xs : List α}, All2 R vs xs → ∀ {i : Nat} {x : α}, xs[i]? = some x → ∃ v, vs[i]? = some v ∧ R v x
  | _, _, .nil, i, v, e => by simp at e
  | _, _, .cons (v := v0) (x := x0) h t, 0, v, e => by
    simp at e
    subst e
    exact ⟨v0, rfl, h⟩
  | _, _, .cons h t, i + 1, v, e => by
    simp at e
    obtain ⟨x, q1, q2⟩ := t.get' e
    exact ⟨x, by simpa using q1, q2⟩
theorem All2.snoc {v : V} {x : α} (h : R v x) : ∀ {vs : List V} {xs : List α}, All2 R vs xs → All2 R (vs ++ [v]) (xs ++ [x])
  | _, _, .nil => .cons h .nil
  | _, _, .cons h1 t => .cons h1 (t.snoc h)
theorem All2.append : ∀ {vs ws : List V} {xs ys : List α}, All2 R vs xs → All2 R ws ys → All2 R (vs ++ ws) (xs ++ ys)
  | _, _, _, _, .nil, h => h
  | _, _, _, _, .cons h1 t, h => .cons h1 (t.append h)
theorem All2.take : ∀ {vs : List V} {xs : List α} (n : Nat), All2 R vs xs → All2 R (vs.take n) (xs.take n)
  | _, _, 0, _ => by
    rw [List.take_zero, List.take_zero]
    exact .nil
  | _, _, _ + 1, .nil => .nil
  | _, _, n + 1, .cons h t => .cons h (t.take n)
end
/-! ### pairs, rows of pairs, rows of ints -/
def Pt (K : PySem.W.Frag) (H : Hp) (v : V) (p : Int × Int) : Prop := ∃ q, v = .ref q ∧ SqT K H q [.int p.1, .int p.2]
def Pr (K : PySem.W.Frag) (H : Hp) (v : V) (p : Int × Int) : Prop := ∃ q, v = .ref q ∧ (SqL K H q [.int p.1, .int p.2] ∨ SqT K H q [.int p.1, .int p.2])
def Tu (K : PySem.W.Frag) (H : Hp) (v : V) (r : List Int) : Prop := ∃ q, v = .ref q ∧ H q = some (.tup (r.map V.int))
def GT (K : PySem.W.Frag) (H : Hp) (g : Addr) (gs : List (Int × Int)) : Prop := ∃ vs, SqT K H g vs ∧ All2 (Pt K H) vs gs
def RowG (K : PySem.W.Frag) (H : Hp) (v : V) (gs : List (Int × Int)) : Prop := ∃ r vs, v = .ref r ∧ (SqL K H r vs ∨ SqT K H r vs) ∧ All2 (Pr K H) vs gs
section
variable {K : PySem.W.Frag} {H H' : Hp}
theorem firm_seq {a : Addr} {xs : List V} (s : Firm H H') (h : SqT K H a xs) : SqT K H' a xs :=
  h.elim (fun h => .inl (h.elim (fun h => .inl (s _ _ h rfl)) fun ⟨o, h⟩ => .inr ⟨o, s _ _ h rfl⟩)) .inr
theorem Pt.firm {v : V} {p : Int × Int} (s : Firm H H') (h : Pt K H v p) : Pt K H' v p := by
  obtain ⟨q, e, h⟩ := h
  exact ⟨q, e, firm_seq s h⟩
theorem Tu.firm {v : V} {r : List Int} (s : Firm H H') (h : Tu K H v r) : Tu K H' v r := by
  obtain ⟨q, e, h⟩ := h
  exact ⟨q, e, s _ _ h rfl⟩
theorem GT.firm {g : Addr} {gs : List (Int × Int)} (s : Firm H H') (h : GT K H g gs) : GT K H' g gs := by
  obtain ⟨vs, h1, h2⟩ := h
  exact ⟨vs, firm_seq s h1, h2.imp fun _ _ q => q.firm s⟩
theorem Pr.same {v : V} {p : Int × Int} (s : Same H H') (h : Pr K H v p) : Pr K H' v p := by
  obtain ⟨q, e, h⟩ := h
  exact ⟨q, e, h.elim (fun h => .inl (s.seq h)) fun h => .inr (seqT_same s h)⟩
theorem RowG.same {v : V} {gs : List (Int × Int)} (s : Same H H') (h : RowG K H v gs) : RowG K H' v gs := by
  obtain ⟨r, vs, e, h1, h2⟩ := h
  exact ⟨r, vs, e, h1.elim (fun h => .inl (s.seq h)) fun h => .inr (seqT_same s h), h2.imp fun _ _ q => q.same s⟩
theorem Pt.pr {v : V} {p : Int × Int} (h : Pt K H v p) : Pr K H v p := by
  obtain ⟨q, e, h⟩ := h
  exact ⟨q, e, .inr h⟩
theorem GT.row {g : Addr} {gs : List (Int × Int)} (h : GT K H g gs) : RowG K H (.ref g) gs := by
  obtain ⟨vs, h1, h2⟩ := h
  exact ⟨g, vs, rfl, .inr h1, h2.imp fun _ _ q => q.pr⟩
/-- a row of pairs, as data -/
def pD (p : Int × Int) : PyData := .tuple [.int p.1, .int p.2]
def gD (gs : List (Int × Int)) : PyData := .tuple (gs.map pD)
theorem pt_dp {v : V} {p : Int × Int} (h : Pt K H v p) : Dp K H v (pD p) := by
  obtain ⟨q, rfl, h⟩ := h
  exact .tup h (.cons (.int _) (.cons (.int _) .nil))
theorem pts_dp : ∀ {vs : List V} {gs : List (Int × Int)}, All2 (Pt K H) vs gs → DpAll K H vs (gs.map pD)
  | _, _, .nil => .nil
  | _, _, .cons h t => .cons (pt_dp h) (pts_dp t)
theorem GT.dp {g : Addr} {gs : List (Int × Int)} (h : GT K H g gs) : Dp K H (.ref g) (gD gs) := by
  obtain ⟨vs, h1, h2⟩ := h
  exact .tup h1 (pts_dp h2)
theorem ints_dp : ∀ (r : List Int), DpAll K H (r.map V.int) (r.map PyData.int)
  | [] => .nil
  | _ :: r => .cons (.int _) (ints_dp r)
end
end Fi
namespace Gr
open PySem PySem.Spec PyProof.Rows L2 Pen Dat Ki Fi
/-! ## Graphs -/
structure Tx (K : PySem.W.Frag) (mg : Str → Option Value) (C : Addr) : Prop where
  ki : Ki.Tx mg
  cl : Cls K C
  nL : NoAttr K C "leaves"
  nG : NoAttr K C "gates"
  mgC : mg "Graph" = some (.ref C)
  cls : PySem.W.findIn K (.ref C) "__class__" = some (some (.builtin "object.__class__"))
  spc : PySem.W.specialIn K (.builtin "object.__class__") "__get__" = some (some (.builtin "getset_descriptor.__get__"))
  tak : PySem.W.takesIn K (.builtin "object.__class__") = some true
  met : ∀ {H : Hp} {a dx : Addr} {fs : List (Str × V)}, H a = some (.ins C dx fs) → TyOf K H (.ref a) (.ref C)
  own : PySem.W.kitOne K (.ref C) (.ref C) = some true
  tup : PySem.W.kitOne K (.type "tuple") (.ref C) = some false
def flds (n : Int) (g : Addr) : List (Str × V) := putF "gates" (.ref g) (putF "leaves" (.int n) [])
theorem kLG : ¬ (("leaves" : Str) = "gates") := by decide +kernel
theorem flds_eq (n : Int) (g : Addr) : flds n g = ([("leaves", V.int n), ("gates", V.ref g)] : List (Str × V)) := by
  show (if ("leaves" : Str) = "gates" then [(("leaves" : Str), V.ref g)] else (("leaves" : Str), V.int n) :: putF "gates" (V.ref g) []) = ([("leaves", V.int n), ("gates", V.ref g)] : List (Str × V))
  rw [if_neg kLG]
  all_goals rfl
theorem flds_L (n : Int) (g : Addr) : (flds n g).lookup ("leaves" : Str) = some (.int n) := by
  unfold flds
  rw [lookup_putF, if_neg kLG, lookup_putF, if_pos rfl]
theorem flds_G (n : Int) (g : Addr) : (flds n g).lookup ("gates" : Str) = some (.ref g) := by
  unfold flds
  rw [lookup_putF, if_pos rfl]
def GraphAt (K : PySem.W.Frag) (C : Addr) (H : Hp) (p : Addr) (n : Int) (gs : List (Int × Int)) : Prop := ∃ dx g, H p = some (.ins C dx (flds n g)) ∧ GT K H g gs
theorem GraphAt.firm {K : PySem.W.Frag} {C p : Addr} {H H' : Hp} {n : Int} {gs : List (Int × Int)} (s : Firm H H') (h : GraphAt K C H p n gs) : GraphAt K C H' p n gs := by
  obtain ⟨dx, g, h1, h2⟩ := h
  exact ⟨dx, g, s _ _ h1 rfl, h2.firm s⟩
def goB : Int → List PyData → Bool
  | _, [] => true
  | m, e :: r => rowB e 2 0 m && goB (m + 2) r
def gatesB (n : Int) (d : PyData) : Bool := isRowD d && goB (2 * n + 1) (rowsD d)
def within (a m : Int) : Bool := decide (0 ≤ a) && decide (a ≤ m)
def okG : Int → List (Int × Int) → Bool
  | _, [] => true
  | m, p :: r => (within p.1 m && within p.2 m) && okG (m + 2) r
theorem pr_dp {K : PySem.W.Frag} {H : Hp} {v : V} {p : Int × Int} (h : Pr K H v p) : ∃ e, Dp K H v e ∧ (rowsD e).length ≤ 1000 ∧ ∀ m, rowB e 2 0 m = (within p.1 m && within p.2 m) := by
  obtain ⟨q, rfl, h | h⟩ := h
  · exact ⟨_, .lst h (.cons (.int _) (.cons (.int _) .nil)), by show 2 ≤ 1000; decide, fun m => by show (true && (decide (((2 : Nat) : Int) = 2) && (within p.1 m && (within p.2 m && true)))) = _; rw [decide_eq_true (by rfl), Bool.and_true]; rfl⟩
  · exact ⟨_, .tup h (.cons (.int _) (.cons (.int _) .nil)), by show 2 ≤ 1000; decide, fun m => by show (true && (decide (((2 : Nat) : Int) = 2) && (within p.1 m && (within p.2 m && true)))) = _; rw [decide_eq_true (by rfl), Bool.and_true]; rfl⟩
theorem prs_dp {K : PySem.W.Frag} {H : Hp} : ∀ {vs : List V} {gs : List (Int × Int)}, All2 (Pr K H) vs gs → ∃ ds, DpAll K H vs ds ∧ ds.length = gs.length ∧ (∀ e ∈ ds, (rowsD e).length ≤ 1000) ∧ ∀ m, goB m ds = okG m gs
  | _, _, .nil => ⟨[], .nil, rfl, (fun e z => absurd z List.not_mem_nil), fun m => rfl⟩
  | _, _, .cons h t => by
    obtain ⟨e, e1, e2, e3⟩ := pr_dp h
    obtain ⟨ds, d1, d2, d3, d4⟩ := prs_dp t
    refine ⟨e :: ds, .cons e1 d1, congrArg Nat.succ d2, fun z hz => ?_, fun m => ?_⟩
    · rcases List.mem_cons.mp hz with rfl | hz
      · exact e2
      · exact d3 z hz
    · show (rowB e 2 0 m && goB (m + 2) ds) = _
      rw [e3, d4]
      rfl
theorem row_dp {K : PySem.W.Frag} {H : Hp} {v : V} {gs : List (Int × Int)} (h : RowG K H v gs) : ∃ d, Dp K H v d ∧ (rowsD d).length = gs.length ∧ (∀ e ∈ rowsD d, (rowsD e).length ≤ 1000) ∧ ∀ n, gatesB n d = okG (2 * n + 1) gs := by
  obtain ⟨r, vs, rfl, h1, h2⟩ := h
  obtain ⟨ds, d1, d2, d3, d4⟩ := prs_dp h2
  rcases h1 with h1 | h1
  · exact ⟨.list ds, .lst h1 d1, d2, d3, fun n => d4 _⟩
  · exact ⟨.tuple ds, .tup h1 d1, d2, d3, fun n => d4 _⟩
def spNeed : Sp := fun vs H Q _ => ∃ n : Int, vs = [.int n] ∧ n ≥ 0 ∧ Q .non H
def spGates (K : PySem.W.Frag) : Sp := fun vs H Q _ => ∃ (n : Int) (v : V) (d : PyData), vs = [.int n, v] ∧ Dp K H v d ∧ (rowsD d).length ≤ 1000 ∧ (∀ e ∈ rowsD d, (rowsD e).length ≤ 1000) ∧ ∀ H', Same H H' → Q (.bl (gatesB n d)) H'
def spInit (K : PySem.W.Frag) (C : Addr) : Sp := fun vs H Q _ => ∃ (p dx : Addr) (n : Int) (v : V) (gs : List (Int × Int)), vs = [.ref p, .int n, v] ∧ H p = some (.ins C dx []) ∧ n ≥ 0 ∧ RowG K H v gs ∧ gs.length ≤ 1000 ∧ okG (2 * n + 1) gs = true ∧
  ∀ H', (∀ b o, H b = some o → b ≠ p → H' b = some o) → GraphAt K C H' p n gs → Q .non H'
def spEqG (K : PySem.W.Frag) (C : Addr) : Sp := fun vs H Q _ => ∃ (p : Addr) (v : V) (n : Int) (gs : List (Int × Int)), vs = [.ref p, v] ∧ GraphAt K C H p n gs ∧
  ((∃ (q : Addr) (n' : Int) (gs' : List (Int × Int)), v = .ref q ∧ GraphAt K C H q n' gs' ∧ Q (.bl (decide (n = n') && PyData.eqv (gD gs) (gD gs'))) H) ∨ ∃ (t : Addr) (xs : List V), v = .ref t ∧ SqT K H t xs ∧ Q (.bl false) H)
theorem can_pD : ∀ gs : List (Int × Int), PyData.canLayAll0 (gs.map pD) = true
  | [] => rfl
  | _ :: r => can_pD r
theorem deep_pD : ∀ gs : List (Int × Int), PyData.depthAll (gs.map pD) ≤ 1
  | [] => Nat.zero_le _
  | p :: r => Nat.max_le.mpr ⟨Nat.le_refl _, deep_pD r⟩
theorem shaped_gD (gs : List (Int × Int)) : SeqAt.shaped (gD gs) = true := by
  have h1 := can_pD gs
  have h2 := deep_pD gs
  unfold SeqAt.shaped
  rw [Bool.and_eq_true]
  exact ⟨h1, decide_eq_true (by show PyData.depthAll (gs.map pD) + 1 ≤ 64; omega)⟩
def rTupOf (K : PySem.W.Frag) : List V → Hp → VK → Prop := fun xs H Q => ∃ p ys, xs = [V.ref p] ∧ ((SqL K H p ys ∧ ∀ l, H l = none → Q (.ref l) (upd H l (.tup ys))) ∨ (SqT K H p ys ∧ Q (.ref p) H))
section
variable {P : Program} {w : World} {K : PySem.W.Frag} {mg : Str → Option Value} {base : Heap} {f C : Addr} {fd : FuncData}
theorem start_int (n : Int) : 2 * n + 1 = 2 * n + 1 + 2 * ((0 : Nat) : Int) := by omega
theorem start_eq (n : Int) (a : Addr) : ([some (.int n), some (.ref a), some (.int (2 * n + 1)), none] : List (Option V)) = [some (.int n), some (.ref a), some (.int (2 * n + 1 + 2 * ((0 : Nat) : Int))), none] := by
  rw [← start_int]
theorem scNeed : FnScope ["leaves"] ["leaves"] (defScope sNeed) := ⟨rfl, rfl, rfl, by decide +kernel, rfl, by decide +kernel, by decide +kernel⟩
theorem scGates : FnScope ["leaves", "value", "most", "pair"] ["leaves", "value"] (defScope sGates) := ⟨rfl, rfl, rfl, by decide +kernel, rfl, by decide +kernel, by decide +kernel⟩
abbrev sInit : Stmt := inClass cGraph 0
abbrev sEq : Stmt := inClass cGraph 1
abbrev inN : List Str := ["self", "leaves", "gates", "pair"]
theorem scInit : FnScope inN ["self", "leaves", "gates"] (defScope sInit) := ⟨rfl, rfl, rfl, by decide +kernel, rfl, by decide +kernel, by decide +kernel⟩
theorem scEq : FnScope ["self", "other"] ["self", "other"] (defScope sEq) := ⟨rfl, rfl, rfl, by decide +kernel, rfl, by decide +kernel, by decide +kernel⟩
abbrev FnI (K : PySem.W.Frag) (f : Addr) (fd : FuncData) : Prop := FunD K "__init__" "Graph.__init__" (defArgs sInit) (defBody sInit) (defScope sInit) [] [] f fd
abbrev FnE (K : PySem.W.Frag) (f : Addr) (fd : FuncData) : Prop := FunD K "__eq__" "Graph.__eq__" (defArgs sEq) (defBody sEq) (defScope sEq) [] [] f fd
theorem ok_need {fF : Addr} {fdF : FuncData} (F : FnP K "need_leaves" sNeed f fd) (T : Ki.Tx mg) (FF : FnP K "is_from" sFrom fF fdF) (gF : mg "is_from" = some (.ref fF)) : FnOk P w K mg base CX0 2 f fd ["leaves"] spNeed := by
  have GF : FnOk P w K mg base CX0 1 fF fdF ["value", "least"] (spFrom K) := ok_from FF T
  have bF : Binds K fdF ["value", "least"] [] := FF.bindsN fun _ _ _ _ _ _ us hl => match us, hl with | [_, _], _ => rfl
  refine F.ok scNeed (fun vs H Q E h => ?_) (fun cdv A outer s H vs Q E hr h => ?_)
  · obtain ⟨n, rfl, _⟩ := h
    rfl
  · obtain ⟨n, rfl, hn, q⟩ := h
    refine ⟨_, PSs.nox (pss_one (ps_if (pt_not (pt_val (pe_call GF hr (by rfl) gF FF.kp bF .nil pass0 (pa_cons (pv 0) (pa_cons pe_int pa_nil))))) (pss_one ps_never) pss_nil)), ?_⟩
    refine ⟨_, rfl, _, _, .int n, rfl, .int n, _, rfl, ?_⟩
    exact iteNS hn q
theorem ok_gates {fR fB : Addr} {fdR fdB : FuncData} (F : FnP K "are_gates" sGates f fd) (T : Ki.Tx mg) (FR : FnP K "is_row" sRow fR fdR) (gR : mg "is_row" = some (.ref fR)) (FB : FnP K "is_row_between" sRowB fB fdB) (gB : mg "is_row_between" = some (.ref fB))
    {fW : Addr} {fdW : FuncData} (FW : FnP K "is_between" sBetween fW fdW) (gW : mg "is_between" = some (.ref fW)) : FnOk P w K mg base CX0 3 f fd ["leaves", "value"] (spGates K) := by
  have GR : FnOk P w K mg base CX0 1 fR fdR ["value"] (spRow K) := ok_row FR T
  have GB : FnOk P w K mg base CX0 2 fB fdB ["value", "many", "least", "most"] (spRowB K) := ok_rowB FB T FW gW FR gR
  have bR : Binds K fdR ["value"] [] := FR.bindsN fun _ _ _ _ _ _ us hl => match us, hl with | [_], _ => rfl
  have bB : Binds K fdB ["value", "many", "least", "most"] [] := FB.bindsN fun _ _ _ _ _ _ us hl => match us, hl with | [_, _, _, _], _ => rfl
  refine F.ok scGates (fun vs H Q E h => ?_) (fun cdv A outer s H vs Q E hr h => ?_)
  · obtain ⟨n, v, d, rfl, _⟩ := h
    rfl
  · obtain ⟨n, v, d, rfl, hd, hz, hzz, q⟩ := h
    have hr1 := hr.mono (j := 1) (by decide)
    cases hd with
    | lst hs ha =>
      rename_i a vs ds
      have hlen := dps_len ha
      refine ⟨_, PSs.nox (pss_cons (ps_if (pt_not (pt_val (pe_call GR hr1 (by rfl) gR FR.kp bR .nil pass0 (pa_cons (pv 1) pa_nil)))) (pss_one (ps_ret pe_bl)) pss_nil)
        (pss_cons (ps_set (i := 2) scGates.nd rfl (Or.inl rfl) (pe_op op_add (pe_op op_mul pe_int (pv 0)) pe_int))
        (pss_cons (ps_for PassesOwn.never rfl (pi_list (pv 1)) (pg_name (i := 3) scGates.nd rfl (Or.inl rfl))
          (pss_cons (ps_if (pt_not (pt_val (pe_call GB hr (by rfl) gB FB.kp bB .nil pass0 (pa_cons (pv 3) (pa_cons pe_int (pa_cons pe_int (pa_cons (pv 2) pa_nil))))))) (pss_one (ps_ret pe_bl)) pss_nil)
          (pss_one (ps_aug (i := 2) scGates.nd rfl (Or.inl rfl) pe_int ip_add))))
        (pss_one (ps_ret pe_bl))))), ?_⟩
      refine ⟨_, rfl, _, _, rfl, .lst hs ha, fun H1 s1 => ⟨_, rfl, iteF ?_⟩⟩
      refine ⟨_, rfl, _, _, rfl, rfl, .inl ⟨by decide, by decide⟩, _, _, rfl, rfl, ?_⟩
      refine ⟨_, rfl, a, rfl, ⟨_, s1.seq hs⟩, for_list (K := K) (a := a) (xs := vs) (fun i σ H2 => ∃ v : Option V, σ = [some (.int n), some (.ref a), some (.int (2 * n + 1 + 2 * i)), v] ∧ Same H1 H2 ∧ goB (2 * n + 1) ds = goB (2 * n + 1 + 2 * i) (ds.drop i))
        ⟨none, start_eq n a, Same.refl _, by rw [List.drop_zero]; exact congrArg (fun z => goB z ds) (start_int n)⟩ (fun i σ H2 _ ⟨_, _, s2, _⟩ => s2.seq (s1.seq hs)) ?_ ?_⟩
      · rintro i v σ H2 hi ⟨w0, rfl, s2, e2⟩
        obtain ⟨e, he, hv⟩ := dps_get ha hi
        have hm : e ∈ ds := List.mem_of_getElem? he
        have hdrop : ds.drop i = e :: ds.drop (i + 1) := by
          obtain ⟨hlt, e5⟩ := List.getElem?_eq_some_iff.mp he
          rw [← e5]
          exact List.drop_eq_getElem_cons hlt
        rw [hdrop] at e2
        refine ⟨_, rfl, _, rfl, _, _, _, _, e, rfl, dp_same (s1.trans s2) hv, hzz e hm, fun H3 s3 => ⟨_, rfl, ?_⟩⟩
        cases er : rowB e 2 0 (2 * n + 1 + 2 * i) with
        | false =>
          refine iteT ?_
          have e4 : gatesB n (.list ds) = false := by
            show (true && goB (2 * n + 1) ds) = false
            rw [e2]
            show (rowB e 2 0 (2 * n + 1 + 2 * i) && goB _ _) = false
            rw [er]
            rfl
          show Q (V.bl false) H3
          rw [← e4]
          exact q _ ((s1.trans s2).trans s3)
        | true =>
          refine iteF ?_
          refine ⟨_, rfl, _, _, rfl, rfl, some v, ?_, s2.trans s3, ?_⟩
          · show _ = _
            have e5 : 2 * n + 1 + 2 * (i : Int) + 2 = 2 * n + 1 + 2 * ((i + 1 : Nat) : Int) := by omega
            rw [← e5]
            rfl
          · rw [e2]
            show (rowB e 2 0 (2 * n + 1 + 2 * i) && goB _ _) = _
            rw [er]
            have e5 : 2 * n + 1 + 2 * (i : Int) + 2 = 2 * n + 1 + 2 * ((i + 1 : Nat) : Int) := by omega
            rw [← e5]
            rfl
      · rintro σ H2 ⟨w0, rfl, s2, e2⟩
        rw [hlen, List.drop_length] at e2
        have e4 : gatesB n (.list ds) = true := by
          show (true && goB (2 * n + 1) ds) = true
          rw [e2]
          rfl
        show Q (V.bl true) H2
        rw [← e4]
        exact q _ (s1.trans s2)
    | tup hs ha =>
      rename_i a vs ds
      have hlen := dps_len ha
      refine ⟨_, PSs.nox (pss_cons (ps_if (pt_not (pt_val (pe_call GR hr1 (by rfl) gR FR.kp bR .nil pass0 (pa_cons (pv 1) pa_nil)))) (pss_one (ps_ret pe_bl)) pss_nil)
        (pss_cons (ps_set (i := 2) scGates.nd rfl (Or.inl rfl) (pe_op op_add (pe_op op_mul pe_int (pv 0)) pe_int))
        (pss_cons (ps_for PassesOwn.never rfl (pi_tup (pv 1)) (pg_name (i := 3) scGates.nd rfl (Or.inl rfl))
          (pss_cons (ps_if (pt_not (pt_val (pe_call GB hr (by rfl) gB FB.kp bB .nil pass0 (pa_cons (pv 3) (pa_cons pe_int (pa_cons pe_int (pa_cons (pv 2) pa_nil))))))) (pss_one (ps_ret pe_bl)) pss_nil)
          (pss_one (ps_aug (i := 2) scGates.nd rfl (Or.inl rfl) pe_int ip_add))))
        (pss_one (ps_ret pe_bl))))), ?_⟩
      refine ⟨_, rfl, _, _, rfl, .tup hs ha, fun H1 s1 => ⟨_, rfl, iteF ?_⟩⟩
      refine ⟨_, rfl, _, _, rfl, rfl, .inl ⟨by decide, by decide⟩, _, _, rfl, rfl, ?_⟩
      refine ⟨_, rfl, a, rfl, ⟨_, seqT_same s1 hs⟩, for_tup (K := K) (a := a) (xs := vs) (fun i σ H2 => ∃ v : Option V, σ = [some (.int n), some (.ref a), some (.int (2 * n + 1 + 2 * i)), v] ∧ Same H1 H2 ∧ goB (2 * n + 1) ds = goB (2 * n + 1 + 2 * i) (ds.drop i))
        ⟨none, start_eq n a, Same.refl _, by rw [List.drop_zero]; exact congrArg (fun z => goB z ds) (start_int n)⟩ (fun i σ H2 _ ⟨_, _, s2, _⟩ => seqT_same s2 (seqT_same s1 hs)) ?_ ?_⟩
      · rintro i v σ H2 hi ⟨w0, rfl, s2, e2⟩
        obtain ⟨e, he, hv⟩ := dps_get ha hi
        have hm : e ∈ ds := List.mem_of_getElem? he
        have hdrop : ds.drop i = e :: ds.drop (i + 1) := by
          obtain ⟨hlt, e5⟩ := List.getElem?_eq_some_iff.mp he
          rw [← e5]
          exact List.drop_eq_getElem_cons hlt
        rw [hdrop] at e2
        refine ⟨_, rfl, _, rfl, _, _, _, _, e, rfl, dp_same (s1.trans s2) hv, hzz e hm, fun H3 s3 => ⟨_, rfl, ?_⟩⟩
        cases er : rowB e 2 0 (2 * n + 1 + 2 * i) with
        | false =>
          refine iteT ?_
          have e4 : gatesB n (.tuple ds) = false := by
            show (true && goB (2 * n + 1) ds) = false
            rw [e2]
            show (rowB e 2 0 (2 * n + 1 + 2 * i) && goB _ _) = false
            rw [er]
            rfl
          show Q (V.bl false) H3
          rw [← e4]
          exact q _ ((s1.trans s2).trans s3)
        | true =>
          refine iteF ?_
          refine ⟨_, rfl, _, _, rfl, rfl, some v, ?_, s2.trans s3, ?_⟩
          · show _ = _
            have e5 : 2 * n + 1 + 2 * (i : Int) + 2 = 2 * n + 1 + 2 * ((i + 1 : Nat) : Int) := by omega
            rw [← e5]
            rfl
          · rw [e2]
            show (rowB e 2 0 (2 * n + 1 + 2 * i) && goB _ _) = _
            rw [er]
            have e5 : 2 * n + 1 + 2 * (i : Int) + 2 = 2 * n + 1 + 2 * ((i + 1 : Nat) : Int) := by omega
            rw [← e5]
            rfl
      · rintro σ H2 ⟨w0, rfl, s2, e2⟩
        rw [hlen, List.drop_length] at e2
        have e4 : gatesB n (.tuple ds) = true := by
          show (true && goB (2 * n + 1) ds) = true
          rw [e2]
          rfl
        show Q (V.bl true) H2
        rw [← e4]
        exact q _ (s1.trans s2)
    | non =>
      refine ⟨_, PSs.nox (pss_cons (ps_if (pt_not (pt_val (pe_call GR hr1 (by rfl) gR FR.kp bR .nil pass0 (pa_cons (pv 1) pa_nil)))) (pss_one (ps_ret pe_bl)) pss_nil)
        (pss_cons (ps_set (i := 2) scGates.nd rfl (Or.inl rfl) (pe_op op_add (pe_op op_mul pe_int (pv 0)) pe_int))
        (pss_cons (ps_for PassesOwn.never rfl (pi_list (pv 1)) (pg_name (i := 3) scGates.nd rfl (Or.inl rfl))
          (pss_cons (ps_if (pt_not (pt_val (pe_call GB hr (by rfl) gB FB.kp bB .nil pass0 (pa_cons (pv 3) (pa_cons pe_int (pa_cons pe_int (pa_cons (pv 2) pa_nil))))))) (pss_one (ps_ret pe_bl)) pss_nil)
          (pss_one (ps_aug (i := 2) scGates.nd rfl (Or.inl rfl) pe_int ip_add))))
        (pss_one (ps_ret pe_bl))))), ?_⟩
      exact ⟨_, rfl, _, _, rfl, .non, fun H1 s1 => ⟨_, rfl, iteT (q _ s1)⟩⟩
    | bl b =>
      refine ⟨_, PSs.nox (pss_cons (ps_if (pt_not (pt_val (pe_call GR hr1 (by rfl) gR FR.kp bR .nil pass0 (pa_cons (pv 1) pa_nil)))) (pss_one (ps_ret pe_bl)) pss_nil)
        (pss_cons (ps_set (i := 2) scGates.nd rfl (Or.inl rfl) (pe_op op_add (pe_op op_mul pe_int (pv 0)) pe_int))
        (pss_cons (ps_for PassesOwn.never rfl (pi_list (pv 1)) (pg_name (i := 3) scGates.nd rfl (Or.inl rfl))
          (pss_cons (ps_if (pt_not (pt_val (pe_call GB hr (by rfl) gB FB.kp bB .nil pass0 (pa_cons (pv 3) (pa_cons pe_int (pa_cons pe_int (pa_cons (pv 2) pa_nil))))))) (pss_one (ps_ret pe_bl)) pss_nil)
          (pss_one (ps_aug (i := 2) scGates.nd rfl (Or.inl rfl) pe_int ip_add))))
        (pss_one (ps_ret pe_bl))))), ?_⟩
      exact ⟨_, rfl, _, _, rfl, .bl b, fun H1 s1 => ⟨_, rfl, iteT (q _ s1)⟩⟩
    | int i =>
      refine ⟨_, PSs.nox (pss_cons (ps_if (pt_not (pt_val (pe_call GR hr1 (by rfl) gR FR.kp bR .nil pass0 (pa_cons (pv 1) pa_nil)))) (pss_one (ps_ret pe_bl)) pss_nil)
        (pss_cons (ps_set (i := 2) scGates.nd rfl (Or.inl rfl) (pe_op op_add (pe_op op_mul pe_int (pv 0)) pe_int))
        (pss_cons (ps_for PassesOwn.never rfl (pi_list (pv 1)) (pg_name (i := 3) scGates.nd rfl (Or.inl rfl))
          (pss_cons (ps_if (pt_not (pt_val (pe_call GB hr (by rfl) gB FB.kp bB .nil pass0 (pa_cons (pv 3) (pa_cons pe_int (pa_cons pe_int (pa_cons (pv 2) pa_nil))))))) (pss_one (ps_ret pe_bl)) pss_nil)
          (pss_one (ps_aug (i := 2) scGates.nd rfl (Or.inl rfl) pe_int ip_add))))
        (pss_one (ps_ret pe_bl))))), ?_⟩
      exact ⟨_, rfl, _, _, rfl, .int i, fun H1 s1 => ⟨_, rfl, iteT (q _ s1)⟩⟩
    | str x =>
      refine ⟨_, PSs.nox (pss_cons (ps_if (pt_not (pt_val (pe_call GR hr1 (by rfl) gR FR.kp bR .nil pass0 (pa_cons (pv 1) pa_nil)))) (pss_one (ps_ret pe_bl)) pss_nil)
        (pss_cons (ps_set (i := 2) scGates.nd rfl (Or.inl rfl) (pe_op op_add (pe_op op_mul pe_int (pv 0)) pe_int))
        (pss_cons (ps_for PassesOwn.never rfl (pi_list (pv 1)) (pg_name (i := 3) scGates.nd rfl (Or.inl rfl))
          (pss_cons (ps_if (pt_not (pt_val (pe_call GB hr (by rfl) gB FB.kp bB .nil pass0 (pa_cons (pv 3) (pa_cons pe_int (pa_cons pe_int (pa_cons (pv 2) pa_nil))))))) (pss_one (ps_ret pe_bl)) pss_nil)
          (pss_one (ps_aug (i := 2) scGates.nd rfl (Or.inl rfl) pe_int ip_add))))
        (pss_one (ps_ret pe_bl))))), ?_⟩
      exact ⟨_, rfl, _, _, rfl, .str x, fun H1 s1 => ⟨_, rfl, iteT (q _ s1)⟩⟩
theorem ok_init {fN fA : Addr} {fdN fdA : FuncData} (F : FnI K f fd) (T : Tx K mg C) (GN : FnOk P w K mg base CX0 2 fN fdN ["leaves"] spNeed) (gN : mg "need_leaves" = some (.ref fN)) (kN : PySem.W.keepIn K (.ref fN) = true) (bN : Binds K fdN ["leaves"] [])
    (GA : FnOk P w K mg base CX0 3 fA fdA ["leaves", "value"] (spGates K)) (gA : mg "are_gates" = some (.ref fA)) (kA : PySem.W.keepIn K (.ref fA) = true) (bA : Binds K fdA ["leaves", "value"] []) : FnOk P w K mg base CX0 4 f fd ["self", "leaves", "gates"] (spInit K C) := by
  refine F.ok scInit (fun vs H Q E h => ?_) (fun cdv A outer s H vs Q E hr h => ?_)
  · obtain ⟨p, dx, n, v, gs, rfl, _⟩ := h
    rfl
  · obtain ⟨p, dx, n, v, gs, rfl, hp, hn, hv, hz, hok, q⟩ := h
    have hr2 := hr.mono (j := 2) (by decide)
    obtain ⟨d, d1, d2, d3, d4⟩ := row_dp hv
    obtain ⟨r, vs, rfl, hs, ha⟩ := id hv
    rcases hs with hs | hs
    · refine ⟨_, PSs.nox (pss_cons (ps_expr (pe_call GN hr2 (by rfl) gN kN bN .nil pass0 (pa_cons (pv 1) pa_nil)))
        (pss_cons (ps_if (pt_not (pt_val (pe_call GA hr (by rfl) gA kA bA .nil pass0 (pa_cons (pv 1) (pa_cons (pv 2) pa_nil))))) (pss_one ps_never) pss_nil)
        (pss_cons (ps_fld (pv 0) (pv 1) rfl)
        (pss_one (ps_fld (pv 0) (pe_callTy call_tuple_of (by rfl) T.ki.tuple (by decide +kernel) (pa_cons
          (pe_lc (own := [("pair", 3)]) (g := gName 3) (tt := tYes) rfl scInit.nd (pi_list (pv 2)) (blkOk_by (N := inN) (sc := defScope sInit) (by decide +kernel)) (fun _ _ _ _ _ => pg_name (i := 3) scInit.nd rfl (Or.inl rfl)) (fun _ _ _ _ _ => pts_nil)
            (fun _ _ _ _ _ => pe_callTy (T := "tuple") (r := rTupOf K) (by exact call_tuple_of) (by rfl) T.ki.tuple (by decide +kernel) (pa_cons (pv 3) pa_nil))) pa_nil)) rfl))))), ?_⟩
      refine ⟨_, rfl, n, rfl, hn, ?_⟩
      refine ⟨_, rfl, _, rfl, n, _, d, rfl, d1, by omega, d3, fun H1 s1 => ⟨_, rfl, ?_⟩⟩
      rw [d4, hok]
      refine iteF ?_
      have hp1 := s1 _ _ hp
      refine ⟨_, rfl, _, rfl, p, C, dx, _, rfl, hp1, T.cl, T.nL, (by show 0 < 1000; decide), ?_⟩
      have hrp : ∀ {b : Addr} {u : HO}, H b = some u → (∀ C dx fs, u ≠ .ins C dx fs) → (upd H1 p (.ins C dx (putF "leaves" (.int n) []))) b = some u := fun {b u} e ne => by
        rw [upd_ne (fun z => by rw [z, hp] at e; cases e; exact ne _ _ _ rfl)]
        exact s1 _ _ e
      have hs3 : SqL K (upd H1 p (.ins C dx (putF "leaves" (.int n) []))) r vs := by
        rcases hs with (h | ⟨o, h⟩) | h
        · exact .inl (.inl (hrp h (by intro C dx fs z; cases z)))
        · exact .inl (.inr ⟨o, hrp h (by intro C dx fs z; cases z)⟩)
        · exact .inr h
      have pr3 : ∀ {v : V} {z : Int × Int}, Pr K H v z → Pr K (upd H1 p (.ins C dx (putF "leaves" (.int n) []))) v z := by
        rintro v z ⟨q, e, h⟩
        refine ⟨q, e, ?_⟩
        rcases h with ((h | ⟨o, h⟩) | h) | ((h | ⟨o, h⟩) | h)
        · exact .inl (.inl (.inl (hrp h (by intro C dx fs z; cases z))))
        · exact .inl (.inl (.inr ⟨o, hrp h (by intro C dx fs z; cases z)⟩))
        · exact .inl (.inr h)
        · exact .inr (.inl (.inl (hrp h (by intro C dx fs z; cases z))))
        · exact .inr (.inl (.inr ⟨o, hrp h (by intro C dx fs z; cases z)⟩))
        · exact .inr (.inr h)
      have hp3 : (upd H1 p (.ins C dx (putF "leaves" (.int n) []))) p = some (.ins C dx (putF "leaves" (.int n) [])) := upd_same
      have out3 : ∀ b o, H b = some o → b ≠ p → (upd H1 p (.ins C dx (putF "leaves" (.int n) []))) b = some o := fun b o e ne => by
        rw [upd_ne ne]
        exact s1 _ _ e
      generalize (upd H1 p (.ins C dx (putF "leaves" (.int n) []))) = H3 at hs3 pr3 hp3 out3 ⊢
      refine ⟨_, rfl, r, rfl, ⟨_, hs3⟩, fun D nD => ?_⟩
      refine lc_list (K := K) (a := r) (xs := vs) (fun i H4 => Same H3 H4 ∧ ∃ ys, H4 D = some (.lst ys) ∧ All2 (Pt K H4) ys (gs.take i)) ⟨same_new nD, [], upd_same, .nil⟩ (fun i H4 _ ⟨s4, _⟩ => s4.seq hs3) ?_ ?_
      · rintro i v H4 hi ⟨s4, ys, h4, a4⟩
        obtain ⟨z, hz1, hz2⟩ := ha.get hi
        obtain ⟨q0, rfl, hq⟩ := (pr3 hz2).same s4
        have lys : ys.length < sizeLine := by
          rw [a4.len, List.length_take]
          exact Nat.lt_of_le_of_lt (Nat.min_le_right _ _) (Nat.lt_of_le_of_lt hz (by decide))
        have keep : ∀ {H5 : Hp} {zs : List V}, Same H4 H5 → Same H3 (upd H5 D (.lst zs)) := fun {H5 zs} s5 b o e => by
          rw [upd_ne (ne_of_none e nD)]
          exact s5 _ _ (s4 _ _ e)
        refine ⟨rfl, yes_of ?_⟩
        rcases hq with hq | hq
        · refine ⟨_, rfl, q0, _, rfl, .inl ⟨hq, fun l nl => ?_⟩⟩
          have s5 : Same H4 (upd H4 l (.tup [.int z.1, .int z.2])) := same_new nl
          refine ⟨_, s5 _ _ h4, lys, keep s5, _, upd_same, ?_⟩
          rw [take_more hz1]
          have fi : Firm (upd H4 l (.tup [.int z.1, .int z.2])) (upd (upd H4 l (.tup [.int z.1, .int z.2])) D (.lst (ys ++ [.ref l]))) := Firm.upd (s5 _ _ h4) rfl
          exact (a4.imp fun _ _ h => (h.firm (Firm.of s5)).firm fi).snoc ⟨l, rfl, firm_seq fi (SqT.of upd_same)⟩
        · refine ⟨_, rfl, q0, _, rfl, .inr ⟨hq, ?_⟩⟩
          refine ⟨_, h4, lys, keep (Same.refl _), _, upd_same, ?_⟩
          rw [take_more hz1]
          have fi : Firm H4 (upd H4 D (.lst (ys ++ [.ref q0]))) := Firm.upd h4 rfl
          exact (a4.imp fun _ _ h => h.firm fi).snoc ⟨q0, rfl, firm_seq fi hq⟩
      · rintro H4 ⟨s4, ys, h4, a4⟩
        rw [ha.len, List.take_length] at a4
        refine ⟨D, ys, rfl, .inl ⟨SqL.of h4, fun g ng => ?_⟩⟩
        have hp4 := s4 _ _ hp3
        have s5 : Same H4 (upd H4 g (.tup ys)) := same_new ng
        refine ⟨_, rfl, p, C, dx, _, rfl, s5 _ _ hp4, T.cl, T.nG, (by show 1 < 1000; decide), ?_⟩
        refine q _ (fun b o e ne => ?_) ⟨dx, g, upd_same, ys, ?_, ?_⟩
        · rw [upd_ne ne]
          exact s5 _ _ (s4 _ _ (out3 b o e ne))
        · have ngp : g ≠ p := fun e => by
            rw [e, hp4] at ng
            cases ng
          exact SqT.of (by rw [upd_ne ngp, upd_same])
        · refine a4.imp fun _ _ h => ?_
          obtain ⟨q1, e1, h1⟩ := h.firm (Firm.of s5)
          refine ⟨q1, e1, ?_⟩
          rcases h1 with (h | ⟨o, h⟩) | h
          · exact .inl (.inl (by rw [upd_ne (fun e => by rw [e, s5 _ _ hp4] at h; cases h)]; exact h))
          · exact .inl (.inr ⟨o, by rw [upd_ne (fun e => by rw [e, s5 _ _ hp4] at h; cases h)]; exact h⟩)
          · exact .inr h
    · refine ⟨_, PSs.nox (pss_cons (ps_expr (pe_call GN hr2 (by rfl) gN kN bN .nil pass0 (pa_cons (pv 1) pa_nil)))
        (pss_cons (ps_if (pt_not (pt_val (pe_call GA hr (by rfl) gA kA bA .nil pass0 (pa_cons (pv 1) (pa_cons (pv 2) pa_nil))))) (pss_one ps_never) pss_nil)
        (pss_cons (ps_fld (pv 0) (pv 1) rfl)
        (pss_one (ps_fld (pv 0) (pe_callTy call_tuple_of (by rfl) T.ki.tuple (by decide +kernel) (pa_cons
          (pe_lc (own := [("pair", 3)]) (g := gName 3) (tt := tYes) rfl scInit.nd (pi_tup (pv 2)) (blkOk_by (N := inN) (sc := defScope sInit) (by decide +kernel)) (fun _ _ _ _ _ => pg_name (i := 3) scInit.nd rfl (Or.inl rfl)) (fun _ _ _ _ _ => pts_nil)
            (fun _ _ _ _ _ => pe_callTy (T := "tuple") (r := rTupOf K) (by exact call_tuple_of) (by rfl) T.ki.tuple (by decide +kernel) (pa_cons (pv 3) pa_nil))) pa_nil)) rfl))))), ?_⟩
      refine ⟨_, rfl, n, rfl, hn, ?_⟩
      refine ⟨_, rfl, _, rfl, n, _, d, rfl, d1, by omega, d3, fun H1 s1 => ⟨_, rfl, ?_⟩⟩
      rw [d4, hok]
      refine iteF ?_
      have hp1 := s1 _ _ hp
      refine ⟨_, rfl, _, rfl, p, C, dx, _, rfl, hp1, T.cl, T.nL, (by show 0 < 1000; decide), ?_⟩
      have hrp : ∀ {b : Addr} {u : HO}, H b = some u → (∀ C dx fs, u ≠ .ins C dx fs) → (upd H1 p (.ins C dx (putF "leaves" (.int n) []))) b = some u := fun {b u} e ne => by
        rw [upd_ne (fun z => by rw [z, hp] at e; cases e; exact ne _ _ _ rfl)]
        exact s1 _ _ e
      have hs3 : SqT K (upd H1 p (.ins C dx (putF "leaves" (.int n) []))) r vs := by
        rcases hs with (h | ⟨o, h⟩) | h
        · exact .inl (.inl (hrp h (by intro C dx fs z; cases z)))
        · exact .inl (.inr ⟨o, hrp h (by intro C dx fs z; cases z)⟩)
        · exact .inr h
      have pr3 : ∀ {v : V} {z : Int × Int}, Pr K H v z → Pr K (upd H1 p (.ins C dx (putF "leaves" (.int n) []))) v z := by
        rintro v z ⟨q, e, h⟩
        refine ⟨q, e, ?_⟩
        rcases h with ((h | ⟨o, h⟩) | h) | ((h | ⟨o, h⟩) | h)
        · exact .inl (.inl (.inl (hrp h (by intro C dx fs z; cases z))))
        · exact .inl (.inl (.inr ⟨o, hrp h (by intro C dx fs z; cases z)⟩))
        · exact .inl (.inr h)
        · exact .inr (.inl (.inl (hrp h (by intro C dx fs z; cases z))))
        · exact .inr (.inl (.inr ⟨o, hrp h (by intro C dx fs z; cases z)⟩))
        · exact .inr (.inr h)
      have hp3 : (upd H1 p (.ins C dx (putF "leaves" (.int n) []))) p = some (.ins C dx (putF "leaves" (.int n) [])) := upd_same
      have out3 : ∀ b o, H b = some o → b ≠ p → (upd H1 p (.ins C dx (putF "leaves" (.int n) []))) b = some o := fun b o e ne => by
        rw [upd_ne ne]
        exact s1 _ _ e
      generalize (upd H1 p (.ins C dx (putF "leaves" (.int n) []))) = H3 at hs3 pr3 hp3 out3 ⊢
      refine ⟨_, rfl, r, rfl, ⟨_, hs3⟩, fun D nD => ?_⟩
      refine lc_tup (K := K) (a := r) (xs := vs) (fun i H4 => Same H3 H4 ∧ ∃ ys, H4 D = some (.lst ys) ∧ All2 (Pt K H4) ys (gs.take i)) ⟨same_new nD, [], upd_same, .nil⟩ (fun i H4 _ ⟨s4, _⟩ => seqT_same s4 hs3) ?_ ?_
      · rintro i v H4 hi ⟨s4, ys, h4, a4⟩
        obtain ⟨z, hz1, hz2⟩ := ha.get hi
        obtain ⟨q0, rfl, hq⟩ := (pr3 hz2).same s4
        have lys : ys.length < sizeLine := by
          rw [a4.len, List.length_take]
          exact Nat.lt_of_le_of_lt (Nat.min_le_right _ _) (Nat.lt_of_le_of_lt hz (by decide))
        have keep : ∀ {H5 : Hp} {zs : List V}, Same H4 H5 → Same H3 (upd H5 D (.lst zs)) := fun {H5 zs} s5 b o e => by
          rw [upd_ne (ne_of_none e nD)]
          exact s5 _ _ (s4 _ _ e)
        refine ⟨rfl, yes_of ?_⟩
        rcases hq with hq | hq
        · refine ⟨_, rfl, q0, _, rfl, .inl ⟨hq, fun l nl => ?_⟩⟩
          have s5 : Same H4 (upd H4 l (.tup [.int z.1, .int z.2])) := same_new nl
          refine ⟨_, s5 _ _ h4, lys, keep s5, _, upd_same, ?_⟩
          rw [take_more hz1]
          have fi : Firm (upd H4 l (.tup [.int z.1, .int z.2])) (upd (upd H4 l (.tup [.int z.1, .int z.2])) D (.lst (ys ++ [.ref l]))) := Firm.upd (s5 _ _ h4) rfl
          exact (a4.imp fun _ _ h => (h.firm (Firm.of s5)).firm fi).snoc ⟨l, rfl, firm_seq fi (SqT.of upd_same)⟩
        · refine ⟨_, rfl, q0, _, rfl, .inr ⟨hq, ?_⟩⟩
          refine ⟨_, h4, lys, keep (Same.refl _), _, upd_same, ?_⟩
          rw [take_more hz1]
          have fi : Firm H4 (upd H4 D (.lst (ys ++ [.ref q0]))) := Firm.upd h4 rfl
          exact (a4.imp fun _ _ h => h.firm fi).snoc ⟨q0, rfl, firm_seq fi hq⟩
      · rintro H4 ⟨s4, ys, h4, a4⟩
        rw [ha.len, List.take_length] at a4
        refine ⟨D, ys, rfl, .inl ⟨SqL.of h4, fun g ng => ?_⟩⟩
        have hp4 := s4 _ _ hp3
        have s5 : Same H4 (upd H4 g (.tup ys)) := same_new ng
        refine ⟨_, rfl, p, C, dx, _, rfl, s5 _ _ hp4, T.cl, T.nG, (by show 1 < 1000; decide), ?_⟩
        refine q _ (fun b o e ne => ?_) ⟨dx, g, upd_same, ys, ?_, ?_⟩
        · rw [upd_ne ne]
          exact s5 _ _ (s4 _ _ (out3 b o e ne))
        · have ngp : g ≠ p := fun e => by
            rw [e, hp4] at ng
            cases ng
          exact SqT.of (by rw [upd_ne ngp, upd_same])
        · refine a4.imp fun _ _ h => ?_
          obtain ⟨q1, e1, h1⟩ := h.firm (Firm.of s5)
          refine ⟨q1, e1, ?_⟩
          rcases h1 with (h | ⟨o, h⟩) | h
          · exact .inl (.inl (by rw [upd_ne (fun e => by rw [e, s5 _ _ hp4] at h; cases h)]; exact h))
          · exact .inl (.inr ⟨o, by rw [upd_ne (fun e => by rw [e, s5 _ _ hp4] at h; cases h)]; exact h⟩)
          · exact .inr h
theorem ok_eq (F : FnE K f fd) (T : Tx K mg C) : FnOk P w K mg base CX0 1 f fd ["self", "other"] (spEqG K C) := by
  refine F.ok scEq (fun vs H Q E h => ?_) (fun cdv A outer s H vs Q E hr h => ?_)
  · obtain ⟨p, v, n, gs, rfl, _⟩ := h
    rfl
  · obtain ⟨p, v, n, gs, rfl, hp, q⟩ := h
    obtain ⟨dx, g, h1, h2⟩ := hp
    refine ⟨_, PSs.nox (pss_one (ps_ret (pe_and (pe_callB call_isi (by rfl) T.ki.isi (by decide +kernel) (pa_cons (pv 1) (pa_cons (pe_glob (v := V.ref C) (by rfl) T.mgC rfl) pa_nil)))
      (pe_and (pe_cmpR op_eq (pe_fld (pv 0) rfl) (pe_fld (pv 1) rfl) (nomark _)) (pe_one (pe_cmpR (op_eqD hr.units) (pe_fld (pv 0) rfl) (pe_fld (pv 1) rfl) (nomark _))))))), ?_⟩
    rcases q with ⟨q, n', gs', rfl, hq, k⟩ | ⟨t, xs, rfl, ht, k⟩
    · obtain ⟨dy, g', e1, e2⟩ := hq
      refine ⟨_, rfl, _, _, _, _, _, rfl, .own _, .base (T.met e1), T.own, _, rfl, iteT ?_⟩
      refine ⟨_, rfl, p, C, dx, _, _, rfl, h1, T.cl, T.nL, flds_L _ _, _, rfl, q, C, dy, _, _, rfl, e1, T.cl, T.nL, flds_L _ _, rfl, _, rfl, ite2 (fun c => ?_) (fun c => ?_)⟩
      · refine ⟨_, rfl, p, C, dx, _, _, rfl, h1, T.cl, T.nG, flds_G _ _, _, rfl, q, C, dy, _, _, rfl, e1, T.cl, T.nG, flds_G _ _, _, _, h2.dp, e2.dp, ?_, ?_, ?_⟩
        · exact shaped_gD gs
        · exact shaped_gD gs'
        · have e : n = n' := V.int.inj (of_decide_eq_true c)
          rw [decide_eq_true e] at k
          exact k
      · have e : ¬ n = n' := fun z => c (decide_eq_true (congrArg V.int z))
        rw [decide_eq_false e] at k
        exact k
    · exact ⟨_, rfl, _, _, _, _, _, rfl, .own _, ty_tup ht, T.tup, _, rfl, iteF k⟩
end
end Gr
namespace No
open PySem PySem.Spec PyProof.Rows L2 Pen Dat Ki Fi Gr
/-! ## Values of nodes and literals -/
/-- abs, as its rule tells it -/
def ab (z : Int) : Int := if z < 0 then -z else z
def lit (f : List Int) (a : Int) : Int := ab (f.getD (a / 2).toNat 0 - a % 2)
def step (f : List Int) (p : Int × Int) : List Int := f ++ [lit f p.1 * lit f p.2]
def vals (bs : List Int) (gs : List (Int × Int)) : List Int := gs.foldl step (0 :: bs)
def B01 (f : List Int) : Prop := ∀ z ∈ f, z = 0 ∨ z = 1
theorem getD_01 {f : List Int} (h : B01 f) (j : Nat) : f.getD j 0 = 0 ∨ f.getD j 0 = 1 := by
  rw [List.getD_eq_getElem?_getD]
  cases e : f[j]? with
  | none => exact .inl rfl
  | some z => exact h z (List.mem_of_getElem? e)
theorem lit_01 {f : List Int} (h : B01 f) (a : Int) : lit f a = 0 ∨ lit f a = 1 := by
  have h1 := getD_01 h (a / 2).toNat
  have h2 : a % 2 = 0 ∨ a % 2 = 1 := by omega
  unfold lit ab
  rcases h1 with e1 | e1 <;> rcases h2 with e2 | e2 <;> rw [e1, e2] <;> decide
theorem mul_01 {x y : Int} (hx : x = 0 ∨ x = 1) (hy : y = 0 ∨ y = 1) : x * y = 0 ∨ x * y = 1 := by
  rcases hx with rfl | rfl <;> rcases hy with rfl | rfl <;> decide
theorem step_01 {f : List Int} (h : B01 f) (p : Int × Int) : B01 (step f p) := fun z hz => by
  rcases List.mem_append.mp hz with q | q
  · exact h z q
  · rw [List.mem_singleton.mp q]
    exact mul_01 (lit_01 h _) (lit_01 h _)
theorem foldl_len : ∀ (gs : List (Int × Int)) (f : List Int), (gs.foldl step f).length = f.length + gs.length
  | [], f => rfl
  | p :: r, f => by
    show (r.foldl step (step f p)).length = _
    rw [foldl_len r]
    unfold step
    rw [List.length_append]
    show f.length + 1 + r.length = f.length + (r.length + 1)
    omega
theorem foldl_01 : ∀ (gs : List (Int × Int)) {f : List Int}, B01 f → B01 (gs.foldl step f)
  | [], _, h => h
  | p :: r, _, h => foldl_01 r (step_01 h p)
theorem vals_take (bs : List Int) {gs : List (Int × Int)} {i : Nat} {p : Int × Int} (h : gs[i]? = some p) : vals bs (gs.take (i + 1)) = step (vals bs (gs.take i)) p := by
  unfold vals
  rw [take_more h, List.foldl_append]
  rfl
theorem vals_len (bs : List Int) (gs : List (Int × Int)) : (vals bs gs).length = bs.length + 1 + gs.length := by
  unfold vals
  rw [foldl_len]
  rfl
theorem vals_01 {bs : List Int} (gs : List (Int × Int)) (h : B01 bs) : B01 (vals bs gs) :=
  foldl_01 gs fun z hz => by
    rcases List.mem_cons.mp hz with rfl | hz
    · exact .inl rfl
    · exact h z hz
/-- the literals of gate i are of nodes ahead -/
theorem okG_at : ∀ {gs : List (Int × Int)} {m : Int} {i : Nat} {p : Int × Int}, okG m gs = true → gs[i]? = some p → (0 ≤ p.1 ∧ p.1 ≤ m + 2 * i) ∧ 0 ≤ p.2 ∧ p.2 ≤ m + 2 * i
  | [], _, _, _, _, e => by simp at e
  | q :: r, m, 0, p, h, e => by
    simp at e
    subst e
    unfold okG within at h
    simp only [Bool.and_eq_true, decide_eq_true_eq] at h
    obtain ⟨⟨⟨a, b⟩, c, d⟩, _⟩ := h
    exact ⟨⟨a, by omega⟩, c, by omega⟩
  | q :: r, m, i + 1, p, h, e => by
    simp at e
    unfold okG at h
    rw [Bool.and_eq_true] at h
    obtain ⟨⟨a, b⟩, c, d⟩ := okG_at h.2 e
    exact ⟨⟨a, by omega⟩, c, by omega⟩
theorem half_lt {a m : Int} (h0 : 0 ≤ a) (h : a ≤ 2 * m + 1) : (a / 2).toNat < (m + 1).toNat := by omega
/-- x ^ (a & 1), x a bit -/
theorem flip_bit {x a : Int} (hx : x = 0 ∨ x = 1) : Builtin.bitXor x (Builtin.bitAnd a 1) = ab (x - a % 2) := by
  have e := bitAnd_m1 a
  rw [e]
  have h2 : a % 2 = 0 ∨ a % 2 = 1 := by omega
  rcases hx with rfl | rfl <;> rcases h2 with e2 | e2 <;> rw [e2] <;> decide
theorem and_bits {x y : Int} (hx : x = 0 ∨ x = 1) (hy : y = 0 ∨ y = 1) : Builtin.bitAnd x y = x * y := by
  rcases hx with rfl | rfl <;> rcases hy with rfl | rfl <;> decide
theorem getD_of {f : List Int} {j : Nat} (h : j < f.length) : (f.map V.int)[j]? = some (.int (f.getD j 0)) := by
  rw [List.getElem?_map, List.getD_eq_getElem?_getD, List.getElem?_eq_getElem h]
  rfl
/-- a row of ints, list or tuple -/
def SeqI (K : PySem.W.Frag) (H : Hp) (v : V) (bs : List Int) : Prop := ∃ r, v = .ref r ∧ (SqL K H r (bs.map V.int) ∨ SqT K H r (bs.map V.int))
theorem SeqI.same {K : PySem.W.Frag} {H H' : Hp} {v : V} {bs : List Int} (s : Same H H') (h : SeqI K H v bs) : SeqI K H' v bs := by
  obtain ⟨r, e, h⟩ := h
  exact ⟨r, e, h.elim (fun h => .inl (s.seq h)) fun h => .inr (seqT_same s h)⟩
theorem bet_all {bs : List Int} (h : B01 bs) : ((bs.map PyData.int).all fun e => betD e 0 1) = true := by
  rw [List.all_map, List.all_eq_true]
  intro z hz
  rcases h z hz with rfl | rfl <;> rfl
theorem seqI_dp {K : PySem.W.Frag} {H : Hp} {v : V} {bs : List Int} (h : SeqI K H v bs) (hb : B01 bs) : ∃ d, Dp K H v d ∧ (rowsD d).length = bs.length ∧ rowB d (bs.length : Int) 0 1 = true := by
  have e : ∀ l : List PyData, l = bs.map PyData.int → (true && (decide (((l.length : Nat) : Int) = bs.length) && l.all fun e => betD e 0 1)) = true := by
    rintro l rfl
    rw [bet_all hb, List.length_map, decide_eq_true rfl]
    rfl
  obtain ⟨r, rfl, h | h⟩ := h
  · exact ⟨_, .lst h (ints_dp bs), List.length_map .., e _ rfl⟩
  · exact ⟨_, .tup h (ints_dp bs), List.length_map .., e _ rfl⟩
end No
namespace Lf
open PySem PySem.Spec PyProof.Rows L2 Pen Dat Ki Fi Gr No
/-! ## The law's own functions -/
structure Tx (mg : Str → Option Value) : Prop where
  pen : Pen.Txt mg
  abs : mg "abs" = none
  range : mg "range" = none
  tuple : mg "tuple" = none
def longer (rs : List (List Int)) : List (List Int) := rs.flatMap fun r => [r ++ [0], r ++ [1]]
def rowsM : Nat → List (List Int)
  | 0 => [[]]
  | n + 1 => longer (rowsM n)
theorem longer_cons (r : List Int) (rs : List (List Int)) : longer (r :: rs) = (r ++ [0]) :: (r ++ [1]) :: longer rs := rfl
theorem longer_app (rs ts : List (List Int)) : longer (rs ++ ts) = longer rs ++ longer ts := List.flatMap_append
theorem longer_len : ∀ rs : List (List Int), (longer rs).length = 2 * rs.length
  | [] => rfl
  | r :: rs => by
    rw [longer_cons, List.length_cons, List.length_cons, longer_len rs, List.length_cons]
    omega
theorem longer_mem : ∀ {rs : List (List Int)} {n : Nat}, (∀ r ∈ rs, r.length = n ∧ B01 r) → ∀ r ∈ longer rs, r.length = n + 1 ∧ B01 r
  | [], _, _, r, h => by cases h
  | t :: rs, n, hr, r, h => by
    have ht := hr t List.mem_cons_self
    rw [longer_cons] at h
    have one : ∀ z : Int, (z = 0 ∨ z = 1) → (t ++ [z]).length = n + 1 ∧ B01 (t ++ [z]) := fun z hz => ⟨by rw [List.length_append, ht.1]; rfl, fun y hy => by
      rcases List.mem_append.mp hy with q | q
      · exact ht.2 y q
      · rw [List.mem_singleton.mp q]
        exact hz⟩
    rcases List.mem_cons.mp h with rfl | h
    · exact one 0 (.inl rfl)
    · rcases List.mem_cons.mp h with rfl | h
      · exact one 1 (.inr rfl)
      · exact longer_mem (fun r hr2 => hr r (List.mem_cons_of_mem _ hr2)) r h
theorem rowsM_mem : ∀ (n : Nat), ∀ r ∈ rowsM n, r.length = n ∧ B01 r
  | 0, r, h => by
    rw [List.mem_singleton.mp h]
    exact ⟨rfl, fun z hz => by cases hz⟩
  | n + 1, r, h => longer_mem (rowsM_mem n) r h
theorem rowsM_len : ∀ n : Nat, (rowsM n).length = 2 ^ n
  | 0 => rfl
  | n + 1 => by
    show (longer (rowsM n)).length = _
    rw [longer_len, rowsM_len n, Nat.pow_succ, Nat.mul_comm]
theorem okG_snoc : ∀ {gs : List (Int × Int)} {m : Int} {p : Int × Int}, okG m gs = true → 0 ≤ p.1 → p.1 ≤ m + 2 * gs.length → 0 ≤ p.2 → p.2 ≤ m + 2 * gs.length → okG m (gs ++ [p]) = true
  | [], m, p, _, a, b, c, d => by
    show ((within p.1 m && within p.2 m) && true) = true
    unfold within
    have b' : p.1 ≤ m := by simpa using b
    have d' : p.2 ≤ m := by simpa using d
    rw [decide_eq_true a, decide_eq_true b', decide_eq_true c, decide_eq_true d']
    rfl
  | q :: r, m, p, h, a, b, c, d => by
    unfold okG at h
    rw [Bool.and_eq_true] at h
    show ((within q.1 m && within q.2 m) && okG (m + 2) (r ++ [p])) = true
    rw [h.1, okG_snoc h.2 a (by rw [List.length_cons] at b; omega) c (by rw [List.length_cons] at d; omega)]
    rfl
def spBit (K : PySem.W.Frag) : Sp := fun vs H Q _ => ∃ (l : Addr) (xs : List Int) (a : Int), vs = [.ref l, .int a] ∧ SqL K H l (xs.map V.int) ∧ 0 ≤ a ∧ (a / 2).toNat < xs.length ∧ Q (.int (lit xs a)) H
def spValues (K : PySem.W.Frag) : Sp := fun vs H Q _ => ∃ (u : V) (g r : Addr) (gs : List (Int × Int)) (bs : List Int), vs = [u, .ref g, .ref r] ∧ GT K H g gs ∧ SqT K H r (bs.map V.int) ∧ B01 bs ∧ okG (2 * bs.length + 1) gs = true ∧ bs.length ≤ 500 ∧ gs.length ≤ 500 ∧
  ∀ (H' : Hp) (l : Addr), Same H H' → H l = none → H' l = some (.lst ((vals bs gs).map V.int)) → Q (.ref l) H'
def spDrawn (K : PySem.W.Frag) : Sp := fun vs H Q _ => ∃ (p c : Addr) (k : Nat) (n m : Int), vs = [.ref p, .int n, .int m] ∧ PenC H p c k ∧ k ≤ 100000000000 ∧ 0 ≤ n ∧ n ≤ 100 ∧ 0 ≤ m ∧ m ≤ 100 ∧
  ∀ (H' : Hp) (g : Addr) (gs : List (Int × Int)), PenC H' p c (k + 2 * m.toNat) → But p H H' → GT K H' g gs → okG (2 * n + 1) gs = true → gs.length = m.toNat → Q (.ref g) H'
def spLonger (K : PySem.W.Frag) : Sp := fun vs H Q _ => ∃ (l : Addr) (ws : List V) (rs : List (List Int)), vs = [.ref l, .int 2] ∧ SqL K H l ws ∧ All2 (Tu K H) ws rs ∧ rs.length ≤ 2100 ∧ (∀ r ∈ rs, r.length ≤ 100) ∧
  ∀ (H' : Hp) (l' : Addr) (zs : List V), Same H H' → H' l' = some (.lst zs) → All2 (Tu K H') zs (longer rs) → Q (.ref l') H'
def spRows (K : PySem.W.Frag) : Sp := fun vs H Q _ => ∃ (m : Int), vs = [.int m] ∧ 0 ≤ m ∧ m ≤ 11 ∧
  ∀ (H' : Hp) (l : Addr) (ws : List V), Same H H' → H' l = some (.lst ws) → All2 (Tu K H') ws (rowsM m.toNat) → Q (.ref l) H'
section
variable {P : Program} {w : World} {K : PySem.W.Frag} {mg : Str → Option Value} {base : Heap} {f C : Addr} {fd : FuncData}
abbrev vaN : List Str := ["_law_leaves", "_law_gates", "_law_bits", "_law_found", "_law_one", "_law_two"]
abbrev drN : List Str := ["_law_pen_here", "_law_leaves", "_law_many", "_law_gates", "_law_k", "_law_ahead"]
abbrev loN : List Str := ["_law_rows_here", "_law_many", "_law_found", "_law_row", "_law_number"]
theorem scBit : FnScope ["_law_found", "_law_literal"] ["_law_found", "_law_literal"] (defScope sBit) := ⟨rfl, rfl, rfl, by decide +kernel, rfl, by decide +kernel, by decide +kernel⟩
theorem scValues : FnScope vaN ["_law_leaves", "_law_gates", "_law_bits"] (defScope sValues) := ⟨rfl, rfl, rfl, by decide +kernel, rfl, by decide +kernel, by decide +kernel⟩
theorem scDrawn : FnScope drN ["_law_pen_here", "_law_leaves", "_law_many"] (defScope sDrawn) := ⟨rfl, rfl, rfl, by decide +kernel, rfl, by decide +kernel, by decide +kernel⟩
theorem scLonger : FnScope loN ["_law_rows_here", "_law_many"] (defScope sLonger) := ⟨rfl, rfl, rfl, by decide +kernel, rfl, by decide +kernel, by decide +kernel⟩
theorem scRows : FnScope ["_law_many", "_law_rows_here", "_law_k"] ["_law_many"] (defScope sRows) := ⟨rfl, rfl, rfl, by decide +kernel, rfl, by decide +kernel, by decide +kernel⟩
theorem ok_bit (F : FnP K "_law_bit" sBit f fd) (T : Tx mg) : FnOk P w K mg base CX0 1 f fd ["_law_found", "_law_literal"] (spBit K) := by
  refine F.ok scBit (fun vs H Q E h => ?_) (fun cdv A outer s H vs Q E hr h => ?_)
  · obtain ⟨l, xs, a, rfl, _⟩ := h
    rfl
  · obtain ⟨l, xs, a, rfl, hl, ha, hz, q⟩ := h
    refine ⟨_, PSs.nox (pss_one (ps_ret (pe_callB call_abs (by rfl) T.abs (by decide +kernel) (pa_cons (pe_op op_sub (pe_ix ix_list (pv 0) (pe_op op_fdiv (pv 1) pe_int) (fun _ _ => rfl))
      (pe_op op_mod (pe_callTy call_int1 (by rfl) T.pen.int (by decide +kernel) (pa_cons (pv 1) pa_nil)) pe_int)) pa_nil)))), ?_⟩
    have e : a / 2 = (((a / 2).toNat : Nat) : Int) := by omega
    exact ⟨_, rfl, _, rfl, _, _, rfl, rfl, ⟨by decide, by decide⟩, l, _, _, _, rfl, rfl, hl, at_of e (getD_of hz), _, rfl, .inl ⟨_, rfl, _, _, rfl, rfl, (by show (0 : Int) < 2; decide), _, _, rfl, rfl, _, rfl, q⟩⟩
theorem ok_values {fB : Addr} {fdB : FuncData} (F : FnP K "_law_values" sValues f fd) (T : Tx mg) (FB : FnP K "_law_bit" sBit fB fdB) (gB : mg "_law_bit" = some (.ref fB)) : FnOk P w K mg base CX0 2 f fd ["_law_leaves", "_law_gates", "_law_bits"] (spValues K) := by
  have GB : FnOk P w K mg base CX0 1 fB fdB ["_law_found", "_law_literal"] (spBit K) := ok_bit FB T
  have bB : Binds K fdB ["_law_found", "_law_literal"] [] := FB.bindsN fun _ _ _ _ _ _ us hl => match us, hl with | [_, _], _ => rfl
  refine F.ok scValues (fun vs H Q E h => ?_) (fun cdv A outer s H vs Q E hr h => ?_)
  · obtain ⟨u, g, r, gs, bs, rfl, _⟩ := h
    rfl
  · obtain ⟨u, g, r, gs, bs, rfl, hG, hB, hb, hok, hz1, hz2, q⟩ := h
    obtain ⟨ps, hg, ha⟩ := id hG
    refine ⟨_, PSs.nox (pss_cons (ps_set (i := 3) scValues.nd rfl (Or.inl rfl) (pe_op op_cat (pe_lst (pa_cons pe_int pa_nil)) (pe_callTy call_list_of (by rfl) T.pen.list (by decide +kernel) (pa_cons (pv 2) pa_nil))))
      (pss_cons (ps_for PassesOwn.never rfl (pi_tup (pv 1)) (pg_tup rfl (pgs_cons (pg_name (i := 4) scValues.nd rfl (Or.inl rfl)) (pgs_cons (pg_name (i := 5) scValues.nd rfl (Or.inl rfl)) pgs_nil)))
        (pss_one (ps_expr (pe_bm PySem.F.plainAttrs_list PySem.F.slot_list_append PySem.F.type_list_append mt_append (pv 3) (pa_cons (pe_op op_mul
          (pe_call GB hr (by rfl) gB FB.kp bB .nil pass0 (pa_cons (pv 3) (pa_cons (pv 4) pa_nil)))
          (pe_call GB hr (by rfl) gB FB.kp bB .nil pass0 (pa_cons (pv 3) (pa_cons (pv 5) pa_nil)))) pa_nil)))))
      (pss_one (ps_ret (pv 3))))), ?_⟩
    refine ⟨(by show 1 ≤ sizeLine; decide), fun l1 n1 => ?_⟩
    have s1 : Same H (upd H l1 (.lst [.int 0])) := same_new n1
    refine ⟨_, rfl, r, _, rfl, .inr (seqT_same s1 hB), fun l2 n2 => ?_⟩
    have s2 := same_new (u := .lst (bs.map V.int)) n2
    refine ⟨_, _, _, _, rfl, rfl, s2 _ _ upd_same, upd_same, ?_, fun l n3 => ?_⟩
    · rw [List.length_map]
      show 1 + bs.length ≤ sizeLine
      exact Nat.le_trans (by omega : 1 + bs.length ≤ 501) (by decide)
    have s3 := same_new (u := .lst ([V.int 0] ++ bs.map V.int)) n3
    have s123 := s1.trans (s2.trans s3)
    have nl : H l = none := (s1.trans s2).free n3
    generalize hH : upd _ l _ = H1 at s123
    have h1 : H1 l = some (.lst ((vals bs []).map V.int)) := by
      rw [← hH, upd_same]
      rfl
    clear hH s3 n3
    refine ⟨_, rfl, g, rfl, ⟨_, seqT_same s123 hg⟩, for_tup (K := K) (a := g) (xs := ps)
      (fun i σ H2 => ∃ x y : Option V, σ = [some u, some (.ref g), some (.ref r), some (.ref l), x, y] ∧ Same H H2 ∧ H2 l = some (.lst ((vals bs (gs.take i)).map V.int)))
      ⟨none, none, rfl, s123, h1⟩ (fun i σ H2 _ ⟨_, _, _, z, _⟩ => seqT_same z hg) ?_ ?_⟩
    · rintro i x σ H2 hi ⟨y, y', rfl, z2, h2⟩
      obtain ⟨z, hz, hx⟩ := ha.get hi
      obtain ⟨q0, rfl, hq⟩ := hx
      have hi2 : i < gs.length := (List.getElem?_eq_some_iff.mp hz).1
      obtain ⟨⟨a0, a1⟩, b0, b1⟩ := okG_at hok hz
      have lv : (vals bs (gs.take i)).length = bs.length + 1 + i := by
        rw [vals_len, List.length_take, Nat.min_eq_left (Nat.le_of_lt hi2)]
      have v01 := vals_01 (gs.take i) hb
      have f1 := lit_01 v01 z.1
      refine ⟨q0, _, rfl, seqT_same z2 hq, rfl, _, _, rfl, _, _, rfl, rfl, ?_⟩
      refine ⟨_, rfl, .inl ⟨rfl, _, SqL.of h2⟩, _, rfl, _, rfl, l, _, z.1, rfl, SqL.of h2, a0, by omega, _, rfl, _, rfl, l, _, z.2, rfl, SqL.of h2, b0, by omega, _, _, rfl, rfl, .inl ?_, l, _, _, rfl, rfl, h2, ?_, ?_⟩
      · rcases f1 with e | e <;> rw [e] <;> exact ⟨by decide, by decide⟩
      · rw [List.length_map, lv]
        exact Nat.lt_of_lt_of_le (by omega : bs.length + 1 + i < 1002) (by decide)
      · refine ⟨_, _, rfl, fun b o e => ?_, ?_⟩
        · rw [upd_ne (ne_of_none e nl)]
          exact z2 _ _ e
        · rw [upd_same, vals_take bs hz]
          unfold No.step
          rw [List.map_append]
          rfl
    · rintro σ H2 ⟨y, y', rfl, z2, h2⟩
      rw [ha.len, List.take_length] at h2
      exact ⟨_, rfl, q _ l z2 nl h2⟩
theorem ok_drawn {fD : Addr} {fdD : FuncData} (F : FnP K "_law_drawn_gates" sDrawn f fd) (T : Tx mg) (FD : FnP K "_law_draw" sDraw fD fdD) (gD : mg "_law_draw" = some (.ref fD)) : FnOk P w K mg base CX0 2 f fd ["_law_pen_here", "_law_leaves", "_law_many"] (spDrawn K) := by
  have GD : FnOk P w K mg base CX0 1 fD fdD ["_law_pen_here", "_law_many"] spDraw := ok_draw FD T.pen
  have bD : Binds K fdD ["_law_pen_here", "_law_many"] [] := FD.bindsN fun _ _ _ _ _ _ us hl => match us, hl with | [_, _], _ => rfl
  refine F.ok scDrawn (fun vs H Q E h => ?_) (fun cdv A outer s H vs Q E hr h => ?_)
  · obtain ⟨p, c, k, n, m, rfl, _⟩ := h
    rfl
  · obtain ⟨p, c, k, n, m, rfl, hP, hk, n0, n1, m0, m1, q⟩ := h
    refine ⟨_, PSs.nox (pss_cons (ps_set (i := 3) scDrawn.nd rfl (Or.inl rfl) (pe_lst pa_nil))
      (pss_cons (ps_for PassesOwn.never rfl (pi_range1 (by rfl) T.range (pa_cons (pv 2) pa_nil)) (pg_name (i := 4) scDrawn.nd rfl (Or.inl rfl))
        (pss_cons (ps_set (i := 5) scDrawn.nd rfl (Or.inl rfl) (pe_op op_mul pe_int (pe_op op_add (pe_op op_add pe_int (pv 1)) (pv 4))))
        (pss_one (ps_expr (pe_bm PySem.F.plainAttrs_list PySem.F.slot_list_append PySem.F.type_list_append mt_append (pv 3) (pa_cons (pe_tup (pa_cons
          (pe_call GD hr (by rfl) gD FD.kp bD .nil pass0 (pa_cons (pv 0) (pa_cons (pv 5) pa_nil))) (pa_cons
          (pe_call GD hr (by rfl) gD FD.kp bD .nil pass0 (pa_cons (pv 0) (pa_cons (pv 5) pa_nil))) pa_nil))) pa_nil))))))
      (pss_one (ps_ret (pe_callTy call_tuple_of (by rfl) T.tuple (by decide +kernel) (pa_cons (pv 3) pa_nil)))))), ?_⟩
    refine ⟨(by show 0 ≤ sizeLine; decide), fun l nl => ?_⟩
    obtain ⟨lp, lc⟩ := hP.free nl
    have sl := same_new (u := .lst []) nl
    refine ⟨_, rfl, m, rfl, ?_, ?_, for_range (lo := 0) (n := m.toNat)
      (fun i σ H2 => ∃ (x y : Option V) (ys : List V) (gs : List (Int × Int)), σ = [some (.ref p), some (.int n), some (.int m), some (.ref l), x, y] ∧ PenC H2 p c (k + 2 * i) ∧ (∀ b o, H b = some o → b ≠ p → H2 b = some o) ∧
        H2 l = some (.lst ys) ∧ All2 (Pt K H2) ys gs ∧ okG (2 * n + 1) gs = true ∧ gs.length = i)
      ⟨none, none, [], [], rfl, hP.same sl, fun b o e _ => sl _ _ e, upd_same, .nil, rfl, rfl⟩ ?_ ?_⟩
    · omega
    · omega
    · rintro i σ H2 hi ⟨x, y, ys, gs, rfl, hP2, keep, h2, ha, hok, hlen⟩
      have him : (i : Int) < m := by omega
      refine ⟨_, rfl, _, _, rfl, rfl, _, rfl, _, _, rfl, rfl, _, _, rfl, rfl, .inl ⟨by decide, by decide⟩, ?_⟩
      refine ⟨_, rfl, .inl ⟨rfl, _, SqL.of h2⟩, _, rfl, _, rfl, p, c, k + 2 * i, _, rfl, hP2, by omega, by omega, by omega, fun r1 H3 r10 r11 P3 B3 => ?_⟩
      refine ⟨_, rfl, _, rfl, p, c, k + 2 * i + 1, _, rfl, P3, by omega, by omega, by omega, fun r2 H4 r20 r21 P4 B4 => ?_⟩
      refine ⟨(by show 2 ≤ sizeLine; decide), fun t nt => ?_⟩
      have st := same_new (u := .tup [V.int r1, V.int r2]) nt
      have h4 : H4 l = some (.lst ys) := B4 _ _ (B3 _ _ h2 lp) lp
      have f34 : Firm H2 H4 := (Firm.pen B3 hP2).trans (Firm.pen B4 P3)
      refine ⟨l, _, _, rfl, rfl, st _ _ h4, ?_, ?_⟩
      · rw [ha.len, hlen]
        exact Nat.lt_of_lt_of_le (by omega : i < 101) (by decide)
      · have fl : Firm (upd H4 t (.tup [V.int r1, V.int r2])) (upd (upd H4 t (.tup [V.int r1, V.int r2])) l (.lst (ys ++ [.ref t]))) := Firm.upd (st _ _ h4) rfl
        refine ⟨_, _, ys ++ [.ref t], gs ++ [(r1, r2)], rfl, ?_, fun b o e ne => ?_, upd_same, ?_, ?_, ?_⟩
        · have z := (P4.same st).upd (o := .lst (ys ++ [.ref t])) lp lc
          rw [show k + 2 * (i + 1) = k + 2 * i + 1 + 1 by omega]
          exact z
        · rw [upd_ne (ne_of_none e nl)]
          exact st _ _ (B4 _ _ (B3 _ _ (keep b o e ne) ne) ne)
        · exact (ha.imp fun _ _ h => ((h.firm f34).firm (Firm.of st)).firm fl).snoc ⟨t, rfl, firm_seq fl (SqT.of upd_same)⟩
        · exact okG_snoc hok r10 (by show r1 ≤ _; rw [hlen]; omega) r20 (by show r2 ≤ _; rw [hlen]; omega)
        · rw [List.length_append, hlen]
          rfl
    · rintro σ H2 ⟨x, y, ys, gs, rfl, hP2, keep, h2, ha, hok, hlen⟩
      refine ⟨_, rfl, l, _, rfl, .inl ⟨SqL.of h2, fun g ng => ?_⟩⟩
      have sg := same_new (u := .tup ys) ng
      exact q _ g gs (hP2.same sg) (fun b o e ne => sg _ _ (keep b o e ne)) ⟨ys, SqT.of upd_same, ha.imp fun _ _ h => h.firm (Firm.of sg)⟩ hok hlen
theorem ok_longer (F : FnP K "_law_longer" sLonger f fd) (T : Tx mg) : FnOk P w K mg base CX0 1 f fd ["_law_rows_here", "_law_many"] (spLonger K) := by
  refine F.ok scLonger (fun vs H Q E h => ?_) (fun cdv A outer s H vs Q E hr h => ?_)
  · obtain ⟨l, ws, rs, rfl, _⟩ := h
    rfl
  · obtain ⟨l, ws, rs, rfl, hl, ha, hzn, hz2, q⟩ := h
    refine ⟨_, PSs.nox (pss_cons (ps_set (i := 2) scLonger.nd rfl (Or.inl rfl) (pe_lst pa_nil))
      (pss_cons (ps_for PassesOwn.never rfl (pi_list (pv 0)) (pg_name (i := 3) scLonger.nd rfl (Or.inr rfl))
        (pss_one (ps_set (i := 2) scLonger.nd rfl (Or.inl rfl) (pe_op op_cat (pv 2) (pe_lc (own := [("_law_number", 4)]) (g := gName 4) (tt := tYes) rfl scLonger.nd (pi_range1 (by rfl) T.range (pa_cons (pv 1) pa_nil)) (blkOk_by (N := loN) (sc := defScope sLonger) (by decide +kernel))
          (fun _ _ _ _ _ => pg_name (i := 4) scLonger.nd rfl (Or.inl rfl)) (fun _ _ _ _ _ => pts_nil) (fun _ _ _ _ _ => pe_op (r := rCatA K) (by exact op_catA) (pv 3) (pe_tup (pa_cons (pv 4) pa_nil))))))))
      (pss_one (ps_ret (pv 2))))), ?_⟩
    refine ⟨(by show 0 ≤ sizeLine; decide), fun l0 n0 => ?_⟩
    have s0 := same_new (u := .lst []) n0
    refine ⟨_, rfl, l, rfl, ⟨_, s0.seq hl⟩, for_list (K := K) (a := l) (xs := ws)
      (fun i σ H2 => ∃ (x : Option V) (t : Addr) (zs : List V), σ = [some (.ref l), some (.int 2), some (.ref t), x, none] ∧ Same H H2 ∧ H2 t = some (.lst zs) ∧ All2 (Tu K H2) zs (longer (rs.take i)))
      ⟨none, l0, [], rfl, s0, upd_same, .nil⟩ (fun i σ H2 _ ⟨_, _, _, _, z, _⟩ => z.seq hl) ?_ ?_⟩
    · rintro i x σ H2 hi ⟨y, t, zs, rfl, s2, h2, hz⟩
      obtain ⟨r, hr1, hr2⟩ := ha.get hi
      obtain ⟨q0, rfl, hq⟩ := hr2
      have hq2 : SqT K H2 q0 (r.map V.int) := SqT.of (s2 _ _ hq)
      refine ⟨_, rfl, _, rfl, 2, rfl, by decide, by decide, fun D nD => ?_⟩
      refine lc_range (lo := 0) (n := 2) (fun j H3 => Same H2 H3 ∧ ∃ us, H3 D = some (.lst us) ∧ All2 (Tu K H3) us ((List.range j).map fun (k : Nat) => r ++ [0 + (k : Int)])) ⟨same_new nD, [], upd_same, .nil⟩ ?_ ?_
      · rintro j H3 hj ⟨s3, us, h3, h3a⟩
        have ul : us.length < sizeLine := by
          rw [h3a.len, List.length_map, List.length_range]
          exact Nat.lt_trans hj (by decide)
        have fin : ∀ (t2 : Addr) (H4 : Hp), Same H3 H4 → H4 t2 = some (.tup ((r ++ [0 + (j : Int)]).map V.int)) → ∃ acc, H4 D = some (.lst acc) ∧ acc.length < sizeLine ∧ Same H2 (upd H4 D (.lst (acc ++ [.ref t2]))) ∧
            ∃ us, (upd H4 D (.lst (acc ++ [.ref t2]))) D = some (.lst us) ∧ All2 (Tu K (upd H4 D (.lst (acc ++ [.ref t2])))) us ((List.range (j + 1)).map fun (k : Nat) => r ++ [0 + (k : Int)]) := fun t2 H4 s4 ht => by
          have fi : Firm H4 (upd H4 D (.lst (us ++ [.ref t2]))) := Firm.upd (s4 _ _ h3) rfl
          refine ⟨us, s4 _ _ h3, ul, fun b o e => ?_, us ++ [.ref t2], upd_same, ?_⟩
          · rw [upd_ne (ne_of_none e nD)]
            exact s4 _ _ (s3 _ _ e)
          · rw [List.range_succ, List.map_append]
            exact (h3a.imp fun _ _ h => (h.firm (Firm.of s4)).firm fi).snoc ⟨t2, rfl, fi _ _ ht rfl⟩
        refine ⟨rfl, yes_of ?_⟩
        refine ⟨_, rfl, _, rfl, (by show 1 ≤ sizeLine; decide), fun t1 nt1 => ?_⟩
        have s1 := same_new (u := .tup [V.int (0 + (j : Int))]) nt1
        have hr3 := hz2 r (List.mem_of_getElem? hr1)
        refine ⟨q0, t1, _, _, rfl, rfl, seqT_same (s3.trans s1) hq2, SqT.of upd_same, ?_, fun e => ?_, fun _ e => ?_, fun e _ t2 nt2 => ?_⟩
        · rw [List.length_map]
          exact Nat.le_trans (by show r.length + 1 ≤ 101; omega) (by decide)
        · have er : r = [] := List.map_eq_nil_iff.mp e
          exact fin t1 _ s1 (by rw [er]; exact upd_same)
        · cases e
        · have s2' := same_new (u := .tup (r.map V.int ++ [V.int (0 + (j : Int))])) nt2
          exact fin t2 _ (s1.trans s2') (by rw [List.map_append]; exact upd_same)
      · rintro H3 ⟨s3, us, h3, h3a⟩
        have hu2 : us.length = 2 := by
          rw [h3a.len]
          rfl
        have hzl := hz.len
        have tl : (rs.take i).length ≤ 2100 := by
          rw [List.length_take]
          exact Nat.le_trans (Nat.min_le_right _ _) hzn
        refine ⟨t, D, zs, us, rfl, rfl, s3 _ _ h2, h3, ?_, fun t2 nt2 => ?_⟩
        · rw [hzl, longer_len, hu2]
          exact Nat.le_trans (by omega : 2 * (rs.take i).length + 2 ≤ 4202) (by decide)
        · have s4 := same_new (u := .lst (zs ++ us)) nt2
          refine ⟨_, t2, zs ++ us, rfl, s2.trans (s3.trans s4), upd_same, ?_⟩
          rw [take_more hr1, longer_app]
          exact (hz.imp fun _ _ h => h.firm (Firm.of (s3.trans s4))).append (h3a.imp fun _ _ h => h.firm (Firm.of s4))
    · rintro σ H2 ⟨y, t, zs, rfl, s2, h2, hz⟩
      rw [ha.len, List.take_length] at hz
      exact ⟨_, rfl, q _ t zs s2 h2 hz⟩
theorem ok_rows {fL : Addr} {fdL : FuncData} (F : FnP K "_law_rows" sRows f fd) (T : Tx mg) (FL : FnP K "_law_longer" sLonger fL fdL) (gL : mg "_law_longer" = some (.ref fL)) : FnOk P w K mg base CX0 2 f fd ["_law_many"] (spRows K) := by
  have GL : FnOk P w K mg base CX0 1 fL fdL ["_law_rows_here", "_law_many"] (spLonger K) := ok_longer FL T
  have bL : Binds K fdL ["_law_rows_here", "_law_many"] [] := FL.bindsN fun _ _ _ _ _ _ us hl => match us, hl with | [_, _], _ => rfl
  refine F.ok scRows (fun vs H Q E h => ?_) (fun cdv A outer s H vs Q E hr h => ?_)
  · obtain ⟨m, rfl, _⟩ := h
    rfl
  · obtain ⟨m, rfl, m0, m1, q⟩ := h
    refine ⟨_, PSs.nox (pss_cons (ps_set (i := 1) scRows.nd rfl (Or.inl rfl) (pe_lst (pa_cons (pe_tup pa_nil) pa_nil)))
      (pss_cons (ps_for PassesOwn.never rfl (pi_range1 (by rfl) T.range (pa_cons (pv 0) pa_nil)) (pg_name (i := 2) scRows.nd rfl (Or.inl rfl))
        (pss_one (ps_set (i := 1) scRows.nd rfl (Or.inl rfl) (pe_call GL hr (by rfl) gL FL.kp bL .nil pass0 (pa_cons (pv 1) (pa_cons pe_int pa_nil))))))
      (pss_one (ps_ret (pv 1))))), ?_⟩
    refine ⟨(by show 0 ≤ sizeLine; decide), fun t nt => ⟨(by show 1 ≤ sizeLine; decide), fun l nl => ?_⟩⟩
    have s1 := same_new (u := .tup []) nt
    have s2 := same_new (u := .lst [.ref t]) nl
    refine ⟨_, rfl, m, rfl, ?_, ?_, for_range (lo := 0) (n := m.toNat)
      (fun i σ H2 => ∃ (x : Option V) (l : Addr) (zs : List V), σ = [some (.int m), some (.ref l), x] ∧ Same H H2 ∧ H2 l = some (.lst zs) ∧ All2 (Tu K H2) zs (rowsM i))
      ⟨none, l, [.ref t], rfl, s1.trans s2, upd_same, .cons ⟨t, rfl, s2 _ _ upd_same⟩ .nil⟩ ?_ ?_⟩
    · omega
    · omega
    · rintro i σ H2 hi ⟨x, l, zs, rfl, s3, h3, ha⟩
      have hi7 : i < 11 := by omega
      have hpow : (rowsM i).length ≤ 2100 := by
        rw [rowsM_len]
        exact Nat.le_trans (Nat.pow_le_pow_right (by decide) (by omega : i ≤ 10)) (by decide)
      refine ⟨_, rfl, l, zs, rowsM i, rfl, SqL.of h3, ha, hpow, fun r hr => ?_, fun H4 l' ws s4 h4 ha4 => ?_⟩
      · rw [(rowsM_mem i r hr).1]
        omega
      · exact ⟨_, l', ws, rfl, s3.trans s4, h4, ha4⟩
    · rintro σ H2 ⟨x, l, zs, rfl, s3, h3, ha⟩
      exact ⟨_, rfl, q _ l zs s3 h3 ha⟩
end
end Lf
namespace Cm
open PySem PySem.Spec PyProof.Rows L2 Fi No
/-! ## Clauses, as mathematics -/
def fl (l : Int) : Int := l + 1 - 2 * (l % 2)
def sgn (l : Int) : Int := if l % 2 = 1 then -(l / 2) else l / 2
def bad (ls : List Int) : Bool := ls.any (fun l => l == 1) || ls.any fun l => ls.any fun m => m == fl l
def Asc (cl : List Int) : Prop := cl.Pairwise fun a b => a.natAbs < b.natAbs
def IsCl (ls cl : List Int) : Prop := Asc cl ∧ ∀ z, z ∈ cl ↔ ∃ l ∈ ls, 1 < l ∧ z = sgn l
theorem asc_ext : ∀ {xs ys : List Int}, Asc xs → Asc ys → (∀ z, z ∈ xs ↔ z ∈ ys) → xs = ys
  | [], [], _, _, _ => rfl
  | [], y :: _, _, _, h => absurd ((h y).mpr List.mem_cons_self) List.not_mem_nil
  | x :: _, [], _, _, h => absurd ((h x).mp List.mem_cons_self) List.not_mem_nil
  | x :: xs, y :: ys, hx, hy, h => by
    unfold Asc at hx hy
    rw [List.pairwise_cons] at hx hy
    have e : x = y := by
      rcases List.mem_cons.mp ((h x).mp List.mem_cons_self) with e | m1
      · exact e
      · rcases List.mem_cons.mp ((h y).mpr List.mem_cons_self) with e | m2
        · exact e.symm
        · have a := hx.1 y m2
          have b := hy.1 x m1
          omega
    subst e
    refine congrArg (x :: ·) (asc_ext hx.2 hy.2 fun z => ⟨fun m => ?_, fun m => ?_⟩)
    · rcases List.mem_cons.mp ((h z).mp (List.mem_cons_of_mem _ m)) with e | m'
      · have := hx.1 z m
        rw [e] at this
        exact absurd this (Nat.lt_irrefl _)
      · exact m'
    · rcases List.mem_cons.mp ((h z).mpr (List.mem_cons_of_mem _ m)) with e | m'
      · have := hy.1 z m
        rw [e] at this
        exact absurd this (Nat.lt_irrefl _)
      · exact m'
theorem isCl_uniq {ls c1 c2 : List Int} (h1 : IsCl ls c1) (h2 : IsCl ls c2) : c1 = c2 := asc_ext h1.1 h2.1 fun z => (h1.2 z).trans (h2.2 z).symm
theorem not_bad {ls : List Int} (h : bad ls = false) : ¬ (1 : Int) ∈ ls ∧ ∀ l ∈ ls, ¬ fl l ∈ ls := by
  unfold bad at h
  rw [Bool.or_eq_false_iff, List.any_eq_false, List.any_eq_false] at h
  refine ⟨fun m => h.1 1 m (by rfl), fun l m m2 => ?_⟩
  have z := h.2 l m
  rw [Bool.not_eq_true, List.any_eq_false] at z
  exact z _ m2 (by simp)
theorem is_bad {ls : List Int} (h : bad ls = true) : (1 : Int) ∈ ls ∨ ∃ l ∈ ls, fl l ∈ ls := by
  unfold bad at h
  rw [Bool.or_eq_true, List.any_eq_true, List.any_eq_true] at h
  rcases h with ⟨l, m, e⟩ | ⟨l, m, e⟩
  · rw [beq_iff_eq] at e
    subst e
    exact .inl m
  · obtain ⟨k, mk, ek⟩ := List.any_eq_true.mp e
    rw [beq_iff_eq] at ek
    subst ek
    exact .inr ⟨l, m, mk⟩
theorem bad_of {ls : List Int} (h : (1 : Int) ∈ ls ∨ ∃ l ∈ ls, fl l ∈ ls) : bad ls = true := by
  cases e : bad ls with
  | true => rfl
  | false =>
    obtain ⟨a, b⟩ := not_bad e
    rcases h with h | ⟨l, m, m2⟩
    · exact absurd h a
    · exact absurd m2 (b l m)
theorem sgn_abs {l : Int} (h : 0 ≤ l) : (sgn l).natAbs = (l / 2).toNat := by
  unfold sgn
  split <;> omega
/-- literals in order, none the opposite of another one: their clause -/
theorem isCl_map {ls ns : List Int} (h0 : ∀ l ∈ ls, 0 ≤ l) (hb : bad ls = false) (hn : ns.Pairwise (· < ·)) (hm : ∀ l, l ∈ ns ↔ l ∈ ls ∧ 1 < l) : IsCl ls (ns.map sgn) := by
  obtain ⟨b1, b2⟩ := not_bad hb
  refine ⟨?_, fun z => ⟨fun h => ?_, ?_⟩⟩
  · unfold Asc
    rw [List.pairwise_map]
    refine hn.imp_of_mem fun {a b} ma mb hab => ?_
    have a0 := (hm a).mp ma
    have c0 := (hm b).mp mb
    rw [sgn_abs (h0 a a0.1), sgn_abs (h0 b c0.1)]
    have ne : ¬ b = fl a := fun e => b2 a a0.1 (e ▸ c0.1)
    unfold fl at ne
    have := a0.2
    omega
  · obtain ⟨l, m, rfl⟩ := List.mem_map.mp h
    exact ⟨l, ((hm l).mp m).1, ((hm l).mp m).2, rfl⟩
  · rintro ⟨l, m, h1, rfl⟩
    exact List.mem_map.mpr ⟨l, (hm l).mpr ⟨m, h1⟩, rfl⟩
/-- nodes in order, each with its sign: the same clause -/
theorem isCl_nodes {ls ns : List Int} (h0 : ∀ l ∈ ls, 0 ≤ l) (hb : bad ls = false) (hn : ns.Pairwise (· < ·)) (hm : ∀ n, n ∈ ns ↔ ∃ l ∈ ls, 1 < l ∧ n = l / 2) :
    IsCl ls (ns.map fun n => if 2 * n ∈ ls then n else -n) := by
  obtain ⟨b1, b2⟩ := not_bad hb
  have val : ∀ l ∈ ls, 1 < l → (if 2 * (l / 2) ∈ ls then l / 2 else -(l / 2)) = sgn l := fun l m h1 => by
    unfold sgn
    by_cases e : l % 2 = 1
    · rw [if_pos e, if_neg]
      intro m2
      refine b2 l m ?_
      have : fl l = 2 * (l / 2) := by
        unfold fl
        omega
      rw [this]
      exact m2
    · rw [if_neg e, if_pos]
      have : 2 * (l / 2) = l := by omega
      rw [this]
      exact m
  refine ⟨?_, fun z => ⟨fun h => ?_, ?_⟩⟩
  · unfold Asc
    rw [List.pairwise_map]
    refine hn.imp_of_mem fun {a b} ma mb hab => ?_
    obtain ⟨l, ml, hl, rfl⟩ := (hm a).mp ma
    obtain ⟨k, mk, hk, rfl⟩ := (hm b).mp mb
    rw [val l ml hl, val k mk hk, sgn_abs (h0 l ml), sgn_abs (h0 k mk)]
    omega
  · obtain ⟨n, m, rfl⟩ := List.mem_map.mp h
    obtain ⟨l, ml, hl, rfl⟩ := (hm n).mp m
    exact ⟨l, ml, hl, val l ml hl⟩
  · rintro ⟨l, m, h1, rfl⟩
    exact List.mem_map.mpr ⟨l / 2, (hm _).mpr ⟨l, m, h1, rfl⟩, val l m h1⟩
def bnd (ls : List Int) : Nat := ls.foldr (fun l b => max l.toNat b) 0 + 1
theorem bnd_lt : ∀ {ls : List Int} {l : Int}, l ∈ ls → l.toNat < bnd ls
  | k :: r, l, h => by
    unfold bnd
    rw [List.foldr_cons]
    rcases List.mem_cons.mp h with rfl | h
    · have := Nat.le_max_left l.toNat (r.foldr (fun l b => max l.toNat b) 0)
      omega
    · have z := bnd_lt h
      unfold bnd at z
      have := Nat.le_max_right k.toNat (r.foldr (fun l b => max l.toNat b) 0)
      omega
def clL (ls : List Int) : List Int := (((List.range (bnd ls)).map fun (l : Nat) => (l : Int)).filter fun l => decide (l ∈ ls ∧ 1 < l)).map sgn
theorem isCl_clL {ls : List Int} (h0 : ∀ l ∈ ls, 0 ≤ l) (hb : bad ls = false) : IsCl ls (clL ls) := by
  refine isCl_map h0 hb (List.Pairwise.filter _ ?_) fun l => ?_
  · rw [List.pairwise_map]
    exact (List.pairwise_lt_range).imp fun h => by omega
  · rw [List.mem_filter, List.mem_map, decide_eq_true_eq]
    refine ⟨fun h => h.2, fun h => ⟨⟨l.toNat, List.mem_range.mpr (bnd_lt h.1), ?_⟩, h⟩⟩
    have := h0 l h.1
    omega
def clM (ls : List Int) : Option (List Int) := if bad ls then none else some (clL ls)
/-! ### what they say -/
def satB (as cl : List Int) : Bool := cl.any fun z => decide (as.getD (z.natAbs - 1) 0 = if z > 0 then 1 else 0)
def litv (as : List Int) (l : Int) : Int := lit (0 :: as) l
theorem litv_01 {as : List Int} (h : B01 as) (l : Int) : litv as l = 0 ∨ litv as l = 1 := lit_01 (fun z hz => by
  rcases List.mem_cons.mp hz with rfl | hz
  · exact .inl rfl
  · exact h z hz) l
theorem getD_tail (as : List Int) {k : Nat} (h : 0 < k) : (0 :: as).getD k 0 = as.getD (k - 1) 0 := by
  obtain ⟨j, rfl⟩ := Nat.exists_eq_succ_of_ne_zero (Nat.pos_iff_ne_zero.mp h)
  rw [List.getD_eq_getElem?_getD, List.getD_eq_getElem?_getD]
  rfl
theorem sgn_lit {as : List Int} (h : B01 as) {l : Int} (h1 : 1 < l) : (as.getD ((sgn l).natAbs - 1) 0 = if sgn l > 0 then 1 else 0) ↔ litv as l = 1 := by
  have g := getD_tail as (k := (l / 2).toNat) (by omega)
  have b := getD_01 h ((l / 2).toNat - 1)
  rw [sgn_abs (by omega)]
  unfold litv lit ab
  rw [g]
  generalize as.getD ((l / 2).toNat - 1) 0 = x at b
  unfold sgn
  by_cases e : l % 2 = 1
  · rw [if_pos e, if_neg (by omega), e]
    rcases b with rfl | rfl <;> decide
  · have e0 : l % 2 = 0 := by omega
    rw [if_neg e, if_pos (by omega), e0]
    rcases b with rfl | rfl <;> decide
theorem litv_zero (as : List Int) : litv as 0 = 0 := rfl
theorem litv_one (as : List Int) : litv as 1 = 1 := rfl
theorem litv_fl {as : List Int} (h : B01 as) {l : Int} (h0 : 0 ≤ l) : litv as (fl l) = 1 - litv as l := by
  have e : fl l / 2 = l / 2 := by
    unfold fl
    omega
  have b : (0 :: as).getD (l / 2).toNat 0 = 0 ∨ (0 :: as).getD (l / 2).toNat 0 = 1 := getD_01 (fun z hz => by
    rcases List.mem_cons.mp hz with rfl | hz
    · exact .inl rfl
    · exact h z hz) _
  unfold litv lit ab
  rw [e]
  have m : l % 2 = 0 ∨ l % 2 = 1 := by omega
  have m2 : fl l % 2 = 1 - l % 2 := by
    unfold fl
    omega
  rw [m2]
  rcases b with b | b <;> rcases m with m | m <;> rw [b, m] <;> decide
theorem sat_cl {as ls cl : List Int} (h : B01 as) (h0 : ∀ l ∈ ls, 0 ≤ l) (h1 : ¬ (1 : Int) ∈ ls) (hc : IsCl ls cl) : satB as cl = true ↔ ∃ l ∈ ls, litv as l = 1 := by
  unfold satB
  rw [List.any_eq_true]
  constructor
  · rintro ⟨z, hz, e⟩
    obtain ⟨l, ml, hl, rfl⟩ := (hc.2 z).mp hz
    exact ⟨l, ml, (sgn_lit h hl).mp (of_decide_eq_true e)⟩
  · rintro ⟨l, ml, e⟩
    have l0 := h0 l ml
    have l1 : 1 < l := by
      rcases Int.lt_trichotomy l 1 with q | q | q
      · have : l = 0 := by omega
        rw [this, litv_zero] at e
        cases e
      · rw [q] at ml
        exact absurd ml h1
      · exact q
    exact ⟨sgn l, (hc.2 _).mpr ⟨l, ml, l1, rfl⟩, decide_eq_true ((sgn_lit h l1).mpr e)⟩
theorem sat_bad {as ls : List Int} (h : B01 as) (h0 : ∀ l ∈ ls, 0 ≤ l) (hb : bad ls = true) : ∃ l ∈ ls, litv as l = 1 := by
  rcases is_bad hb with m | ⟨l, m, m2⟩
  · exact ⟨1, m, litv_one as⟩
  · rcases litv_01 h l with e | e
    · refine ⟨fl l, m2, ?_⟩
      rw [litv_fl h (h0 l m), e]
      rfl
    · exact ⟨l, m, e⟩
/-- a row of literals, as the clause of it says -/
def holds (as ls : List Int) : Prop := match clM ls with
  | none => True
  | some cl => satB as cl = true
theorem holds_iff {as ls : List Int} (h : B01 as) (h0 : ∀ l ∈ ls, 0 ≤ l) : holds as ls ↔ ∃ l ∈ ls, litv as l = 1 := by
  unfold holds clM
  cases e : bad ls with
  | true => exact ⟨fun _ => sat_bad h h0 e, fun _ => trivial⟩
  | false => exact sat_cl h h0 (not_bad e).1 (isCl_clL h0 e)
def three (g : Int) (p : Int × Int) : List (List Int) := [[p.1, g + 1], [p.2, g + 1], [fl p.1, fl p.2, g]]
def clauses (n : Nat) : List (Int × Int) → List (List Int)
  | [] => []
  | p :: r => (three (2 * ((n : Int) + 1)) p).filterMap clM ++ clauses (n + 1) r
theorem gate_iff {as : List Int} {g : Int} {p : Int × Int} (h : B01 as) (h1 : 0 ≤ p.1) (h2 : 0 ≤ p.2) (hg : 0 ≤ g) (he : g % 2 = 0) :
    (∀ cl ∈ (three g p).filterMap clM, satB as cl = true) ↔ litv as g = litv as p.1 * litv as p.2 := by
  have tr : (∀ cl ∈ (three g p).filterMap clM, satB as cl = true) ↔ ∀ ls ∈ three g p, holds as ls := by
    constructor
    · intro q ls m
      unfold holds
      cases e : clM ls with
      | none => exact trivial
      | some cl => exact q cl (List.mem_filterMap.mpr ⟨ls, m, e⟩)
    · intro q cl m
      obtain ⟨ls, m1, e⟩ := List.mem_filterMap.mp m
      have z := q ls m1
      unfold holds at z
      rw [e] at z
      exact z
  have f1 : 0 ≤ fl p.1 := by
    unfold fl
    omega
  have f2 : 0 ≤ fl p.2 := by
    unfold fl
    omega
  have eg : g + 1 = fl g := by
    unfold fl
    omega
  have nn1 : ∀ l ∈ [p.1, g + 1], 0 ≤ l := fun l m => by
    rcases List.mem_cons.mp m with rfl | m
    · exact h1
    · rw [List.mem_singleton.mp m]
      omega
  have nn2 : ∀ l ∈ [p.2, g + 1], 0 ≤ l := fun l m => by
    rcases List.mem_cons.mp m with rfl | m
    · exact h2
    · rw [List.mem_singleton.mp m]
      omega
  have nn3 : ∀ l ∈ [fl p.1, fl p.2, g], 0 ≤ l := fun l m => by
    rcases List.mem_cons.mp m with rfl | m
    · exact f1
    · rcases List.mem_cons.mp m with rfl | m
      · exact f2
      · rw [List.mem_singleton.mp m]
        exact hg
  have k1 := holds_iff h nn1
  have k2 := holds_iff h nn2
  have k3 := holds_iff h nn3
  simp only [List.mem_cons, List.not_mem_nil, or_false, exists_eq_or_imp, exists_eq_left] at k1 k2 k3
  rw [tr]
  simp only [three, List.mem_cons, List.not_mem_nil, or_false, forall_eq_or_imp, forall_eq]
  rw [k1, k2, k3, eg, litv_fl h hg, litv_fl h h1, litv_fl h h2]
  rcases litv_01 h p.1 with a | a <;> rcases litv_01 h p.2 with b | b <;> rcases litv_01 h g with c | c <;> rw [a, b, c] <;> decide
end Cm
namespace Cn
open PySem PySem.Spec PyProof.Rows L2 Fi Gr No Lf Cm
/-! ## Just one assignment, and all rows of bits -/
def fits (as : List Int) (n : Nat) (gs : List (Int × Int)) : Prop := ∀ cl ∈ clauses n gs, satB as cl = true
theorem foldl_pre : ∀ (gs : List (Int × Int)) (f : List Int), (gs.foldl No.step f).take f.length = f
  | [], f => List.take_length
  | p :: r, f => by
    show (r.foldl No.step (No.step f p)).take f.length = f
    have e := foldl_pre r (No.step f p)
    have hl : f.length ≤ (No.step f p).length := by
      unfold No.step
      rw [List.length_append]
      exact Nat.le_add_right _ _
    have e2 : ((r.foldl No.step (No.step f p)).take (No.step f p).length).take f.length = (No.step f p).take f.length := by rw [e]
    rw [List.take_take, Nat.min_eq_left hl] at e2
    rw [e2]
    unfold No.step
    exact List.take_left
theorem getD_take {f : List Int} {j k : Nat} (h : j < k) : (f.take k).getD j 0 = f.getD j 0 := by
  rw [List.getD_eq_getElem?_getD, List.getD_eq_getElem?_getD, List.getElem?_take_of_lt h]
theorem lit_take {f : List Int} {a : Int} {k : Nat} (h0 : 0 ≤ a) (h : (a / 2).toNat < k) : lit (f.take k) a = lit f a := by
  unfold lit
  rw [getD_take h]
theorem take_snoc {as : List Int} {n : Nat} (h : n < as.length) : as.take (n + 1) = as.take n ++ [as.getD n 0] := by
  rw [List.take_succ, List.getD_eq_getElem?_getD, List.getElem?_eq_getElem h]
  rfl
theorem fits_iff : ∀ (gs : List (Int × Int)) (n : Nat) (as : List Int), B01 as → as.length = n + gs.length → okG (2 * (n : Int) + 1) gs = true → (fits as n gs ↔ 0 :: as = gs.foldl No.step (0 :: as.take n))
  | [], n, as, _, hl, _ => by
    have e : as.take n = as := List.take_of_length_le (by simp at hl; omega)
    refine ⟨fun _ => ?_, fun _ cl m => by cases m⟩
    show 0 :: as = 0 :: as.take n
    rw [e]
  | p :: r, n, as, hb, hl, hok => by
    have hl' : as.length = n + 1 + r.length := by
      rw [hl, List.length_cons]
      omega
    have hn : n < as.length := by omega
    obtain ⟨⟨a0, a1⟩, b0, b1⟩ := okG_at (i := 0) (p := p) hok rfl
    have hok2 : okG (2 * ((n + 1 : Nat) : Int) + 1) r = true := by
      unfold okG at hok
      rw [Bool.and_eq_true] at hok
      rw [show 2 * ((n + 1 : Nat) : Int) + 1 = 2 * (n : Int) + 1 + 2 by omega]
      exact hok.2
    have ih := fits_iff r (n + 1) as hb hl' hok2
    have gate := gate_iff (as := as) (g := 2 * ((n : Int) + 1)) (p := p) hb a0 b0 (by omega) (by omega)
    have split : fits as n (p :: r) ↔ litv as (2 * ((n : Int) + 1)) = litv as p.1 * litv as p.2 ∧ fits as (n + 1) r := by
      rw [← gate]
      have ec : clauses n (p :: r) = (three (2 * ((n : Int) + 1)) p).filterMap clM ++ clauses (n + 1) r := rfl
      unfold fits
      rw [ec]
      constructor
      · exact fun h => ⟨fun cl m => h cl (List.mem_append_left _ m), fun cl m => h cl (List.mem_append_right _ m)⟩
      · rintro ⟨h1, h2⟩ cl m
        rcases List.mem_append.mp m with m | m
        · exact h1 cl m
        · exact h2 cl m
    have lg : litv as (2 * ((n : Int) + 1)) = as.getD n 0 := by
      unfold litv lit
      have e1 : (2 * ((n : Int) + 1) / 2).toNat = n + 1 := by omega
      have e2 : 2 * ((n : Int) + 1) % 2 = 0 := by omega
      rw [e1, e2, getD_tail as (by omega : 0 < n + 1)]
      show ab (as.getD n 0 - 0) = _
      rcases getD_01 hb n with q | q <;> rw [q] <;> rfl
    have st : No.step (0 :: as.take n) p = 0 :: as.take n ++ [litv as p.1 * litv as p.2] := by
      unfold No.step
      have e : (0 :: as.take n) = (0 :: as).take (n + 1) := rfl
      rw [e, lit_take a0 (by omega), lit_take b0 (by omega)]
      rfl
    have goal : (p :: r).foldl No.step (0 :: as.take n) = r.foldl No.step (0 :: as.take n ++ [litv as p.1 * litv as p.2]) := by
      show r.foldl No.step (No.step (0 :: as.take n) p) = _
      rw [st]
    have tk := take_snoc hn
    rw [split, goal, lg, ih, tk]
    constructor
    · rintro ⟨e1, e2⟩
      rw [e1] at e2
      exact e2
    · intro e2
      have pre := foldl_pre r (0 :: as.take n ++ [litv as p.1 * litv as p.2])
      rw [← e2] at pre
      have ln : (0 :: as.take n ++ [litv as p.1 * litv as p.2]).length = n + 2 := by
        rw [List.length_append, List.length_cons, List.length_take, Nat.min_eq_left (Nat.le_of_lt hn)]
        rfl
      rw [ln] at pre
      have pre2 : (0 :: as).take (n + 2) = 0 :: as.take n ++ [as.getD n 0] := by
        show 0 :: as.take (n + 1) = _
        rw [tk]
        rfl
      rw [pre2] at pre
      have e1 : as.getD n 0 = litv as p.1 * litv as p.2 := by
        have z := List.append_inj_right' pre rfl
        exact List.head_eq_of_cons_eq z
      refine ⟨e1, ?_⟩
      rw [e1]
      exact e2
/-- the one assignment that has these bits -/
def whole (bs : List Int) (gs : List (Int × Int)) : List Int := (vals bs gs).drop 1
theorem vals_head (bs : List Int) (gs : List (Int × Int)) : vals bs gs = 0 :: whole bs gs := by
  have e := foldl_pre gs (0 :: bs)
  unfold whole
  cases h : vals bs gs with
  | nil =>
    have z := vals_len bs gs
    rw [h] at z
    have z2 : 0 = bs.length + 1 + gs.length := z
    omega
  | cons x r =>
    unfold vals at h
    rw [h] at e
    have : x = 0 := List.head_eq_of_cons_eq e
    rw [this]
    rfl
theorem whole_len (bs : List Int) (gs : List (Int × Int)) : (whole bs gs).length = bs.length + gs.length := by
  unfold whole
  rw [List.length_drop, vals_len]
  omega
theorem whole_01 {bs : List Int} (gs : List (Int × Int)) (h : B01 bs) : B01 (whole bs gs) := fun z hz => vals_01 gs h z (List.mem_of_mem_drop hz)
theorem whole_take (bs : List Int) (gs : List (Int × Int)) : (whole bs gs).take bs.length = bs := by
  have e := foldl_pre gs (0 :: bs)
  have v := vals_head bs gs
  unfold vals at v
  rw [v] at e
  exact List.tail_eq_of_cons_eq e
theorem fits_whole {as bs : List Int} {gs : List (Int × Int)} (hb : B01 as) (hl : as.length = bs.length + gs.length) (hok : okG (2 * (bs.length : Int) + 1) gs = true) : (fits as bs.length gs ∧ as.take bs.length = bs) ↔ as = whole bs gs := by
  rw [fits_iff gs bs.length as hb hl hok]
  constructor
  · rintro ⟨e1, e2⟩
    rw [e2] at e1
    have v := vals_head bs gs
    unfold vals at v
    rw [v] at e1
    exact List.tail_eq_of_cons_eq e1
  · intro e
    have t : as.take bs.length = bs := by
      rw [e]
      exact whole_take bs gs
    refine ⟨?_, t⟩
    rw [t]
    have v := vals_head bs gs
    unfold vals at v
    rw [v, e]
/-! ### all rows of so many bits -/
theorem longer_in : ∀ {rs : List (List Int)} {t : List Int}, t ∈ longer rs ↔ ∃ r ∈ rs, t = r ++ [0] ∨ t = r ++ [1]
  | [], t => ⟨fun h => absurd h List.not_mem_nil, fun ⟨_, h, _⟩ => absurd h List.not_mem_nil⟩
  | r :: rs, t => by
    rw [longer_cons, List.mem_cons, List.mem_cons, longer_in]
    constructor
    · rintro (h | h | ⟨s, m, h⟩)
      · exact ⟨r, List.mem_cons_self, .inl h⟩
      · exact ⟨r, List.mem_cons_self, .inr h⟩
      · exact ⟨s, List.mem_cons_of_mem _ m, h⟩
    · rintro ⟨s, m, h⟩
      rcases List.mem_cons.mp m with rfl | m
      · rcases h with h | h
        · exact .inl h
        · exact .inr (.inl h)
      · exact .inr (.inr ⟨s, m, h⟩)
theorem longer_nd : ∀ {rs : List (List Int)}, rs.Nodup → (longer rs).Nodup
  | [], _ => List.nodup_nil
  | r :: rs, h => by
    rw [List.nodup_cons] at h
    rw [longer_cons, List.nodup_cons, List.nodup_cons, List.mem_cons, longer_in, longer_in]
    have no : ∀ z : Int, ¬ ∃ s ∈ rs, r ++ [z] = s ++ [0] ∨ r ++ [z] = s ++ [1] := fun z ⟨s, m, e⟩ => by
      have : r = s := by
        rcases e with e | e <;> exact List.append_inj_left' e rfl
      rw [this] at h
      exact h.1 m
    refine ⟨fun e => ?_, no 1, longer_nd h.2⟩
    rcases e with e | e
    · have z := List.append_inj_right' e rfl
      cases z
    · exact no 0 e
theorem rowsM_nd : ∀ n : Nat, (rowsM n).Nodup
  | 0 => by
    show [([] : List Int)].Nodup
    rw [List.nodup_cons]
    exact ⟨List.not_mem_nil, List.nodup_nil⟩
  | n + 1 => longer_nd (rowsM_nd n)
theorem rowsM_all : ∀ (n : Nat) (r : List Int), r.length = n → B01 r → r ∈ rowsM n
  | 0, r, h, _ => by
    rw [List.length_eq_zero_iff.mp h]
    exact List.mem_cons_self
  | n + 1, r, h, hb => by
    show r ∈ longer (rowsM n)
    have hne : r ≠ [] := fun e => by
      rw [e] at h
      cases h
    have e := List.dropLast_concat_getLast hne
    have hd : B01 r.dropLast := fun z hz => hb z (List.dropLast_subset r hz)
    have hl := hb _ (List.getLast_mem hne)
    have hm := rowsM_all n r.dropLast (by rw [List.length_dropLast, h]; rfl) hd
    rw [longer_in]
    refine ⟨r.dropLast, hm, ?_⟩
    rcases hl with q | q
    · rw [q] at e
      exact .inl e.symm
    · rw [q] at e
      exact .inr e.symm
theorem filter_one {p : List Int → Bool} {w : List Int} : ∀ {l : List (List Int)}, l.Nodup → w ∈ l → (∀ r ∈ l, p r = true ↔ r = w) → l.filter p = [w]
  | [], _, h, _ => by cases h
  | r :: l, nd, h, hp => by
    rw [List.nodup_cons] at nd
    by_cases e : r = w
    · rw [List.filter_cons_of_pos ((hp r List.mem_cons_self).mpr e), e]
      have none : l.filter p = [] := by
        rw [List.filter_eq_nil_iff]
        intro s m q
        have := (hp s (List.mem_cons_of_mem _ m)).mp q
        rw [this, ← e] at m
        exact nd.1 m
      rw [none]
    · have hr : ¬ p r = true := fun q => e ((hp r List.mem_cons_self).mp q)
      rw [List.filter_cons_of_neg hr]
      rcases List.mem_cons.mp h with q | q
      · exact absurd q.symm e
      · exact filter_one nd.2 q fun s m => hp s (List.mem_cons_of_mem _ m)
end Cn
namespace Rp
open PySem PySem.Spec PyProof.Rows L2 Fi
/-! ## What may be handed to repr -/
structure ROk (d : PyData) : Prop where
  show_ : d.showable = true
  dict : d.hasDict = false
  deep : d.depth ≤ 60
  long : d.shown.length ≤ sizeLine
def Small (i : Int) : Prop := 0 ≤ i ∧ i < 1000
theorem log_small : ∀ n : Nat, n < 1000 → n.log2 < 10 := by decide +kernel
theorem abs_small {i : Int} (h : Small i) : i.natAbs < 1000 := by
  obtain ⟨a, b⟩ := h
  omega
theorem show_small {i : Int} (h : Small i) : (PyData.int i).showable = true := by
  have := log_small _ (abs_small h)
  exact decide_eq_true (Nat.lt_trans this (by decide))
theorem weigh_small {i : Int} (h : Small i) : (PyData.int i).weight ≤ 10 := by
  have := log_small _ (abs_small h)
  show (if i == 0 then 0 else i.natAbs.log2 + 1) ≤ 10
  split <;> omega
theorem short_small {i : Int} (h : Small i) : (PyData.int i).intsShort 13 = true := by
  have := abs_small h
  exact decide_eq_true (PyData.shown_int_le (Nat.lt_trans this (by decide)))
theorem ints_all : ∀ {ns : List Int}, (∀ z ∈ ns, Small z) → PyData.showableAll (ns.map .int) = true ∧ PyData.hasDictAll (ns.map .int) = false ∧ PyData.depthAll (ns.map .int) = 0 ∧ PyData.canLayAll0 (ns.map .int) = true ∧
    PyData.intsShortAll 13 (ns.map .int) = true ∧ PyData.weightAll (ns.map .int) ≤ 11 * ns.length
  | [], _ => ⟨rfl, rfl, rfl, rfl, rfl, Nat.zero_le _⟩
  | z :: r, h => by
    have hz := h z List.mem_cons_self
    obtain ⟨a, b, c, d, e, g⟩ := ints_all (ns := r) fun y hy => h y (List.mem_cons_of_mem _ hy)
    refine ⟨?_, b, ?_, d, ?_, ?_⟩
    · show ((PyData.int z).showable && PyData.showableAll (r.map .int)) = true
      rw [show_small hz, a]
      rfl
    · show max 0 (PyData.depthAll (r.map .int)) = 0
      rw [c]
      rfl
    · show ((PyData.int z).intsShort 13 && PyData.intsShortAll 13 (r.map .int)) = true
      rw [short_small hz, e]
      rfl
    · show (PyData.int z).weight + 1 + PyData.weightAll (r.map .int) ≤ 11 * (r.length + 1)
      have := weigh_small hz
      omega
theorem row_ok {ns : List Int} (h : ∀ z ∈ ns, Small z) (hz : ns.length ≤ 1000) : ROk (.tuple (ns.map .int)) := by
  obtain ⟨a, b, c, d, e, g⟩ := ints_all h
  refine ⟨a, b, by show PyData.depthAll (ns.map .int) + 1 ≤ 60; omega, PyData.shown_fits_of_layable0 (B := 13) (by decide) (by decide) ?_ e⟩
  show ((PyData.canLayAll0 (ns.map .int) && decide (PyData.depthAll (ns.map .int) + 1 ≤ 64)) && decide (PyData.weightAll (ns.map .int) ≤ 2 ^ 20)) = true
  rw [d, decide_eq_true (by omega), decide_eq_true (Nat.le_trans g (Nat.le_trans (Nat.mul_le_mul_left 11 hz) (by decide)))]
  rfl
def SmallP (p : Int × Int) : Prop := Small p.1 ∧ Small p.2
theorem pairs_all : ∀ {gs : List (Int × Int)}, (∀ p ∈ gs, SmallP p) → PyData.showableAll (gs.map pD) = true ∧ PyData.hasDictAll (gs.map pD) = false ∧ PyData.depthAll (gs.map pD) ≤ 1 ∧ PyData.canLayAll0 (gs.map pD) = true ∧
    PyData.intsShortAll 13 (gs.map pD) = true ∧ PyData.weightAll (gs.map pD) ≤ 30 * gs.length
  | [], _ => ⟨rfl, rfl, Nat.zero_le _, rfl, rfl, Nat.zero_le _⟩
  | p :: r, h => by
    obtain ⟨p1, p2⟩ := h p List.mem_cons_self
    obtain ⟨a, b, c, d, e, g⟩ := pairs_all (gs := r) fun y hy => h y (List.mem_cons_of_mem _ hy)
    refine ⟨?_, b, ?_, d, ?_, ?_⟩
    · show (((PyData.int p.1).showable && ((PyData.int p.2).showable && true)) && PyData.showableAll (r.map pD)) = true
      rw [show_small p1, show_small p2, a]
      rfl
    · show max 1 (PyData.depthAll (r.map pD)) ≤ 1
      exact Nat.max_le.mpr ⟨Nat.le_refl _, c⟩
    · show (((PyData.int p.1).intsShort 13 && ((PyData.int p.2).intsShort 13 && true)) && PyData.intsShortAll 13 (r.map pD)) = true
      rw [short_small p1, short_small p2, e]
      rfl
    · show ((PyData.int p.1).weight + 1 + ((PyData.int p.2).weight + 1 + 0)) + 1 + PyData.weightAll (r.map pD) ≤ 30 * (r.length + 1)
      have h1 := weigh_small p1
      have h2 := weigh_small p2
      omega
theorem gates_ok {gs : List (Int × Int)} (h : ∀ p ∈ gs, SmallP p) (hz : gs.length ≤ 1000) : ROk (gD gs) := by
  obtain ⟨a, b, c, d, e, g⟩ := pairs_all h
  refine ⟨a, b, by show PyData.depthAll (gs.map pD) + 1 ≤ 60; omega, PyData.shown_fits_of_layable0 (B := 13) (by decide) (by decide) ?_ e⟩
  show ((PyData.canLayAll0 (gs.map pD) && decide (PyData.depthAll (gs.map pD) + 1 ≤ 64)) && decide (PyData.weightAll (gs.map pD) ≤ 2 ^ 20)) = true
  rw [d, decide_eq_true (by omega), decide_eq_true (Nat.le_trans g (Nat.le_trans (Nat.mul_le_mul_left 30 hz) (by decide)))]
  rfl
theorem shaped_ints {ns : List Int} (h : ∀ z ∈ ns, Small z) : SeqAt.shaped (.list (ns.map .int)) = true ∧ SeqAt.shaped (.tuple (ns.map .int)) = true := by
  obtain ⟨a, b, c, d, e, g⟩ := ints_all h
  have k : (PyData.canLayAll0 (ns.map .int) && decide (PyData.depthAll (ns.map .int) + 1 ≤ 64)) = true := by
    rw [d, decide_eq_true (by omega)]
    rfl
  exact ⟨k, k⟩
theorem eqv_len : ∀ (xs ys : List PyData), PyData.eqvAll xs ys = true → xs.length = ys.length
  | [], [], _ => rfl
  | [], _ :: _, h => by
    unfold PyData.eqvAll at h
    cases h
  | _ :: _, [], h => by
    unfold PyData.eqvAll at h
    cases h
  | x :: xs, y :: ys, h => by
    unfold PyData.eqvAll at h
    exact congrArg Nat.succ (eqv_len xs ys (Bool.and_eq_true_iff.mp h).2)
theorem eqv_self (gs : List (Int × Int)) : PyData.eqv (gD gs) (gD gs) = true := SeqAt.eqv_refl _ (Gr.can_pD gs)
theorem eqv_cut {gs hs : List (Int × Int)} (h : gs.length ≠ hs.length) : PyData.eqv (gD gs) (gD hs) = false := by
  cases e : PyData.eqv (gD gs) (gD hs) with
  | false => rfl
  | true =>
    have e' : PyData.eqvAll (gs.map pD) (hs.map pD) = true := by
      unfold gD PyData.eqv at e
      exact e
    have := eqv_len _ _ e'
    rw [List.length_map, List.length_map] at this
    exact absurd this h
end Rp
namespace Rq
open PySem PySem.Spec PyProof.Rows L2 Fi
/-! ## Rows of rows of small ints, handed to repr and compared -/
structure ROk (d : PyData) : Prop where
  show_ : d.showable = true
  dict : d.hasDict = false
  deep : d.depth ≤ 60
  long : d.shown.length ≤ sizeLine
def Small (i : Int) : Prop := i.natAbs < 1000
theorem log_small : ∀ n : Nat, n < 1000 → n.log2 < 10 := by decide +kernel
theorem show_small {i : Int} (h : Small i) : (PyData.int i).showable = true := decide_eq_true (Nat.lt_trans (log_small _ h) (by decide))
theorem weigh_small {i : Int} (h : Small i) : (PyData.int i).weight ≤ 10 := by
  have := log_small _ h
  show (if i == 0 then 0 else i.natAbs.log2 + 1) ≤ 10
  split <;> omega
theorem short_small {i : Int} (h : Small i) : (PyData.int i).intsShort 13 = true := decide_eq_true (PyData.shown_int_le (Nat.lt_trans h (by decide)))
theorem ints_all : ∀ {ns : List Int}, (∀ z ∈ ns, Small z) → PyData.showableAll (ns.map .int) = true ∧ PyData.hasDictAll (ns.map .int) = false ∧ PyData.depthAll (ns.map .int) = 0 ∧ PyData.canLayAll0 (ns.map .int) = true ∧
    PyData.intsShortAll 13 (ns.map .int) = true ∧ PyData.weightAll (ns.map .int) ≤ 11 * ns.length
  | [], _ => ⟨rfl, rfl, rfl, rfl, rfl, Nat.zero_le _⟩
  | z :: r, h => by
    have hz := h z List.mem_cons_self
    obtain ⟨a, b, c, d, e, g⟩ := ints_all (ns := r) fun y hy => h y (List.mem_cons_of_mem _ hy)
    refine ⟨?_, b, ?_, d, ?_, ?_⟩
    · show ((PyData.int z).showable && PyData.showableAll (r.map .int)) = true
      rw [show_small hz, a]
      rfl
    · show max 0 (PyData.depthAll (r.map .int)) = 0
      rw [c]
      rfl
    · show ((PyData.int z).intsShort 13 && PyData.intsShortAll 13 (r.map .int)) = true
      rw [short_small hz, e]
      rfl
    · show (PyData.int z).weight + 1 + PyData.weightAll (r.map .int) ≤ 11 * (r.length + 1)
      have := weigh_small hz
      omega
theorem row_ok {ns : List Int} (h : ∀ z ∈ ns, Small z) (hz : ns.length ≤ 1000) : ROk (.tuple (ns.map .int)) := by
  obtain ⟨a, b, c, d, e, g⟩ := ints_all h
  refine ⟨a, b, by show PyData.depthAll (ns.map .int) + 1 ≤ 60; omega, PyData.shown_fits_of_layable0 (B := 13) (by decide) (by decide) ?_ e⟩
  show ((PyData.canLayAll0 (ns.map .int) && decide (PyData.depthAll (ns.map .int) + 1 ≤ 64)) && decide (PyData.weightAll (ns.map .int) ≤ 2 ^ 20)) = true
  rw [d, decide_eq_true (by omega), decide_eq_true (Nat.le_trans g (Nat.le_trans (Nat.mul_le_mul_left 11 hz) (by decide)))]
  rfl
theorem non_ok : ROk .none := ⟨rfl, rfl, by decide, by decide +kernel⟩
def rD (r : List Int) : PyData := .tuple (r.map .int)
theorem rows_all : ∀ {rs : List (List Int)}, (∀ r ∈ rs, (∀ z ∈ r, Small z) ∧ r.length ≤ 100) → PyData.showableAll (rs.map rD) = true ∧ PyData.hasDictAll (rs.map rD) = false ∧ PyData.depthAll (rs.map rD) ≤ 1 ∧ PyData.canLayAll0 (rs.map rD) = true ∧
    PyData.intsShortAll 13 (rs.map rD) = true ∧ PyData.weightAll (rs.map rD) ≤ 1101 * rs.length
  | [], _ => ⟨rfl, rfl, Nat.zero_le _, rfl, rfl, Nat.zero_le _⟩
  | p :: r, h => by
    obtain ⟨p1, p2⟩ := h p List.mem_cons_self
    obtain ⟨a1, b1, c1, d1, e1, g1⟩ := ints_all p1
    obtain ⟨a, b, c, d, e, g⟩ := rows_all (rs := r) fun y hy => h y (List.mem_cons_of_mem _ hy)
    refine ⟨?_, ?_, ?_, ?_, ?_, ?_⟩
    · show (PyData.showableAll (p.map .int) && PyData.showableAll (r.map rD)) = true
      rw [a1, a]
      rfl
    · show (PyData.hasDictAll (p.map .int) || PyData.hasDictAll (r.map rD)) = false
      rw [b1, b]
      rfl
    · show max (PyData.depthAll (p.map .int) + 1) (PyData.depthAll (r.map rD)) ≤ 1
      rw [c1]
      exact Nat.max_le.mpr ⟨Nat.le_refl _, c⟩
    · show (PyData.canLayAll0 (p.map .int) && PyData.canLayAll0 (r.map rD)) = true
      rw [d1, d]
      rfl
    · show (PyData.intsShortAll 13 (p.map .int) && PyData.intsShortAll 13 (r.map rD)) = true
      rw [e1, e]
      rfl
    · show PyData.weightAll (p.map .int) + 1 + PyData.weightAll (r.map rD) ≤ 1101 * (r.length + 1)
      omega
theorem rows_ok {rs : List (List Int)} (h : ∀ r ∈ rs, (∀ z ∈ r, Small z) ∧ r.length ≤ 100) (hz : rs.length ≤ 600) : ROk (.tuple (rs.map rD)) := by
  obtain ⟨a, b, c, d, e, g⟩ := rows_all h
  refine ⟨a, b, by show PyData.depthAll (rs.map rD) + 1 ≤ 60; omega, PyData.shown_fits_of_layable0 (B := 13) (by decide) (by decide) ?_ e⟩
  show ((PyData.canLayAll0 (rs.map rD) && decide (PyData.depthAll (rs.map rD) + 1 ≤ 64)) && decide (PyData.weightAll (rs.map rD) ≤ 2 ^ 20)) = true
  rw [d, decide_eq_true (by omega), decide_eq_true (Nat.le_trans g (Nat.le_trans (Nat.mul_le_mul_left 1101 hz) (by decide)))]
  rfl
theorem rows_shaped {rs : List (List Int)} (h : ∀ r ∈ rs, (∀ z ∈ r, Small z) ∧ r.length ≤ 100) : SeqAt.shaped (.list (rs.map rD)) = true := by
  obtain ⟨a, b, c, d, e, g⟩ := rows_all h
  show (PyData.canLayAll0 (rs.map rD) && decide (PyData.depthAll (rs.map rD) + 1 ≤ 64)) = true
  rw [d, decide_eq_true (by omega)]
  rfl
theorem tus_dp {K : PySem.W.Frag} {H : Hp} : ∀ {vs : List V} {rs : List (List Int)}, All2 (Tu K H) vs rs → DpAll K H vs (rs.map rD)
  | _, _, .nil => .nil
  | _, _, .cons h t => by
    obtain ⟨q, rfl, h⟩ := h
    exact .cons (.tup (SqT.of h) (ints_dp _)) (tus_dp t)
theorem bools_dp {K : PySem.W.Frag} {H : Hp} : ∀ bs : List Bool, DpAll K H (bs.map V.bl) (bs.map PyData.bool)
  | [] => .nil
  | _ :: r => .cons (.bl _) (bools_dp r)
theorem bools_lay : ∀ bs : List Bool, PyData.canLayAll0 (bs.map PyData.bool) = true ∧ PyData.depthAll (bs.map PyData.bool) = 0
  | [] => ⟨rfl, rfl⟩
  | b :: r => by
    obtain ⟨x, y⟩ := bools_lay r
    refine ⟨x, ?_⟩
    show max 0 (PyData.depthAll (r.map PyData.bool)) = 0
    rw [y]
    rfl
theorem bools_shaped (bs : List Bool) : SeqAt.shaped (.list (bs.map PyData.bool)) = true := by
  obtain ⟨x, y⟩ := bools_lay bs
  show (PyData.canLayAll0 (bs.map PyData.bool) && decide (PyData.depthAll (bs.map PyData.bool) + 1 ≤ 64)) = true
  rw [x, y]
  rfl
end Rq
namespace Bd
open PySem PySem.Spec PyProof.Rows L2 Pen Dat Ki Fi Gr
/-! ## Builders -/
def flp (l : Int) : Int := l + 1 - 2 * (l % 2)
def ix (p : Int × Int) (gs : List (Int × Int)) : Nat := gs.findIdx (fun q => decide (q = p))
def ordP (a b : Int) : Int × Int := if a > b then (a, b) else (b, a)
def gated (n : Int) (gs : List (Int × Int)) (p : Int × Int) : List (Int × Int) × Int := if p ∈ gs then (gs, 2 * (n + ix p gs + 1)) else (gs ++ [p], 2 * (n + gs.length + 1))
theorem xor_one {l : Int} (h : 0 ≤ l) : Builtin.bitXor l 1 = flp l := by
  obtain ⟨n, rfl⟩ := Int.eq_ofNat_of_zero_le h
  rw [Bits.bitXor_pp h (by decide)]
  have z := Bits.nat_xor_add_and n 1
  rw [Nat.and_one_is_mod] at z
  unfold flp
  have e : ((n : Int)).toNat = n := Int.toNat_natCast n
  have e1 : (1 : Int).toNat = 1 := rfl
  rw [e, e1]
  omega
/-- what and_of does -/
def andM (n : Int) (gs : List (Int × Int)) (a b : Int) : List (Int × Int) × Int :=
  if a = 0 ∨ b = 0 ∨ a = flp b then (gs, 0) else if a = 1 then (gs, b) else if b = 1 ∨ a = b then (gs, a) else gated n gs (ordP a b)
def kP (p : Int × Int) : List Key := [.inl p.1, .inl p.2]
/-- a table of pairs' literals -/
def StandM (n : Int) (gs : List (Int × Int)) (kvs : List (List Key × V)) : Prop := kvs.length = gs.length ∧ ∀ p : Int × Int, valV kvs (kP p) = if p ∈ gs then some (.int (2 * (n + ix p gs + 1))) else none
theorem kP_inj {p q : Int × Int} (h : kP p = kP q) : p = q := by
  unfold kP at h
  injection h with a b
  injection b with b _
  exact Prod.ext (Sum.inl.inj a) (Sum.inl.inj b)
theorem ix_mem {p : Int × Int} {gs : List (Int × Int)} {t : List (Int × Int)} (h : p ∈ gs) : ix p (gs ++ t) = ix p gs := by
  unfold ix
  rw [List.findIdx_append]
  have : gs.findIdx (fun q => decide (q = p)) < gs.length := List.findIdx_lt_length_of_exists ⟨p, h, decide_eq_true rfl⟩
  rw [if_pos this]
theorem ix_new {p : Int × Int} {gs : List (Int × Int)} (h : ¬ p ∈ gs) : ix p (gs ++ [p]) = gs.length := by
  unfold ix
  rw [List.findIdx_append]
  have e : gs.findIdx (fun q => decide (q = p)) = gs.length := List.findIdx_eq_length.mpr fun q hq => decide_eq_false fun e => h (e ▸ hq)
  rw [e, if_neg (Nat.lt_irrefl _)]
  have : [p].findIdx (fun q => decide (q = p)) = 0 := by
    rw [List.findIdx_cons, decide_eq_true rfl]
    rfl
  rw [this]
  exact Nat.zero_add _
theorem StandM.put {n : Int} {gs : List (Int × Int)} {kvs : List (List Key × V)} {p : Int × Int} (h : StandM n gs kvs) (hp : ¬ p ∈ gs) : StandM n (gs ++ [p]) (putK kvs (kP p) (.int (2 * (n + gs.length + 1)))) := by
  obtain ⟨h1, h2⟩ := h
  have hv : valV kvs (kP p) = none := by
    rw [h2 p, if_neg hp]
  refine ⟨?_, fun q => ?_⟩
  · rw [putK_new _ hv, List.length_append, List.length_append, h1]
    rfl
  · rw [valV_put]
    by_cases e : q = p
    · subst e
      rw [if_pos rfl, if_pos (List.mem_append_right _ List.mem_cons_self), ix_new hp]
    · rw [if_neg fun z => e (kP_inj z), h2 q]
      by_cases m : q ∈ gs
      · rw [if_pos m, if_pos (List.mem_append_left _ m), ix_mem m]
      · rw [if_neg m, if_neg fun z => (List.mem_append.mp z).elim m fun z => e (List.mem_singleton.mp z)]
structure Tx (K : PySem.W.Frag) (mg : Str → Option Value) (B : Addr) : Prop where
  ki : Ki.Tx mg
  cl : Cls K B
  nL : NoAttr K B "leaves"
  nG : NoAttr K B "gates"
  nS : NoAttr K B "standing"
def fB (n : Int) (gl sd : Addr) : List (Str × V) := putF "standing" (.ref sd) (putF "gates" (.ref gl) (putF "leaves" (.int n) []))
theorem fB_L (n : Int) (gl sd : Addr) : (fB n gl sd).lookup ("leaves" : Str) = some (.int n) := by
  have a : ¬ (("leaves" : Str) = "standing") := by decide +kernel
  have b : ¬ (("leaves" : Str) = "gates") := by decide +kernel
  unfold fB
  rw [lookup_putF, if_neg a, lookup_putF, if_neg b, lookup_putF, if_pos rfl]
theorem fB_G (n : Int) (gl sd : Addr) : (fB n gl sd).lookup ("gates" : Str) = some (.ref gl) := by
  have a : ¬ (("gates" : Str) = "standing") := by decide +kernel
  unfold fB
  rw [lookup_putF, if_neg a, lookup_putF, if_pos rfl]
theorem fB_S (n : Int) (gl sd : Addr) : (fB n gl sd).lookup ("standing" : Str) = some (.ref sd) := by
  unfold fB
  rw [lookup_putF, if_pos rfl]
/-- a builder stands at b, its gates at gl, its table at sd -/
def BAt (K : PySem.W.Frag) (B : Addr) (H : Hp) (b gl sd : Addr) (n : Int) (gs : List (Int × Int)) : Prop :=
  ∃ dx ws kvs, H b = some (.ins B dx (fB n gl sd)) ∧ H gl = some (.lst ws) ∧ All2 (Pt K H) ws gs ∧ H sd = some (.dT kvs) ∧ StandM n gs kvs
/-- all but two objects stand as they stood -/
def But2 (p q : Addr) (H H' : Hp) : Prop := ∀ b o, H b = some o → b ≠ p → b ≠ q → H' b = some o
abbrev sAnd : Stmt := inClass cBuild 2
def spAnd (K : PySem.W.Frag) (B : Addr) : Sp := fun vs H Q _ => ∃ (b gl sd : Addr) (n x y : Int) (gs : List (Int × Int)), vs = [.ref b, .int x, .int y] ∧ BAt K B H b gl sd n gs ∧ gs.length ≤ 5000 ∧ 0 ≤ x ∧ 0 ≤ y ∧
  ∀ H', But2 gl sd H H' → Firm H H' → BAt K B H' b gl sd n (andM n gs x y).1 → Q (.int (andM n gs x y).2) H'
section
variable {P : Program} {w : World} {K : PySem.W.Frag} {mg : Str → Option Value} {base : Heap} {f B : Addr} {fd : FuncData}
theorem scAnd : FnScope ["self", "one", "other", "pair"] ["self", "one", "other"] (defScope sAnd) := ⟨rfl, rfl, rfl, by decide +kernel, rfl, by decide +kernel, by decide +kernel⟩
abbrev FnA (K : PySem.W.Frag) (f : Addr) (fd : FuncData) : Prop := FunD K "and_of" "Builder.and_of" (defArgs sAnd) (defBody sAnd) (defScope sAnd) [] [] f fd
theorem ok_and (F : FnA K f fd) (T : Tx K mg B) : FnOk P w K mg base CX0 1 f fd ["self", "one", "other"] (spAnd K B) := by
  refine F.ok scAnd (fun vs H Q E h => ?_) (fun cdv A outer s H vs Q E hr h => ?_)
  · obtain ⟨b, gl, sd, n, x, y, gs, rfl, _⟩ := h
    rfl
  · obtain ⟨b, gl, sd, n, x, y, gs, rfl, hB, hz, x0, y0, q⟩ := h
    have hu := hu_of hr
    refine ⟨_, PSs.nox (pss_cons (ps_if (PW.pt (pw_or (pt_cmpR op_eq (pv 1) pe_int (nomark _)) (pw_or (pt_cmpR op_eq (pv 2) pe_int (nomark _)) (pw_or1 (pt_cmpR op_eq (pv 1) (pe_op op_xor (pv 2) pe_int) (nomark _)))))) (pss_one (ps_ret pe_int)) pss_nil)
      (pss_cons (ps_if (pt_cmpR op_eq (pv 1) pe_int (nomark _)) (pss_one (ps_ret (pv 2))) pss_nil)
      (pss_cons (ps_if (PW.pt (pw_or (pt_cmpR op_eq (pv 2) pe_int (nomark _)) (pw_or1 (pt_cmpR op_eq (pv 1) (pv 2) (nomark _))))) (pss_one (ps_ret (pv 1))) pss_nil)
      (C8.pss_cut (ps_set (i := 3) scAnd.nd rfl (Or.inl rfl) (pe_ifExp (pt_cmpR op_gt (pv 1) (pv 2) (nomark _)) (pe_tup (pa_cons (pv 1) (pa_cons (pv 2) pa_nil))) (pe_tup (pa_cons (pv 2) (pa_cons (pv 1) pa_nil)))))
      (C8.pss_cut (ps_if (pt_cmp (pc_dnotin hu (pv 3) (pe_fld (pv 0) rfl)))
        (pss_cons (ps_expr (pe_bm PySem.F.plainAttrs_list PySem.F.slot_list_append PySem.F.type_list_append mt_append (pe_fld (pv 0) rfl) (pa_cons (pv 3) pa_nil)))
        (pss_one (ps_dput hu (pe_fld (pv 0) rfl) (pv 3) (pe_op op_mul pe_int (pe_op op_add (pe_fld (pv 0) rfl) (pe_callB call_len_seq (by rfl) T.ki.len PySem.boot_len (pa_cons (pe_fld (pv 0) rfl) pa_nil)))) rfl))) pss_nil)
      (pss_one (ps_ret (pe_dget hu (pe_fld (pv 0) rfl) (pv 3) (fun _ _ => rfl))))))))), ?_⟩
    obtain ⟨dx, ws, kvs, hb, hg, ha, hs, hS⟩ := id hB
    have done : ∀ {r : Int}, andM n gs x y = (gs, r) → Q (.int r) H := fun {r} e => by
      have z := q H (fun _ _ e _ _ => e) (Firm.refl H)
      rw [e] at z
      exact z hB
    have di : ∀ {a b : Int}, decide (V.int a = V.int b) = true → a = b := fun h => V.int.inj (of_decide_eq_true h)
    have dn : ∀ {a b : Int}, ¬ decide (V.int a = V.int b) = true → ¬ a = b := fun h e => h (decide_eq_true (congrArg V.int e))
    refine ⟨_, rfl, rfl, _, rfl, ?_⟩
    refine ite2 (fun c1 => ?_) (fun c1 => ?_)
    · exact iteT (done (if_pos (.inl (di c1))))
    refine ⟨_, rfl, rfl, _, rfl, ?_⟩
    refine ite2 (fun c2 => ?_) (fun c2 => ?_)
    · exact iteT (done (if_pos (.inr (.inl (di c2)))))
    refine ⟨_, rfl, _, rfl, _, _, rfl, rfl, rfl, _, rfl, ?_⟩
    have ex := xor_one y0
    refine ite2 (fun c3 => ?_) (fun c3 => ?_)
    · exact done (if_pos (.inr (.inr ((di c3).trans ex))))
    have n1 : ¬ (x = 0 ∨ y = 0 ∨ x = flp y) := fun h => h.elim (dn c1) fun h => h.elim (dn c2) fun h => dn c3 (h.trans ex.symm)
    refine ⟨_, rfl, rfl, _, rfl, ?_⟩
    refine ite2 (fun c4 => ?_) (fun c4 => ?_)
    · exact ⟨_, rfl, done ((if_neg n1).trans (if_pos (di c4)))⟩
    have n4 := dn c4
    refine ⟨_, rfl, rfl, _, rfl, ?_⟩
    refine ite2 (fun c5 => ?_) (fun c5 => ?_)
    · exact iteT ⟨_, rfl, done ((if_neg n1).trans ((if_neg n4).trans (if_pos (.inl (di c5)))))⟩
    refine ⟨_, rfl, _, rfl, rfl, _, rfl, ?_⟩
    refine ite2 (fun c6 => ?_) (fun c6 => ?_)
    · exact ⟨_, rfl, done ((if_neg n1).trans ((if_neg n4).trans (if_pos (.inr (di c6)))))⟩
    have n5 : ¬ (y = 1 ∨ x = y) := fun h => h.elim (dn c5) (dn c6)
    have eA : andM n gs x y = gated n gs (ordP x y) := (if_neg n1).trans ((if_neg n4).trans (if_neg n5))
    rw [eA] at q
    -- the pair
    generalize ep : ordP x y = pr at q
    refine ⟨fun σ H1 => ∃ t, σ = [some (.ref b), some (.int x), some (.int y), some (.ref t)] ∧ Same H H1 ∧ H1 t = some (.tup [.int pr.1, .int pr.2]), ?_, ?_⟩
    · refine ⟨_, rfl, _, rfl, _, _, rfl, rfl, _, rfl, ?_⟩
      refine ite2 (fun c7 => ?_) (fun c7 => ?_)
      · have e : pr = (x, y) := by
          rw [← ep]
          exact if_pos (of_decide_eq_true c7)
        refine ⟨_, rfl, _, rfl, (by show 2 ≤ sizeLine; decide), fun t nt => ⟨t, rfl, same_new nt, ?_⟩⟩
        rw [e]
        exact upd_same
      · have e : pr = (y, x) := by
          rw [← ep]
          exact if_neg fun z => c7 (decide_eq_true z)
        refine ⟨_, rfl, _, rfl, (by show 2 ≤ sizeLine; decide), fun t nt => ⟨t, rfl, same_new nt, ?_⟩⟩
        rw [e]
        exact upd_same
    rintro σ H1 ⟨t, rfl, s1, ht⟩
    have hb1 := s1 _ _ hb
    have hg1 := s1 _ _ hg
    have hs1 := s1 _ _ hs
    have ha1 := ha.imp fun _ _ h => h.firm (Firm.of s1)
    have kt : H1 t = some (.tup ((kP pr).map kV)) := ht
    have ngs : gl ≠ sd := fun e => by
      rw [e, hs] at hg
      cases hg
    have ntg : t ≠ gl := fun e => by
      rw [e, hg1] at ht
      cases ht
    have nts : t ≠ sd := fun e => by
      rw [e, hs1] at ht
      cases ht
    have nbg : b ≠ gl := fun e => by
      rw [e, hg1] at hb1
      cases hb1
    have nbs : b ≠ sd := fun e => by
      rw [e, hs1] at hb1
      cases hb1
    refine ⟨fun σ H2 => σ = [some (.ref b), some (.int x), some (.int y), some (.ref t)] ∧ But2 gl sd H H2 ∧ Firm H H2 ∧ BAt K B H2 b gl sd n (gated n gs pr).1 ∧ H2 t = some (.tup ((kP pr).map kV)), ?_, ?_⟩
    · refine ⟨_, rfl, _, rfl, b, B, dx, _, _, rfl, hb1, T.cl, T.nS, fB_S _ _ _, sd, _, rfl, DGet.t (k := kP pr) hs1 kt, _, rfl, ?_⟩
      by_cases m : pr ∈ gs
      · have e : (valV kvs (kP pr)).isSome = true := by
          rw [hS.2 pr, if_pos m]
          rfl
        rw [e]
        refine iteF ⟨rfl, fun _ _ e _ _ => s1 _ _ e, Firm.of s1, ?_, kt⟩
        have eg : (gated n gs pr).1 = gs := by
          unfold gated
          rw [if_pos m]
        rw [eg]
        exact ⟨dx, ws, kvs, hb1, hg1, ha1, hs1, hS⟩
      · have e : (valV kvs (kP pr)).isSome = false := by
          rw [hS.2 pr, if_neg m]
          rfl
        rw [e]
        refine iteT ?_
        have wl := ha.len
        refine ⟨_, rfl, b, B, dx, _, _, rfl, hb1, T.cl, T.nG, fB_G _ _ _, .inl ⟨rfl, _, SqL.of hg1⟩, _, rfl, gl, _, _, rfl, rfl, hg1, ?_, ?_⟩
        · rw [wl]
          exact Nat.lt_of_le_of_lt hz (by decide)
        have fg := Firm.upd (o := .lst (ws ++ [V.ref t])) hg1 rfl
        have hb2 : (upd H1 gl (.lst (ws ++ [V.ref t]))) b = some (.ins B dx (fB n gl sd)) := by
          rw [upd_ne nbg]
          exact hb1
        have hs2 : (upd H1 gl (.lst (ws ++ [V.ref t]))) sd = some (.dT kvs) := by
          rw [upd_ne ngs.symm]
          exact hs1
        have kt2 : (upd H1 gl (.lst (ws ++ [V.ref t]))) t = some (.tup ((kP pr).map kV)) := by
          rw [upd_ne ntg]
          exact kt
        have hg2 := upd_same (H := H1) (a := gl) (o := .lst (ws ++ [V.ref t]))
        have a2 : All2 (Pt K (upd H1 gl (.lst (ws ++ [V.ref t])))) (ws ++ [V.ref t]) (gs ++ [pr]) := (ha1.imp fun _ _ h => h.firm fg).snoc ⟨t, rfl, SqT.of kt2⟩
        have o2 : ∀ a o, H1 a = some o → a ≠ gl → (upd H1 gl (.lst (ws ++ [V.ref t]))) a = some o := fun a o e ne => by
          rw [upd_ne ne]
          exact e
        generalize upd H1 gl (.lst (ws ++ [V.ref t])) = H2 at fg hb2 hs2 kt2 hg2 a2 o2 ⊢
        refine ⟨_, rfl, b, B, dx, _, _, rfl, hb2, T.cl, T.nL, fB_L _ _ _, _, rfl, b, B, dx, _, _, rfl, hb2, T.cl, T.nG, fB_G _ _ _, gl, _, rfl, .inl (SqL.of hg2), _, _, rfl, rfl, _, _, rfl, rfl, .inl ⟨by decide, by decide⟩, ?_⟩
        have el : (2 * (n + (((ws ++ [V.ref t]).length : Nat) : Int))) = 2 * (n + gs.length + 1) := by
          rw [List.length_append, wl]
          show 2 * (n + ((gs.length + 1 : Nat) : Int)) = _
          omega
        refine ⟨_, rfl, b, B, dx, _, _, rfl, hb2, T.cl, T.nS, fB_S _ _ _, _, rfl, sd, _, rfl, DPut.t (k := kP pr) hs2 kt2 (by rw [hS.1]; exact Nat.lt_of_le_of_lt hz (by decide)), ?_⟩
        show _ ∧ _
        have fs := Firm.upd (o := .dT (putK kvs (kP pr) (.int (2 * (n + (((ws ++ [V.ref t]).length : Nat) : Int)))))) hs2 rfl
        refine ⟨rfl, fun a o e ne1 ne2 => ?_, (Firm.of s1).trans (fg.trans fs), ?_, ?_⟩
        · rw [upd_ne ne2]
          exact o2 _ _ (s1 _ _ e) ne1
        · have eg : (gated n gs pr).1 = gs ++ [pr] := by
            unfold gated
            rw [if_neg m]
          rw [eg]
          refine ⟨dx, _, _, ?_, ?_, a2.imp fun _ _ h => h.firm fs, upd_same, ?_⟩
          · rw [upd_ne nbs]
            exact hb2
          · rw [upd_ne ngs]
            exact hg2
          · show StandM n (gs ++ [pr]) (putK kvs (kP pr) (.int (2 * (n + (((ws ++ [V.ref t]).length : Nat) : Int)))))
            rw [el]
            exact hS.put m
        · rw [upd_ne nts]
          exact kt2
    · rintro σ H2 ⟨rfl, k2, f2, hB2, kt2⟩
      obtain ⟨dx2, ws2, kvs2, hb2, hg2, ha2, hs2, hS2⟩ := id hB2
      have ev : valV kvs2 (kP pr) = some (.int (gated n gs pr).2) := by
        rw [hS2.2 pr]
        unfold gated
        by_cases m : pr ∈ gs
        · rw [if_pos m, if_pos m]
        · rw [if_neg m, if_pos (List.mem_append_right _ List.mem_cons_self)]
          show some (V.int (2 * (n + ix pr (gs ++ [pr]) + 1))) = _
          rw [ix_new m]
      refine ⟨_, rfl, b, B, dx2, _, _, rfl, hb2, T.cl, T.nS, fB_S _ _ _, _, rfl, sd, _, rfl, ev ▸ DGet.t (k := kP pr) hs2 kt2, q H2 k2 f2 hB2⟩
end
end Bd
namespace Be
open PySem PySem.Spec PyProof.Rows L2 Pen Dat Ki Fi Gr Bd
/-! ## What is built of and_of -/
def orM (n : Int) (gs : List (Int × Int)) (a b : Int) : List (Int × Int) × Int := ((andM n gs (flp a) (flp b)).1, flp (andM n gs (flp a) (flp b)).2)
def xorM (n : Int) (gs : List (Int × Int)) (a b : Int) : List (Int × Int) × Int :=
  andM n (andM n (andM n gs a b).1 (flp a) (flp b)).1 (flp (andM n gs a b).2) (flp (andM n (andM n gs a b).1 (flp a) (flp b)).2)
def choiceM (n : Int) (gs : List (Int × Int)) (c a b : Int) : List (Int × Int) × Int :=
  orM n (andM n (andM n gs c a).1 (flp c) b).1 (andM n gs c a).2 (andM n (andM n gs c a).1 (flp c) b).2
theorem flp_nn {l : Int} (h : 0 ≤ l) : 0 ≤ flp l := by
  unfold flp
  omega
theorem andM_len (n : Int) (gs : List (Int × Int)) (a b : Int) : (andM n gs a b).1.length ≤ gs.length + 1 := by
  unfold Bd.andM gated
  split
  · exact Nat.le_succ _
  split
  · exact Nat.le_succ _
  split
  · exact Nat.le_succ _
  split
  · exact Nat.le_succ _
  · rw [List.length_append]
    exact Nat.le_refl _
theorem andM_nn {n : Int} (gs : List (Int × Int)) {a b : Int} (n0 : 0 ≤ n) (a0 : 0 ≤ a) (b0 : 0 ≤ b) : 0 ≤ (andM n gs a b).2 := by
  unfold Bd.andM gated
  split
  · exact Int.le_refl _
  split
  · exact b0
  split
  · exact a0
  split
  · show 0 ≤ 2 * (n + (ix (ordP a b) gs : Int) + 1)
    omega
  · show 0 ≤ 2 * (n + (gs.length : Int) + 1)
    omega
theorem But2.trans {p q : Addr} {H H1 H2 : Hp} (a : But2 p q H H1) (b : But2 p q H1 H2) : But2 p q H H2 := fun c o e h k => b c o (a c o e h k) h k
structure Ty (K : PySem.W.Frag) (mg : Str → Option Value) (B : Addr) (fA : Addr) : Prop where
  t : Bd.Tx K mg B
  me : Meth K B "and_of" fA
def sp2 (K : PySem.W.Frag) (B : Addr) (g : Int → List (Int × Int) → Int → Int → List (Int × Int) × Int) : Sp := fun vs H Q _ => ∃ (b gl sd : Addr) (n x y : Int) (gs : List (Int × Int)), vs = [.ref b, .int x, .int y] ∧ BAt K B H b gl sd n gs ∧ gs.length ≤ 4000 ∧ 0 ≤ n ∧ 0 ≤ x ∧ 0 ≤ y ∧
  ∀ H', But2 gl sd H H' → Firm H H' → BAt K B H' b gl sd n (g n gs x y).1 → Q (.int (g n gs x y).2) H'
def sp3 (K : PySem.W.Frag) (B : Addr) : Sp := fun vs H Q _ => ∃ (b gl sd : Addr) (n z x y : Int) (gs : List (Int × Int)), vs = [.ref b, .int z, .int x, .int y] ∧ BAt K B H b gl sd n gs ∧ gs.length ≤ 3900 ∧ 0 ≤ n ∧ 0 ≤ z ∧ 0 ≤ x ∧ 0 ≤ y ∧
  ∀ H', But2 gl sd H H' → Firm H H' → BAt K B H' b gl sd n (choiceM n gs z x y).1 → Q (.int (choiceM n gs z x y).2) H'
section
variable {P : Program} {w : World} {K : PySem.W.Frag} {mg : Str → Option Value} {base : Heap} {f B fA : Addr} {fd dA : FuncData}
theorem lk (n : Int) (gl sd : Addr) : (fB n gl sd).lookup ("and_of" : Str) = none := by
  have a : ¬ (("and_of" : Str) = "standing") := by decide +kernel
  have b : ¬ (("and_of" : Str) = "gates") := by decide +kernel
  have c : ¬ (("and_of" : Str) = "leaves") := by decide +kernel
  unfold fB
  rw [lookup_putF, if_neg a, lookup_putF, if_neg b, lookup_putF, if_neg c]
  rfl
theorem scOr : FnScope ["builder", "one", "other"] ["builder", "one", "other"] (defScope sOr) := ⟨rfl, rfl, rfl, by decide +kernel, rfl, by decide +kernel, by decide +kernel⟩
theorem scXorB : FnScope ["builder", "one", "other", "both", "none"] ["builder", "one", "other"] (defScope sXorB) := ⟨rfl, rfl, rfl, by decide +kernel, rfl, by decide +kernel, by decide +kernel⟩
theorem scChoice : FnScope ["builder", "c", "one", "other"] ["builder", "c", "one", "other"] (defScope sChoice) := ⟨rfl, rfl, rfl, by decide +kernel, rfl, by decide +kernel, by decide +kernel⟩
theorem ok_or (F : FnP K "or_of" sOr f fd) (T : Ty K mg B fA) (GA : FnOk P w K mg base CX0 1 fA dA ["self", "one", "other"] (spAnd K B)) (bA : Binds K dA ["self", "one", "other"] []) : FnOk P w K mg base CX0 2 f fd ["builder", "one", "other"] (sp2 K B orM) := by
  refine F.ok scOr (fun vs H Q E h => ?_) (fun cdv A outer s H vs Q E hr h => ?_)
  · obtain ⟨b, gl, sd, n, x, y, gs, rfl, _⟩ := h
    rfl
  · obtain ⟨b, gl, sd, n, x, y, gs, rfl, hB, hz, n0, x0, y0, q⟩ := h
    refine ⟨_, PSs.nox (pss_one (ps_ret (pe_op op_xor (pe_meth (pv 0) T.t.cl T.me GA hr bA .nil pass0 (pa_cons (pe_op op_xor (pv 1) pe_int) (pa_cons (pe_op op_xor (pv 2) pe_int) pa_nil))) pe_int))), ?_⟩
    obtain ⟨dx, ws, kvs, hb, _⟩ := id hB
    refine ⟨_, rfl, b, dx, _, rfl, hb, lk _ _ _, _, rfl, _, _, rfl, rfl, _, rfl, _, _, rfl, rfl, b, gl, sd, n, flp x, flp y, gs, ?_, hB, by omega, flp_nn x0, flp_nn y0, fun H' k f' hB' => ?_⟩
    · rw [← xor_one x0, ← xor_one y0]
      rfl
    · refine ⟨_, _, rfl, rfl, ?_⟩
      have z := q H' k f' hB'
      have e : Builtin.bitXor (andM n gs (flp x) (flp y)).2 1 = (orM n gs x y).2 := xor_one (andM_nn gs n0 (flp_nn x0) (flp_nn y0))
      show Q (V.int (Builtin.bitXor (andM n gs (flp x) (flp y)).2 1)) H'
      rw [e]
      exact z
theorem ok_xorB (F : FnP K "xor_of" sXorB f fd) (T : Ty K mg B fA) (GA : FnOk P w K mg base CX0 1 fA dA ["self", "one", "other"] (spAnd K B)) (bA : Binds K dA ["self", "one", "other"] []) : FnOk P w K mg base CX0 2 f fd ["builder", "one", "other"] (sp2 K B xorM) := by
  refine F.ok scXorB (fun vs H Q E h => ?_) (fun cdv A outer s H vs Q E hr h => ?_)
  · obtain ⟨b, gl, sd, n, x, y, gs, rfl, _⟩ := h
    rfl
  · obtain ⟨b, gl, sd, n, x, y, gs, rfl, hB, hz, n0, x0, y0, q⟩ := h
    refine ⟨_, PSs.nox (pss_cons (ps_set (i := 3) scXorB.nd rfl (Or.inl rfl) (pe_meth (pv 0) T.t.cl T.me GA hr bA .nil pass0 (pa_cons (pv 1) (pa_cons (pv 2) pa_nil))))
      (pss_cons (ps_set (i := 4) scXorB.nd rfl (Or.inl rfl) (pe_meth (pv 0) T.t.cl T.me GA hr bA .nil pass0 (pa_cons (pe_op op_xor (pv 1) pe_int) (pa_cons (pe_op op_xor (pv 2) pe_int) pa_nil))))
      (pss_one (ps_ret (pe_meth (pv 0) T.t.cl T.me GA hr bA .nil pass0 (pa_cons (pe_op op_xor (pv 3) pe_int) (pa_cons (pe_op op_xor (pv 4) pe_int) pa_nil))))))), ?_⟩
    obtain ⟨dx, ws, kvs, hb, _⟩ := id hB
    have l1 := andM_len n gs x y
    have a0 := andM_nn gs n0 x0 y0
    refine ⟨_, rfl, b, dx, _, rfl, hb, lk _ _ _, _, rfl, _, rfl, b, gl, sd, n, x, y, gs, rfl, hB, by omega, x0, y0, fun H1 k1 f1 B1 => ?_⟩
    obtain ⟨dx1, ws1, kvs1, hb1, _⟩ := id B1
    have l2 := andM_len n (Bd.andM n gs x y).1 (flp x) (flp y)
    have c0 := andM_nn (Bd.andM n gs x y).1 n0 (flp_nn x0) (flp_nn y0)
    refine ⟨_, rfl, b, dx1, _, rfl, hb1, lk _ _ _, _, rfl, _, _, rfl, rfl, _, rfl, _, _, rfl, rfl, b, gl, sd, n, flp x, flp y, _, ?_, B1, by omega, flp_nn x0, flp_nn y0, fun H2 k2 f2 B2 => ?_⟩
    · rw [← xor_one x0, ← xor_one y0]
      rfl
    obtain ⟨dx2, ws2, kvs2, hb2, _⟩ := id B2
    refine ⟨_, rfl, b, dx2, _, rfl, hb2, lk _ _ _, _, rfl, _, _, rfl, rfl, _, rfl, _, _, rfl, rfl, b, gl, sd, n, flp (Bd.andM n gs x y).2, flp (Bd.andM n (Bd.andM n gs x y).1 (flp x) (flp y)).2, _, ?_, B2, by omega, flp_nn a0, flp_nn c0, fun H3 k3 f3 B3 => ?_⟩
    · rw [← xor_one a0, ← xor_one c0]
      rfl
    exact q H3 (But2.trans k1 (But2.trans k2 k3)) (f1.trans (f2.trans f3)) B3
theorem ok_choice {fO : Addr} {dO : FuncData} (F : FnP K "choice_of" sChoice f fd) (T : Ty K mg B fA) (GA : FnOk P w K mg base CX0 1 fA dA ["self", "one", "other"] (spAnd K B)) (bA : Binds K dA ["self", "one", "other"] []) (FO : FnP K "or_of" sOr fO dO) (gO : mg "or_of" = some (.ref fO)) :
    FnOk P w K mg base CX0 3 f fd ["builder", "c", "one", "other"] (sp3 K B) := by
  have GO : FnOk P w K mg base CX0 2 fO dO ["builder", "one", "other"] (sp2 K B orM) := ok_or FO T GA bA
  have bO : Binds K dO ["builder", "one", "other"] [] := FO.bindsN fun _ _ _ _ _ _ us hl => match us, hl with | [_, _, _], _ => rfl
  refine F.ok scChoice (fun vs H Q E h => ?_) (fun cdv A outer s H vs Q E hr h => ?_)
  · obtain ⟨b, gl, sd, n, z, x, y, gs, rfl, _⟩ := h
    rfl
  · obtain ⟨b, gl, sd, n, z, x, y, gs, rfl, hB, hz, n0, z0, x0, y0, q⟩ := h
    have hr1 := hr.mono (j := 1) (by decide)
    refine ⟨_, PSs.nox (pss_one (ps_ret (pe_call GO hr (by rfl) gO FO.kp bO .nil pass0 (pa_cons (pv 0) (pa_cons (pe_meth (pv 0) T.t.cl T.me GA hr1 bA .nil pass0 (pa_cons (pv 1) (pa_cons (pv 2) pa_nil)))
      (pa_cons (pe_meth (pv 0) T.t.cl T.me GA hr1 bA .nil pass0 (pa_cons (pe_op op_xor (pv 1) pe_int) (pa_cons (pv 3) pa_nil))) pa_nil)))))), ?_⟩
    obtain ⟨dx, ws, kvs, hb, _⟩ := id hB
    have l1 := andM_len n gs z x
    have a0 := andM_nn gs n0 z0 x0
    refine ⟨_, rfl, _, rfl, b, dx, _, rfl, hb, lk _ _ _, _, rfl, _, rfl, b, gl, sd, n, z, x, gs, rfl, hB, by omega, z0, x0, fun H1 k1 f1 B1 => ?_⟩
    obtain ⟨dx1, ws1, kvs1, hb1, _⟩ := id B1
    have l2 := andM_len n (Bd.andM n gs z x).1 (flp z) y
    have c0 := andM_nn (Bd.andM n gs z x).1 n0 (flp_nn z0) y0
    refine ⟨_, rfl, b, dx1, _, rfl, hb1, lk _ _ _, _, rfl, _, _, rfl, rfl, _, rfl, b, gl, sd, n, flp z, y, _, ?_, B1, by omega, flp_nn z0, y0, fun H2 k2 f2 B2 => ?_⟩
    · rw [← xor_one z0]
      rfl
    exact ⟨b, gl, sd, n, _, _, _, rfl, B2, by omega, n0, a0, c0, fun H3 k3 f3 B3 => q H3 (But2.trans k1 (But2.trans k2 k3)) (f1.trans (f2.trans f3)) B3⟩
end
end Be
namespace Bf
open PySem PySem.Spec PyProof.Rows L2 Pen Dat Ki Fi Gr No Bd Be
def ledL (xs : List Int) (a : Int) : Int := if a % 2 = 1 then flp (xs.getD (a / 2).toNat 0) else xs.getD (a / 2).toNat 0
theorem xor_nil {l : Int} (h : 0 ≤ l) : Builtin.bitXor l 0 = l := by
  obtain ⟨n, rfl⟩ := Int.eq_ofNat_of_zero_le h
  rw [Bits.bitXor_pp h (by decide)]
  show ((n ^^^ 0 : Nat) : Int) = n
  rw [Nat.xor_zero]
abbrev sBInit : Stmt := inClass cBuild 0
abbrev sBGraph : Stmt := inClass cBuild 1
def spBInit (K : PySem.W.Frag) (B : Addr) : Sp := fun vs H Q _ => ∃ (p dx : Addr) (n : Int), vs = [.ref p, .int n] ∧ H p = some (.ins B dx []) ∧ 0 ≤ n ∧ ∀ H' gl sd, (∀ b o, H b = some o → b ≠ p → H' b = some o) → BAt K B H' p gl sd n [] → H gl = none → H sd = none → Q .non H'
def spBGraph (K : PySem.W.Frag) (C B : Addr) : Sp := fun vs H Q _ => ∃ (p gl sd : Addr) (n : Int) (gs : List (Int × Int)), vs = [.ref p] ∧ BAt K B H p gl sd n gs ∧ 0 ≤ n ∧ gs.length ≤ 1000 ∧ okG (2 * n + 1) gs = true ∧ ∀ H' x, Same H H' → GraphAt K C H' x n gs → Q (.ref x) H'
def spLitIn (K : PySem.W.Frag) : Sp := fun vs H Q _ => ∃ (l : Addr) (xs : List Int) (a : Int), vs = [.ref l, .int a] ∧ SqL K H l (xs.map V.int) ∧ 0 ≤ a ∧ (a / 2).toNat < xs.length ∧ (∀ z ∈ xs, 0 ≤ z) ∧ Q (.int (ledL xs a)) H
section
variable {P : Program} {w : World} {K : PySem.W.Frag} {mg : Str → Option Value} {base : Heap} {f B C fA : Addr} {fd dA : FuncData}
theorem scBInit : FnScope ["self", "leaves"] ["self", "leaves"] (defScope sBInit) := ⟨rfl, rfl, rfl, by decide +kernel, rfl, by decide +kernel, by decide +kernel⟩
theorem scBGraph : FnScope ["self"] ["self"] (defScope sBGraph) := ⟨rfl, rfl, rfl, by decide +kernel, rfl, by decide +kernel, by decide +kernel⟩
theorem scLitIn : FnScope ["places", "literal"] ["places", "literal"] (defScope sLitIn) := ⟨rfl, rfl, rfl, by decide +kernel, rfl, by decide +kernel, by decide +kernel⟩
abbrev FnBI (K : PySem.W.Frag) (f : Addr) (fd : FuncData) : Prop := FunD K "__init__" "Builder.__init__" (defArgs sBInit) (defBody sBInit) (defScope sBInit) [] [] f fd
abbrev FnBG (K : PySem.W.Frag) (f : Addr) (fd : FuncData) : Prop := FunD K "graph" "Builder.graph" (defArgs sBGraph) (defBody sBGraph) (defScope sBGraph) [] [] f fd
theorem ok_litin (F : FnP K "literal_in" sLitIn f fd) : FnOk P w K mg base CX0 1 f fd ["places", "literal"] (spLitIn K) := by
  refine F.ok scLitIn (fun vs H Q E h => ?_) (fun cdv A outer s H vs Q E hr h => ?_)
  · obtain ⟨l, xs, a, rfl, _⟩ := h
    rfl
  · obtain ⟨l, xs, a, rfl, hl, a0, a1, x0, q⟩ := h
    refine ⟨_, PSs.nox (pss_one (ps_ret (pe_op op_xor (pe_ix ix_list (pv 0) (pe_op op_shr (pv 1) pe_int) (fun _ _ => rfl)) (pe_op op_and (pv 1) pe_int)))), ?_⟩
    have e : a / 2 ^ (1 : Int).toNat = (((a / 2).toNat : Nat) : Int) := by
      show a / 2 = _
      omega
    have g0 : 0 ≤ xs.getD (a / 2).toNat 0 := by
      rw [List.getD_eq_getElem?_getD, List.getElem?_eq_getElem a1]
      exact x0 _ (List.getElem_mem a1)
    refine ⟨_, rfl, _, rfl, _, _, rfl, rfl, (by show (0 : Int) ≤ 1; decide), l, _, _, _, rfl, rfl, hl, at_of e (getD_of a1), _, rfl, _, _, rfl, rfl, _, _, rfl, rfl, ?_⟩
    have z : Builtin.bitXor (xs.getD (a / 2).toNat 0) (Builtin.bitAnd a 1) = ledL xs a := by
      rw [bitAnd_m1]
      unfold ledL
      by_cases c : a % 2 = 1
      · rw [if_pos c, c, xor_one g0]
      · rw [if_neg c, show a % 2 = 0 by omega, xor_nil g0]
    show Q (V.int (Builtin.bitXor (xs.getD (a / 2).toNat 0) (Builtin.bitAnd a 1))) H
    rw [z]
    exact q
theorem ok_bgraph {fI : Addr} {dI : FuncData} (F : FnBG K f fd) (T : Bd.Tx K mg B) (G : Gr.Tx K mg C) (MG : Mk K C fI) (GI : FnOk P w K mg base CX0 4 fI dI ["self", "leaves", "gates"] (spInit K C)) (bI : Binds K dI ["self", "leaves", "gates"] []) : FnOk P w K mg base CX0 6 f fd ["self"] (spBGraph K C B) := by
  refine F.ok scBGraph (fun vs H Q E h => ?_) (fun cdv A outer s H vs Q E hr h => ?_)
  · obtain ⟨p, gl, sd, n, gs, rfl, _⟩ := h
    rfl
  · obtain ⟨p, gl, sd, n, gs, rfl, hB, n0, hz, hok, q⟩ := h
    refine ⟨_, PSs.nox (pss_one (ps_ret (pe_make MG GI (hr.mono (by decide)) (by rfl) G.mgC bI .nil pass0 (pa_cons (pe_fld (pv 0) rfl) (pa_cons (pe_fld (pv 0) rfl) pa_nil))))), ?_⟩
    obtain ⟨dx, ws, kvs, hb, hg, ha, hs, hS⟩ := hB
    refine ⟨_, rfl, p, B, dx, _, _, rfl, hb, T.cl, T.nL, fB_L _ _ _, _, rfl, p, B, dx, _, _, rfl, hb, T.cl, T.nG, fB_G _ _ _, fun x dy nx nd _ => ?_⟩
    have s1 : Same H (upd (upd H dy (.own x)) x (.ins C dy [])) := fun b o e => by
      rw [upd_ne (ne_of_none e nx), upd_ne (ne_of_none e nd)]
      exact e
    exact ⟨x, dy, n, .ref gl, gs, rfl, upd_same, n0, ⟨gl, ws, rfl, .inl (SqL.of (s1 _ _ hg)), ha.imp fun _ _ h => (h.firm (Firm.of s1)).pr⟩, hz, hok, fun H2 k2 g2 => ⟨rfl, q H2 x (Same.made nx nd k2) g2⟩⟩
theorem ok_binit {fN : Addr} {dN : FuncData} (F : FnBI K f fd) (T : Bd.Tx K mg B) (GN : FnOk P w K mg base CX0 2 fN dN ["leaves"] spNeed) (gN : mg "need_leaves" = some (.ref fN)) (kN : PySem.W.keepIn K (.ref fN) = true) (bN : Binds K dN ["leaves"] []) : FnOk P w K mg base CX0 3 f fd ["self", "leaves"] (spBInit K B) := by
  refine F.ok scBInit (fun vs H Q E h => ?_) (fun cdv A outer s H vs Q E hr h => ?_)
  · obtain ⟨p, dx, n, rfl, _⟩ := h
    rfl
  · obtain ⟨p, dx, n, rfl, hp, n0, q⟩ := h
    refine ⟨_, PSs.nox (pss_cons (ps_expr (pe_call GN hr (by rfl) gN kN bN .nil pass0 (pa_cons (pv 1) pa_nil)))
      (pss_cons (ps_fld (pv 0) (pv 1) rfl) (pss_cons (ps_fld (pv 0) (pe_lst pa_nil) rfl) (pss_one (ps_fld (pv 0) pe_dnewT rfl))))), ?_⟩
    refine ⟨_, rfl, n, rfl, n0, ?_⟩
    refine ⟨_, rfl, _, rfl, p, B, dx, _, rfl, hp, T.cl, T.nL, (by show 0 < 1000; decide), ?_⟩
    refine ⟨(by show 0 ≤ sizeLine; decide), fun gl ngl => ?_⟩
    have npg : gl ≠ p := fun e => by
      rw [e, upd_same] at ngl
      cases ngl
    refine ⟨_, rfl, p, B, dx, _, rfl, (by rw [upd_ne npg.symm, upd_same]), T.cl, T.nG, (by show 1 < 1000; decide), ?_⟩
    intro sd nsd
    have nps : sd ≠ p := fun e => by
      rw [e, upd_same] at nsd
      cases nsd
    have ngs : gl ≠ sd := fun e => by
      rw [← e, upd_ne npg, upd_same] at nsd
      cases nsd
    refine ⟨_, rfl, p, B, dx, _, rfl, (by rw [upd_ne nps.symm, upd_same]), T.cl, T.nS, (by show 2 < 1000; decide), ?_⟩
    have hgl : H gl = none := by
      rw [upd_ne npg] at ngl
      exact ngl
    have hsd : H sd = none := by
      rw [upd_ne nps, upd_ne ngs.symm, upd_ne nps] at nsd
      exact nsd
    refine q _ gl sd (fun b o e ne => ?_) ⟨dx, [], [], upd_same, ?_, .nil, ?_, rfl, fun _ => rfl⟩ hgl hsd
    · rw [upd_ne ne, upd_ne (fun z => by rw [z, hsd] at e; cases e), upd_ne ne, upd_ne (fun z => by rw [z, hgl] at e; cases e), upd_ne ne]
      exact e
    · rw [upd_ne npg, upd_ne ngs, upd_ne npg, upd_same]
    · rw [upd_ne nps, upd_same]
end
end Bf
namespace Bg
open PySem PySem.Spec PyProof.Rows L2 Pen Dat Ki Fi Gr No Bd Be Bf
/-! ## A graph put into a builder -/
def putStep (n : Int) (s : List (Int × Int) × List Int) (p : Int × Int) : List (Int × Int) × List Int :=
  ((Bd.andM n s.1 (ledL s.2 p.1) (ledL s.2 p.2)).1, s.2 ++ [(Bd.andM n s.1 (ledL s.2 p.1) (ledL s.2 p.2)).2])
def putM (n : Int) (gs : List (Int × Int)) (ls : List Int) (hs : List (Int × Int)) : List (Int × Int) × List Int := hs.foldl (putStep n) (gs, 0 :: ls)
theorem ledL_nn {xs : List Int} (h : ∀ z ∈ xs, 0 ≤ z) (a : Int) : 0 ≤ ledL xs a := by
  have g0 : 0 ≤ xs.getD (a / 2).toNat 0 := by
    rw [List.getD_eq_getElem?_getD]
    cases e : xs[(a / 2).toNat]? with
    | none => exact Int.le_refl _
    | some u => exact h _ (List.mem_of_getElem? e)
  unfold ledL
  split
  · exact flp_nn g0
  · exact g0
def spPut (K : PySem.W.Frag) (C B : Addr) : Sp := fun vs H Q _ => ∃ (b gl sd x t : Addr) (v : V) (n : Int) (m : Nat) (gs hs : List (Int × Int)) (ls as : List Int), vs = [.ref b, .ref x, v, .ref t] ∧ BAt K B H b gl sd n gs ∧ GraphAt K C H x m hs ∧ SeqI K H v ls ∧ SqT K H t (as.map V.int) ∧
  0 ≤ n ∧ ls.length = m ∧ m ≤ 500 ∧ gs.length + hs.length ≤ 3900 ∧ (∀ z ∈ ls, 0 ≤ z) ∧ okG (2 * (m : Int) + 1) hs = true ∧ (∀ a ∈ as, 0 ≤ a ∧ (a / 2).toNat < 1 + m + hs.length) ∧ as.length ≤ 1000 ∧
  ∀ H' t', But2 gl sd H H' → Firm H H' → BAt K B H' b gl sd n (putM n gs ls hs).1 → H' t' = some (.tup ((as.map (ledL (putM n gs ls hs).2)).map V.int)) → Q (.ref t') H'
section
variable {P : Program} {w : World} {K : PySem.W.Frag} {mg : Str → Option Value} {base : Heap} {f B C fA : Addr} {fd dA : FuncData}
abbrev puN : List Str := ["builder", "graph", "leaves", "literals", "places", "one", "other", "literal"]
theorem scPut : FnScope puN ["builder", "graph", "leaves", "literals"] (defScope sPut) := ⟨rfl, rfl, rfl, by decide +kernel, rfl, by decide +kernel, by decide +kernel⟩
theorem BAt.fresh {H : Hp} {b gl sd l : Addr} {n : Int} {gs : List (Int × Int)} {o : HO} (h : BAt K B H b gl sd n gs) (nb : b ≠ l) (n1 : gl ≠ l) (n2 : sd ≠ l) (f : Firm H (upd H l o)) : BAt K B (upd H l o) b gl sd n gs := by
  obtain ⟨dx, ws, kvs, h1, h2, h3, h4, h5⟩ := h
  exact ⟨dx, ws, kvs, by rw [upd_ne nb]; exact h1, by rw [upd_ne n1]; exact h2, h3.imp fun _ _ h => h.firm f, by rw [upd_ne n2]; exact h4, h5⟩
theorem ok_put {fL : Addr} {dL : FuncData} (F : FnP K "put_into" sPut f fd) (T : Ty K mg B fA) (G : Gr.Tx K mg C) (GA : FnOk P w K mg base CX0 1 fA dA ["self", "one", "other"] (spAnd K B)) (bA : Binds K dA ["self", "one", "other"] []) (FL : FnP K "literal_in" sLitIn fL dL) (gL : mg "literal_in" = some (.ref fL)) :
    FnOk P w K mg base CX0 2 f fd ["builder", "graph", "leaves", "literals"] (spPut K C B) := by
  have GL : FnOk P w K mg base CX0 1 fL dL ["places", "literal"] (spLitIn K) := ok_litin FL
  have bL : Binds K dL ["places", "literal"] [] := FL.bindsN fun _ _ _ _ _ _ us hl => match us, hl with | [_, _], _ => rfl
  refine F.ok scPut (fun vs H Q E h => ?_) (fun cdv A outer s H vs Q E hr h => ?_)
  · obtain ⟨b, gl, sd, x, t, v, n, m, gs, hs, ls, as, rfl, _⟩ := h
    rfl
  · obtain ⟨b, gl, sd, x, t, v, n, m, gs, hs, ls, as, rfl, hB, hG, hv, ht, n0, lm, m5, hz, l0, hok, has, asl, q⟩ := h
    refine ⟨_, PSs.nox (pss_cons (ps_set (i := 4) scPut.nd rfl (Or.inr rfl) (pe_lst (pa_cons pe_int (StX.pa_star (pv 2) pa_nil))))
      (pss_cons (ps_for PassesOwn.never rfl (pi_tup (pe_fld (pv 1) rfl)) (pg_tup rfl (pgs_cons (pg_name (i := 5) scPut.nd rfl (Or.inl rfl)) (pgs_cons (pg_name (i := 6) scPut.nd rfl (Or.inl rfl)) pgs_nil)))
        (pss_one (ps_expr (pe_bm PySem.F.plainAttrs_list PySem.F.slot_list_append PySem.F.type_list_append mt_append (pv 4) (pa_cons (pe_meth (pv 0) T.t.cl T.me GA hr bA .nil pass0 (pa_cons
          (pe_call GL hr (by rfl) gL FL.kp bL .nil pass0 (pa_cons (pv 4) (pa_cons (pv 5) pa_nil))) (pa_cons
          (pe_call GL hr (by rfl) gL FL.kp bL .nil pass0 (pa_cons (pv 4) (pa_cons (pv 6) pa_nil))) pa_nil))) pa_nil)))))
      (pss_one (ps_ret (pe_callTy call_tuple_of (by rfl) T.t.ki.tuple (by decide +kernel) (pa_cons
        (pe_lc (own := [("literal", 7)]) (g := gName 7) (tt := tYes) rfl scPut.nd (pi_tup (pv 3)) (blkOk_by (N := puN) (sc := defScope sPut) (by decide +kernel)) (fun _ _ _ _ _ => pg_name (i := 7) scPut.nd rfl (Or.inl rfl)) (fun _ _ _ _ _ => pts_nil)
          (fun _ _ _ _ _ => pe_call GL hr (by rfl) gL FL.kp bL .nil pass0 (pa_cons (pv 4) (pa_cons (pv 7) pa_nil)))) pa_nil)))))), ?_⟩
    obtain ⟨r, rfl, hr2⟩ := hv
    obtain ⟨dg, g, x1, ps, hg, ha⟩ := id hG
    obtain ⟨dx, ws, kvs, hb, hgl, hws, hsd, hS⟩ := id hB
    refine ⟨_, rfl, r, _, rfl, hr2.symm, ?_, fun l nl => ?_⟩
    · show (V.int 0 :: (ls.map V.int ++ [])).length ≤ sizeLine
      rw [List.append_nil, List.length_cons, List.length_map]
      exact Nat.le_trans (Nat.succ_le_succ (by omega : ls.length ≤ 500)) (by decide)
    have sl : Same H (upd H l (.lst (V.int 0 :: (ls.map V.int ++ [])))) := same_new nl
    have nbl : b ≠ l := ne_of_none hb nl
    have ngl : gl ≠ l := ne_of_none hgl nl
    have nsl : sd ≠ l := ne_of_none hsd nl
    have fl0 := Firm.of sl
    refine ⟨_, rfl, x, C, dg, _, _, rfl, sl _ _ x1, G.cl, G.nG, flds_G _ _, g, rfl, ⟨_, seqT_same sl hg⟩, for_tup (K := K) (a := g) (xs := ps)
      (fun i σ H2 => ∃ (u w : Option V), σ = [some (.ref b), some (.ref x), some (.ref r), some (.ref t), some (.ref l), u, w, none] ∧ But2 gl sd H H2 ∧ Firm H H2 ∧ BAt K B H2 b gl sd n (putM n gs ls (hs.take i)).1 ∧
        H2 l = some (.lst ((putM n gs ls (hs.take i)).2.map V.int)) ∧ (putM n gs ls (hs.take i)).2.length = 1 + m + i ∧ (∀ z ∈ (putM n gs ls (hs.take i)).2, 0 ≤ z) ∧ (putM n gs ls (hs.take i)).1.length ≤ gs.length + i)
      ⟨none, none, rfl, fun b o e _ _ => sl _ _ e, fl0, BAt.fresh hB nbl ngl nsl fl0, ?_, ?_, ?_, Nat.le_refl _⟩ (fun i σ H2 _ ⟨_, _, _, _, f2, _⟩ => firm_seq f2 hg) ?_ ?_⟩
    · rw [upd_same, List.append_nil]
      rfl
    · show (0 :: ls).length = _
      rw [List.length_cons, lm]
      omega
    · intro z hz
      rcases List.mem_cons.mp hz with rfl | hz
      · exact Int.le_refl _
      · exact l0 z hz
    · rintro i y σ H2 hi ⟨u, w, rfl, k2, f2, B2, h2, len2, nn2, gl2⟩
      obtain ⟨z, hz1, hz2⟩ := ha.get hi
      obtain ⟨q0, rfl, hq⟩ := hz2
      obtain ⟨⟨a0, a1⟩, b0, b1⟩ := okG_at hok hz1
      have hil : i < hs.length := (List.getElem?_eq_some_iff.mp hz1).1
      obtain ⟨dx2, ws2, kvs2, hb2, _⟩ := id B2
      have st : putM n gs ls (hs.take (i + 1)) = putStep n (putM n gs ls (hs.take i)) z := by
        unfold putM
        rw [take_more hz1, List.foldl_append]
        rfl
      generalize putM n gs ls (hs.take i) = S at B2 h2 len2 nn2 gl2 st
      refine ⟨q0, _, rfl, firm_seq f2 hq, rfl, _, _, rfl, _, _, rfl, rfl, ?_⟩
      refine ⟨_, rfl, .inl ⟨rfl, _, SqL.of h2⟩, _, rfl, b, dx2, _, rfl, hb2, lk _ _ _, _, rfl, _, rfl, l, S.2, z.1, rfl, SqL.of h2, a0, by omega, nn2, _, rfl, _, rfl, l, S.2, z.2, rfl, SqL.of h2, b0, by omega, nn2, ?_⟩
      have e1 := ledL_nn nn2 z.1
      have e2 := ledL_nn nn2 z.2
      have al := andM_len n S.1 (ledL S.2 z.1) (ledL S.2 z.2)
      have an := andM_nn S.1 n0 e1 e2
      refine ⟨b, gl, sd, n, ledL S.2 z.1, ledL S.2 z.2, S.1, rfl, B2, by omega, e1, e2, fun H3 k3 f3 B3 => ?_⟩
      have h3 := k3 _ _ h2 ngl.symm nsl.symm
      have f4 := Firm.upd (o := .lst (S.2.map V.int ++ [V.int (Bd.andM n S.1 (ledL S.2 z.1) (ledL S.2 z.2)).2])) h3 rfl
      refine ⟨l, _, _, rfl, rfl, h3, ?_, ?_⟩
      · rw [List.length_map, len2]
        exact Nat.lt_of_lt_of_le (by omega : 1 + m + i < 5000) (by decide)
      · rw [st]
        refine ⟨_, _, rfl, fun c o e n1 n2 => ?_, f2.trans (f3.trans f4), BAt.fresh B3 nbl ngl nsl f4, ?_, ?_, ?_, ?_⟩
        · rw [upd_ne (ne_of_none e nl)]
          exact k3 _ _ (k2 _ _ e n1 n2) n1 n2
        · rw [upd_same]
          show _ = some (HO.lst ((S.2 ++ [_]).map V.int))
          rw [List.map_append]
          rfl
        · show (S.2 ++ [_]).length = _
          rw [List.length_append, len2]
          rfl
        · intro c hc
          rcases List.mem_append.mp hc with hc | hc
          · exact nn2 c hc
          · rw [List.mem_singleton.mp hc]
            exact an
        · show (Bd.andM n S.1 (ledL S.2 z.1) (ledL S.2 z.2)).1.length ≤ _
          omega
    · rintro σ H2 ⟨u, w, rfl, k2, f2, B2, h2, len2, nn2, gl2⟩
      rw [ha.len, List.take_length] at B2 h2 len2 nn2 gl2
      have ht2 := firm_seq f2 ht
      refine ⟨_, rfl, t, rfl, ⟨_, ht2⟩, fun D nD => ?_⟩
      refine lc_tup (K := K) (a := t) (xs := as.map V.int) (fun j H3 => Same H2 H3 ∧ H3 D = some (.lst (((as.take j).map (ledL (putM n gs ls hs).2)).map V.int))) ⟨same_new nD, upd_same⟩ (fun j H3 _ ⟨s3, _⟩ => seqT_same s3 ht2) ?_ ?_
      · rintro j y H3 hj ⟨s3, h3⟩
        rw [List.getElem?_map] at hj
        cases ej : as[j]? with
        | none =>
          rw [ej] at hj
          cases hj
        | some a =>
          rw [ej] at hj
          have hj : V.int a = y := Option.some.inj hj
          subst hj
          obtain ⟨p1, p2⟩ := has a (List.mem_of_getElem? ej)
          refine ⟨rfl, yes_of ?_⟩
          refine ⟨_, rfl, _, rfl, l, _, a, rfl, SqL.of (s3 _ _ h2), p1, by omega, nn2, _, h3, ?_, fun c o e => ?_, ?_⟩
          · rw [List.length_map, List.length_map]
            exact Nat.lt_of_le_of_lt (List.length_take_le' _ _) (Nat.lt_of_le_of_lt asl (by decide))
          · rw [upd_ne (ne_of_none e nD)]
            exact s3 _ _ e
          · rw [upd_same, take_more ej, List.map_append, List.map_append]
            rfl
      · rintro H3 ⟨s3, h3⟩
        rw [List.length_map, List.take_length] at h3
        refine ⟨D, _, rfl, .inl ⟨SqL.of h3, fun t9 nt9 => ?_⟩⟩
        have s9 := same_new (u := .tup ((as.map (ledL (putM n gs ls hs).2)).map V.int)) nt9
        have s39 := s3.trans s9
        obtain ⟨dx2, ws2, kvs2, p1, p2, p3, p4, p5⟩ := B2
        exact q _ t9 (fun c o e n1 n2 => s39 _ _ (k2 _ _ e n1 n2)) (f2.trans (Firm.of s39)) ⟨dx2, ws2, kvs2, s39 _ _ p1, s39 _ _ p2, p3.imp fun _ _ h => h.firm (Firm.of s39), s39 _ _ p4, p5⟩ upd_same
end
end Bg
namespace Bo
open PySem PySem.Spec PyProof.Rows L2 Pen Dat Ki Fi Gr Bd Be
/-! ## The law's own and -/
def ownF (n : Int) (gs : List (Int × Int)) (lo hi : Int) : List (Int × Int) × Int := if lo = 0 ∨ flp lo = hi then (gs, 0) else if lo = 1 ∨ lo = hi then (gs, hi) else gated n gs (hi, lo)
theorem own_eq {n : Int} {gs : List (Int × Int)} {x y lo hi : Int} (x0 : 0 ≤ x) (y0 : 0 ≤ y) (hm : (lo = x ∧ hi = y ∧ x ≤ y) ∨ (lo = y ∧ hi = x ∧ y ≤ x)) : ownF n gs lo hi = Bd.andM n gs x y := by
  have h1 : (x = 0 ∨ y = 0 ∨ x = flp y) ↔ (lo = 0 ∨ flp lo = hi) := by
    unfold flp
    omega
  unfold ownF Bd.andM
  by_cases c1 : lo = 0 ∨ flp lo = hi
  · rw [if_pos c1, if_pos (h1.mpr c1)]
  · rw [if_neg c1, if_neg fun z => c1 (h1.mp z)]
    have c0 : ¬ (x = 0 ∨ y = 0 ∨ x = flp y) := fun z => c1 (h1.mp z)
    by_cases c2 : lo = 1 ∨ lo = hi
    · rw [if_pos c2]
      by_cases c3 : x = 1
      · rw [if_pos c3]
        have : hi = y := by omega
        rw [this]
      · rw [if_neg c3, if_pos (by omega)]
        have : hi = x := by omega
        rw [this]
    · rw [if_neg c2, if_neg (by omega), if_neg (by omega)]
      have : ordP x y = (hi, lo) := by
        unfold ordP
        by_cases c : x > y
        · rw [if_pos c]
          have a : hi = x := by omega
          have b : lo = y := by omega
          rw [a, b]
        · rw [if_neg c]
          have a : hi = y := by omega
          have b : lo = x := by omega
          rw [a, b]
      rw [this]
theorem eqv_pD (p q : Int × Int) : PyData.eqv (pD p) (pD q) = decide (p = q) := by
  have e : PyData.eqv (pD p) (pD q) = (decide (p.1 = q.1) && decide (p.2 = q.2)) := by
    simp [pD, PyData.eqv, PyData.eqvAll]
    rfl
  rw [e]
  by_cases c : p = q
  · subst c
    simp
  · rw [decide_eq_false c]
    cases h : decide (p.1 = q.1) with
    | false => rfl
    | true =>
      rw [Bool.true_and]
      exact decide_eq_false fun z => c (Prod.ext (of_decide_eq_true h) z)
theorem any_pD (p : Int × Int) (gs : List (Int × Int)) : ((gs.map pD).any fun z => PyData.eqv z (pD p)) = decide (p ∈ gs) := by
  rw [List.any_map]
  have : ((fun z => PyData.eqv z (pD p)) ∘ pD) = fun q => decide (q = p) := by
    funext q
    exact eqv_pD q p
  rw [this]
  by_cases m : p ∈ gs
  · rw [decide_eq_true m]
    exact List.any_eq_true.mpr ⟨p, m, decide_eq_true rfl⟩
  · rw [decide_eq_false m]
    exact List.any_eq_false.mpr fun q hq e => m (of_decide_eq_true e ▸ hq)
theorem shaped_lD (gs : List (Int × Int)) : SeqAt.shaped (.list (gs.map pD)) = true := by
  have h1 := can_pD gs
  have h2 := deep_pD gs
  show (PyData.canLayAll0 (gs.map pD) && decide (PyData.depthAll (gs.map pD) + 1 ≤ 64)) = true
  rw [h1, decide_eq_true (by omega)]
  rfl
def oD (n : Int) (gl : Addr) : List (Key × V) := [(.inr "leaves", .int n), (.inr "gates", .ref gl)]
def OwnB (K : PySem.W.Frag) (H : Hp) (o gl : Addr) (n : Int) (gs : List (Int × Int)) : Prop := ∃ ws, H o = some (.dK (oD n gl)) ∧ H gl = some (.lst ws) ∧ All2 (Pt K H) ws gs
theorem od_leaves {H : Hp} {o gl : Addr} {n : Int} (h : H o = some (.dK (oD n gl))) : DGet H o (.str "leaves") (some (.int n)) := DGet.k (k := .inr "leaves") h
theorem od_gates {H : Hp} {o gl : Addr} {n : Int} (h : H o = some (.dK (oD n gl))) : DGet H o (.str "gates") (some (.ref gl)) := DGet.k (k := .inr "gates") h
structure Tz (mg : Str → Option Value) : Prop where
  min : mg "min" = none
  max : mg "max" = none
  int : mg "int" = none
def spFlip : Sp := fun vs H Q _ => ∃ l : Int, vs = [.int l] ∧ Q (.int (flp l)) H
def spOwnAnd (K : PySem.W.Frag) : Sp := fun vs H Q _ => ∃ (o gl : Addr) (n x y : Int) (gs : List (Int × Int)), vs = [.ref o, .int x, .int y] ∧ OwnB K H o gl n gs ∧ gs.length ≤ 4000 ∧ 0 ≤ x ∧ 0 ≤ y ∧
  ∀ H', (∀ b u, H b = some u → b ≠ gl → H' b = some u) → Firm H H' → OwnB K H' o gl n (Bd.andM n gs x y).1 → Q (.int (Bd.andM n gs x y).2) H'
section
variable {P : Program} {w : World} {K : PySem.W.Frag} {mg : Str → Option Value} {base : Heap} {f : Addr} {fd : FuncData}
theorem scFlip : FnScope ["_law_literal"] ["_law_literal"] (defScope sFlip) := ⟨rfl, rfl, rfl, by decide +kernel, rfl, by decide +kernel, by decide +kernel⟩
theorem ok_flip (F : FnP K "_law_flip" sFlip f fd) (T : Tz mg) : FnOk P w K mg base CX0 1 f fd ["_law_literal"] spFlip := by
  refine F.ok scFlip (fun vs H Q E h => ?_) (fun cdv A outer s H vs Q E hr h => ?_)
  · obtain ⟨l, rfl, _⟩ := h
    rfl
  · obtain ⟨l, rfl, q⟩ := h
    refine ⟨_, PSs.nox (pss_one (ps_ret (pe_op op_sub (pe_op op_add (pv 0) pe_int) (pe_op op_mul pe_int (pe_op op_mod (pe_callTy call_int1 (by rfl) T.int (by decide +kernel) (pa_cons (pv 0) pa_nil)) pe_int))))), ?_⟩
    exact ⟨_, rfl, _, _, rfl, rfl, _, rfl, .inl ⟨_, rfl, _, _, rfl, rfl, (by show (0 : Int) < 2; decide), _, _, rfl, rfl, .inl ⟨by decide, by decide⟩, _, _, rfl, rfl, q⟩⟩
abbrev oaN : List Str := ["_law_own", "_law_one", "_law_other", "_law_low", "_law_high"]
theorem scOwnAnd : FnScope oaN ["_law_own", "_law_one", "_law_other"] (defScope sOwnAnd) := ⟨rfl, rfl, rfl, by decide +kernel, rfl, by decide +kernel, by decide +kernel⟩
theorem ok_own_and {fF : Addr} {dF : FuncData} (F : FnP K "_law_own_and" sOwnAnd f fd) (T : Tz mg) (FF : FnP K "_law_flip" sFlip fF dF) (gF : mg "_law_flip" = some (.ref fF)) : FnOk P w K mg base CX0 2 f fd ["_law_own", "_law_one", "_law_other"] (spOwnAnd K) := by
  have GF : FnOk P w K mg base CX0 1 fF dF ["_law_literal"] spFlip := ok_flip FF T
  have bF : Binds K dF ["_law_literal"] [] := FF.bindsN fun _ _ _ _ _ _ us hl => match us, hl with | [_], _ => rfl
  refine F.ok scOwnAnd (fun vs H Q E h => ?_) (fun cdv A outer s H vs Q E hr h => ?_)
  · obtain ⟨o, gl, n, x, y, gs, rfl, _⟩ := h
    rfl
  · obtain ⟨o, gl, n, x, y, gs, rfl, hO, hz, x0, y0, q⟩ := h
    have hu := hu_of hr
    have h65 : (A.deeper (envOfC (Str.ofString "_law_own_and") (defScope sOwnAnd) s.heap.objs.size f cdv)).units + 65 < cLine := by have := hr.un; omega
    refine ⟨_, PSs.nox (pss_cons (ps_par (i := 3) (j := 4) rfl scOwnAnd.nd rfl rfl (by decide) rfl rfl (pa_cons (pe_callB (cr_min rfl) (by rfl) T.min (by decide +kernel) (pa_cons (pe_lst (pa_cons (pv 1) (pa_cons (pv 2) pa_nil))) pa_nil))
        (pa_cons (pe_callB (cr_max rfl) (by rfl) T.max (by decide +kernel) (pa_cons (pe_lst (pa_cons (pv 1) (pa_cons (pv 2) pa_nil))) pa_nil)) pa_nil)) (by rfl))
      (pss_cons (ps_if (PW.pt (pw_or (pt_cmpR op_eq (pv 3) pe_int (nomark _)) (pw_or1 (pt_cmpR op_eq (pe_call GF hr (by rfl) gF FF.kp bF .nil pass0 (pa_cons (pv 3) pa_nil)) (pv 4) (nomark _))))) (pss_one (ps_ret pe_int)) pss_nil)
      (pss_cons (ps_if (PW.pt (pw_or (pt_cmpR op_eq (pv 3) pe_int (nomark _)) (pw_or1 (pt_cmpR op_eq (pv 3) (pv 4) (nomark _))))) (pss_one (ps_ret (pv 4))) pss_nil)
      (C8.pss_cut (ps_if (pt_cmpR (op_notInD h65) (pe_tup (pa_cons (pv 4) (pa_cons (pv 3) pa_nil))) (pe_dget hu (pv 0) pe_str (fun _ _ => rfl)) (by rfl))
        (pss_one (ps_expr (pe_bm PySem.F.plainAttrs_list PySem.F.slot_list_append PySem.F.type_list_append mt_append (pe_dget hu (pv 0) pe_str (fun _ _ => rfl)) (pa_cons (pe_tup (pa_cons (pv 4) (pa_cons (pv 3) pa_nil))) pa_nil)))) pss_nil)
      (pss_one (ps_ret (pe_op op_mul pe_int (pe_op op_add (pe_op op_add pe_int (pe_dget hu (pv 0) pe_str (fun _ _ => rfl))) (pe_bm PySem.F.plainAttrs_list PySem.F.slot_list_index PySem.F.type_list_index (mt_indexD h65) (pe_dget hu (pv 0) pe_str (fun _ _ => rfl)) (pa_cons (pe_tup (pa_cons (pv 4) (pa_cons (pv 3) pa_nil))) pa_nil)))))))))), ?_⟩
    obtain ⟨ws, ho, hg, ha⟩ := id hO
    refine ⟨_, rfl, _, rfl, (by show 2 ≤ sizeLine; decide), fun l1 nl1 => ?_⟩
    have s1 := same_new (u := .lst [V.int x, V.int y]) nl1
    refine ⟨l1, [x, y], rfl, SqL.of upd_same, (by show 0 < 2; decide), fun lo mlo blo => ?_⟩
    refine ⟨_, rfl, _, rfl, (by show 2 ≤ sizeLine; decide), fun l2 nl2 => ?_⟩
    have s2 := same_new (u := .lst [V.int x, V.int y]) nl2
    refine ⟨l2, [x, y], rfl, SqL.of upd_same, (by show 0 < 2; decide), fun hi mhi bhi => ⟨_, _, rfl, ?_⟩⟩
    have lx := blo x List.mem_cons_self
    have ly := blo y (List.mem_cons_of_mem _ List.mem_cons_self)
    have hx := bhi x List.mem_cons_self
    have hy := bhi y (List.mem_cons_of_mem _ List.mem_cons_self)
    have mlo : lo = x ∨ lo = y := by simpa using mlo
    have mhi : hi = x ∨ hi = y := by simpa using mhi
    have ee := own_eq (n := n) (gs := gs) x0 y0 (lo := lo) (hi := hi) (by omega)
    rw [← ee] at q
    have s12 := s1.trans s2
    have O2 : OwnB K (upd (upd H l1 (.lst [V.int x, V.int y])) l2 (.lst [V.int x, V.int y])) o gl n gs := ⟨ws, s12 _ _ ho, s12 _ _ hg, ha.imp fun _ _ h => h.firm (Firm.of s12)⟩
    generalize upd (upd H l1 (.lst [V.int x, V.int y])) l2 (.lst [V.int x, V.int y]) = H2 at s12 O2 ⊢
    obtain ⟨ws2, ho2, hg2, ha2⟩ := id O2
    have done : ∀ {r : Int}, ownF n gs lo hi = (gs, r) → Q (.int r) H2 := fun {r} e => by
      have z := q H2 (fun _ _ e _ => s12 _ _ e) (Firm.of s12)
      rw [e] at z
      exact z O2
    have di : ∀ {a b : Int}, decide (V.int a = V.int b) = true → a = b := fun h => V.int.inj (of_decide_eq_true h)
    have dn : ∀ {a b : Int}, ¬ decide (V.int a = V.int b) = true → ¬ a = b := fun h e => h (decide_eq_true (congrArg V.int e))
    refine ⟨_, rfl, rfl, _, rfl, ?_⟩
    refine ite2 (fun c1 => ?_) (fun c1 => ?_)
    · exact iteT (done (if_pos (.inl (di c1))))
    refine ⟨_, rfl, lo, rfl, _, rfl, rfl, _, rfl, ?_⟩
    refine ite2 (fun c2 => ?_) (fun c2 => ?_)
    · exact done (if_pos (.inr (di c2)))
    have n1 : ¬ (lo = 0 ∨ flp lo = hi) := fun h => h.elim (dn c1) (dn c2)
    refine ⟨_, rfl, rfl, _, rfl, ?_⟩
    refine ite2 (fun c3 => ?_) (fun c3 => ?_)
    · exact iteT ⟨_, rfl, done ((if_neg n1).trans (if_pos (.inl (di c3))))⟩
    refine ⟨_, rfl, _, rfl, rfl, _, rfl, ?_⟩
    refine ite2 (fun c4 => ?_) (fun c4 => ?_)
    · exact ⟨_, rfl, done ((if_neg n1).trans (if_pos (.inr (di c4))))⟩
    have n2 : ¬ (lo = 1 ∨ lo = hi) := fun h => h.elim (dn c3) (dn c4)
    have eF : ownF n gs lo hi = gated n gs (hi, lo) := (if_neg n1).trans (if_neg n2)
    rw [eF] at q
    refine ⟨fun σ H3 => σ = [some (.ref o), some (.int x), some (.int y), some (.int lo), some (.int hi)] ∧ (∀ b u, H b = some u → b ≠ gl → H3 b = some u) ∧ Firm H H3 ∧ OwnB K H3 o gl n (gated n gs (hi, lo)).1, ?_, ?_⟩
    · refine ⟨_, rfl, _, rfl, (by show 2 ≤ sizeLine; decide), fun t1 nt1 => ?_⟩
      have s3 := same_new (u := .tup [V.int hi, V.int lo]) nt1
      have ho3 := s3 _ _ ho2
      have hg3 := s3 _ _ hg2
      have ha3 := ha2.imp fun _ _ h => h.firm (Firm.of s3)
      refine ⟨_, rfl, o, _, rfl, od_gates ho3, pD (hi, lo), gs.map pD, .tup (SqT.of upd_same) (.cons (.int _) (.cons (.int _) .nil)), .lst (SqL.of hg3) (pts_dp ha3), (by rfl), shaped_lD gs, _, rfl, ?_⟩
      rw [any_pD]
      by_cases m : (hi, lo) ∈ gs
      · rw [decide_eq_true m]
        refine iteF ⟨rfl, fun _ _ e _ => s3 _ _ (s12 _ _ e), Firm.of (s12.trans s3), ?_⟩
        have eg : (gated n gs (hi, lo)).1 = gs := by
          unfold gated
          rw [if_pos m]
        rw [eg]
        exact ⟨ws2, ho3, hg3, ha3⟩
      · rw [decide_eq_false m]
        refine iteT ?_
        refine ⟨_, rfl, o, _, rfl, od_gates ho3, .inl ⟨rfl, _, SqL.of hg3⟩, _, rfl, _, rfl, (by show 2 ≤ sizeLine; decide), fun t2 nt2 => ?_⟩
        have s4 := same_new (u := .tup [V.int hi, V.int lo]) nt2
        have hg4 := s4 _ _ hg3
        have wl := ha2.len
        refine ⟨gl, _, _, rfl, rfl, hg4, ?_, ?_⟩
        · rw [wl]
          exact Nat.lt_of_le_of_lt hz (by decide)
        have fg := Firm.upd (o := .lst (ws2 ++ [V.ref t2])) hg4 rfl
        have eg : (gated n gs (hi, lo)).1 = gs ++ [(hi, lo)] := by
          unfold gated
          rw [if_neg m]
        have nog : o ≠ gl := fun e => by
          rw [e, hg2] at ho2
          cases ho2
        refine ⟨rfl, fun b u e ne => ?_, (Firm.of (s12.trans (s3.trans s4))).trans fg, ?_⟩
        · rw [upd_ne ne]
          exact s4 _ _ (s3 _ _ (s12 _ _ e))
        · rw [eg]
          refine ⟨_, ?_, upd_same, (ha3.imp fun _ _ h => (h.firm (Firm.of s4)).firm fg).snoc ⟨t2, rfl, firm_seq fg (SqT.of upd_same)⟩⟩
          rw [upd_ne nog]
          exact s4 _ _ ho3
    · rintro σ H3 ⟨rfl, k3, f3, O3⟩
      obtain ⟨ws3, ho3, hg3, ha3⟩ := id O3
      refine ⟨_, rfl, o, _, rfl, od_leaves ho3, _, _, rfl, rfl, _, rfl, o, _, rfl, od_gates ho3, .inl ⟨rfl, _, SqL.of hg3⟩, _, rfl, _, rfl, (by show 2 ≤ sizeLine; decide), fun t4 nt4 => ?_⟩
      have s4 := same_new (u := .tup [V.int hi, V.int lo]) nt4
      have mg_ : (hi, lo) ∈ (gated n gs (hi, lo)).1 := by
        unfold gated
        by_cases m : (hi, lo) ∈ gs
        · rw [if_pos m]
          exact m
        · rw [if_neg m]
          exact List.mem_append_right _ List.mem_cons_self
      have e2 : (gated n gs (hi, lo)).2 = 2 * (n + (ix (hi, lo) (gated n gs (hi, lo)).1 : Int) + 1) := by
        unfold gated
        by_cases m : (hi, lo) ∈ gs
        · rw [if_pos m]
        · rw [if_neg m]
          show _ = 2 * (n + (ix (hi, lo) (gs ++ [(hi, lo)]) : Int) + 1)
          rw [ix_new m]
      have q4 := q _ (fun b u e ne => s4 _ _ (k3 b u e ne)) (f3.trans (Firm.of s4)) ⟨ws3, s4 _ _ ho3, s4 _ _ hg3, ha3.imp fun _ _ h => h.firm (Firm.of s4)⟩
      rw [e2] at q4
      generalize (gated n gs (hi, lo)).1 = gs' at ha3 mg_ q4
      have lt : ix (hi, lo) gs' < gs'.length := List.findIdx_lt_length_of_exists ⟨_, mg_, decide_eq_true rfl⟩
      have at_ : gs'[ix (hi, lo) gs']? = some (hi, lo) := by
        rw [List.getElem?_eq_getElem lt]
        exact congrArg some (of_decide_eq_true (List.findIdx_getElem (w := lt)))
      refine ⟨gl, .ref t4, pD (hi, lo), gs'.map pD, ix (hi, lo) gs', pD (hi, lo), rfl, rfl, .lst (SqL.of (s4 _ _ hg3)) (pts_dp (ha3.imp fun _ _ h => h.firm (Firm.of s4))), .tup (SqT.of upd_same) (.cons (.int _) (.cons (.int _) .nil)), shaped_lD gs', (by rfl), ?_, ?_, fun m z hm hz => ?_, ?_⟩
      · rw [List.getElem?_map, at_]
        rfl
      · rw [eqv_pD, decide_eq_true rfl]
      · rw [List.getElem?_map] at hz
        cases em : gs'[m]? with
        | none =>
          rw [em] at hz
          cases hz
        | some p =>
          rw [em] at hz
          have hz : pD p = z := Option.some.inj hz
          rw [← hz, eqv_pD]
          obtain ⟨hml, ep⟩ := List.getElem?_eq_some_iff.mp em
          have nf := List.not_of_lt_findIdx (p := fun q => decide (q = (hi, lo))) (xs := gs') hm
          rw [← ep]
          exact nf
      · refine ⟨_, _, rfl, rfl, _, _, rfl, rfl, .inl ⟨by decide, by decide⟩, ?_⟩
        have er : 2 * (1 + n + (ix (hi, lo) gs' : Int)) = 2 * (n + (ix (hi, lo) gs' : Int) + 1) := by omega
        show Q (V.int (2 * (1 + n + (ix (hi, lo) gs' : Int)))) _
        rw [er]
        exact q4
end
end Bo
namespace Bm
open PySem PySem.Spec PyProof.Rows L2 Pen Dat Ki Fi Gr No Lf Cn Bd Be
/-! ## What and_of means -/
theorem ordP_or (a b : Int) : ordP a b = (a, b) ∨ ordP a b = (b, a) := by
  unfold ordP
  split
  · exact .inl rfl
  · exact .inr rfl
theorem step_vals {bs : List Int} {gs : List (Int × Int)} (p : Int × Int) : vals bs (gs ++ [p]) = vals bs gs ++ [lit (vals bs gs) p.1 * lit (vals bs gs) p.2] := by
  unfold vals
  rw [List.foldl_append]
  rfl
theorem vals_pre {bs : List Int} (gs ts : List (Int × Int)) : (vals bs (gs ++ ts)).take (vals bs gs).length = vals bs gs := by
  have e := foldl_pre ts (vals bs gs)
  unfold vals at e ⊢
  rw [List.foldl_append]
  exact e
theorem lit_pre {bs : List Int} (gs ts : List (Int × Int)) {a : Int} (h0 : 0 ≤ a) (h : (a / 2).toNat < 1 + bs.length + gs.length) : lit (vals bs (gs ++ ts)) a = lit (vals bs gs) a := by
  have l := vals_len bs gs
  rw [← vals_pre gs ts, lit_take h0 (by omega)]
theorem lit_new {f : List Int} {w a : Int} (ha : a = 2 * (f.length : Int)) (w0 : 0 ≤ w) : lit (f ++ [w]) a = w := by
  have e1 : (a / 2).toNat = f.length := by omega
  have e2 : a % 2 = 0 := by omega
  unfold lit ab
  rw [e1, e2, List.getD_eq_getElem?_getD, List.getElem?_append_right (Nat.le_refl _), Nat.sub_self]
  show (if w - 0 < 0 then -(w - 0) else w - 0) = w
  rw [if_neg (by omega)]
  omega
/-- the value of a gate that stands -/
theorem gate_val {bs : List Int} {gs : List (Int × Int)} {j : Nat} {p : Int × Int} (h01 : B01 bs) (hok : okG (2 * (bs.length : Int) + 1) gs = true) (h : gs[j]? = some p) :
    lit (vals bs gs) (2 * ((bs.length : Int) + j + 1)) = lit (vals bs gs) p.1 * lit (vals bs gs) p.2 := by
  obtain ⟨hj, ej⟩ := List.getElem?_eq_some_iff.mp h
  obtain ⟨⟨a0, a1⟩, b0, b1⟩ := okG_at hok h
  have sp : gs = (gs.take j ++ [p]) ++ gs.drop (j + 1) := by
    rw [← take_more h, List.take_append_drop]
  have tl : (gs.take j).length = j := by
    rw [List.length_take]
    omega
  have l1 : lit (vals bs gs) p.1 = lit (vals bs (gs.take j)) p.1 := by
    have z := lit_pre (bs := bs) (gs.take j) ([p] ++ gs.drop (j + 1)) a0 (by omega)
    rw [← List.append_assoc, ← sp] at z
    exact z
  have l2 : lit (vals bs gs) p.2 = lit (vals bs (gs.take j)) p.2 := by
    have z := lit_pre (bs := bs) (gs.take j) ([p] ++ gs.drop (j + 1)) b0 (by omega)
    rw [← List.append_assoc, ← sp] at z
    exact z
  have l3 : lit (vals bs gs) (2 * ((bs.length : Int) + j + 1)) = lit (vals bs (gs.take j ++ [p])) (2 * ((bs.length : Int) + j + 1)) := by
    have z := lit_pre (bs := bs) (gs.take j ++ [p]) (gs.drop (j + 1)) (a := 2 * ((bs.length : Int) + j + 1)) (by omega) (by rw [List.length_append, tl]; show _ < 1 + bs.length + (j + 1); omega)
    rw [← sp] at z
    exact z
  rw [l3, l1, l2, step_vals]
  have vl := vals_len bs (gs.take j)
  have v01 := vals_01 (gs.take j) h01
  have x1 := lit_01 v01 p.1
  have x2 := lit_01 v01 p.2
  have w0 : 0 ≤ lit (vals bs (gs.take j)) p.1 * lit (vals bs (gs.take j)) p.2 := by
    rcases x1 with e | e <;> rcases x2 with e2 | e2 <;> rw [e, e2] <;> decide
  exact lit_new (by rw [vl, tl]; omega) w0
/-- the literals of a builder over its leaves -/
theorem fl_val {f : List Int} (h : B01 f) {l : Int} (h0 : 0 ≤ l) : lit f (flp l) = 1 - lit f l := by
  have b := getD_01 h (l / 2).toNat
  have e : flp l / 2 = l / 2 := by
    unfold flp
    omega
  unfold lit ab
  rw [e]
  unfold flp
  split <;> split <;> omega
theorem and_val {bs : List Int} {gs : List (Int × Int)} {a b : Int} (h01 : B01 bs) (hok : okG (2 * (bs.length : Int) + 1) gs = true) (a0 : 0 ≤ a) (a1 : a ≤ 2 * ((bs.length : Int) + gs.length) + 1) (b0 : 0 ≤ b) (b1 : b ≤ 2 * ((bs.length : Int) + gs.length) + 1) :
    okG (2 * (bs.length : Int) + 1) (Bd.andM bs.length gs a b).1 = true ∧ (∃ ts, (Bd.andM bs.length gs a b).1 = gs ++ ts) ∧ 0 ≤ (Bd.andM bs.length gs a b).2 ∧ (Bd.andM bs.length gs a b).2 ≤ 2 * ((bs.length : Int) + (Bd.andM bs.length gs a b).1.length) + 1 ∧
    lit (vals bs (Bd.andM bs.length gs a b).1) (Bd.andM bs.length gs a b).2 = lit (vals bs gs) a * lit (vals bs gs) b := by
  have v01 := vals_01 gs h01
  have z0 : lit (vals bs gs) 0 = 0 := by
    have e : (vals bs gs).getD 0 0 = 0 := by
      have z := vals_head bs gs
      rw [z]
      rfl
    show ab ((vals bs gs).getD 0 0 - 0) = 0
    rw [e]
    rfl
  have z1 : lit (vals bs gs) 1 = 1 := by
    have e := fl_val v01 (l := 0) (by decide)
    rw [z0] at e
    exact e
  have x1 := lit_01 v01 a
  have x2 := lit_01 v01 b
  unfold Bd.andM
  split
  · rename_i c
    refine ⟨hok, ⟨[], (List.append_nil _).symm⟩, Int.le_refl _, by show (0 : Int) ≤ _; omega, ?_⟩
    show lit (vals bs gs) 0 = _
    rw [z0]
    rcases c with rfl | rfl | rfl
    · rw [z0, Int.zero_mul]
    · rw [z0, Int.mul_zero]
    · rw [fl_val v01 b0]
      rcases x2 with e | e <;> rw [e] <;> decide
  split
  · rename_i c
    subst c
    refine ⟨hok, ⟨[], (List.append_nil _).symm⟩, b0, b1, ?_⟩
    rw [z1, Int.one_mul]
  split
  · rename_i c
    refine ⟨hok, ⟨[], (List.append_nil _).symm⟩, a0, a1, ?_⟩
    rcases c with rfl | rfl
    · rw [z1, Int.mul_one]
    · rcases x1 with e | e <;> rw [e] <;> decide
  · have op := ordP_or a b
    generalize ordP a b = p at op
    have pb : (0 ≤ p.1 ∧ p.1 ≤ 2 * ((bs.length : Int) + gs.length) + 1) ∧ 0 ≤ p.2 ∧ p.2 ≤ 2 * ((bs.length : Int) + gs.length) + 1 := by
      rcases op with rfl | rfl
      · exact ⟨⟨a0, a1⟩, b0, b1⟩
      · exact ⟨⟨b0, b1⟩, a0, a1⟩
    have pv : lit (vals bs gs) p.1 * lit (vals bs gs) p.2 = lit (vals bs gs) a * lit (vals bs gs) b := by
      rcases op with rfl | rfl
      · rfl
      · exact Int.mul_comm _ _
    unfold gated
    split
    · rename_i m
      have lt : ix p gs < gs.length := List.findIdx_lt_length_of_exists ⟨p, m, decide_eq_true rfl⟩
      have at_ : gs[ix p gs]? = some p := by
        rw [List.getElem?_eq_getElem lt]
        exact congrArg some (of_decide_eq_true (List.findIdx_getElem (w := lt)))
      refine ⟨hok, ⟨[], (List.append_nil _).symm⟩, by show (0 : Int) ≤ 2 * ((bs.length : Int) + (ix p gs : Int) + 1); omega, by show 2 * ((bs.length : Int) + (ix p gs : Int) + 1) ≤ 2 * ((bs.length : Int) + (gs.length : Int)) + 1; omega, ?_⟩
      exact (gate_val h01 hok at_).trans pv
    · have okn := okG_snoc hok pb.1.1 (by have := pb.1.2; omega) pb.2.1 (by have := pb.2.2; omega)
      refine ⟨okn, ⟨[p], rfl⟩, by show (0 : Int) ≤ 2 * ((bs.length : Int) + (gs.length : Int) + 1); omega, by rw [List.length_append]; show 2 * ((bs.length : Int) + (gs.length : Int) + 1) ≤ 2 * ((bs.length : Int) + ((gs.length + 1 : Nat) : Int)) + 1; omega, ?_⟩
      have at_ : (gs ++ [p])[gs.length]? = some p := by
        rw [List.getElem?_append_right (Nat.le_refl _), Nat.sub_self]
        rfl
      refine (gate_val h01 okn at_).trans ?_
      rw [lit_pre gs [p] pb.1.1 (by have := pb.1.2; omega), lit_pre gs [p] pb.2.1 (by have := pb.2.2; omega)]
      exact pv
def Inb (bs : List Int) (gs : List (Int × Int)) (a : Int) : Prop := 0 ≤ a ∧ a ≤ 2 * ((bs.length : Int) + gs.length) + 1
/-- what is told of more gates and a literal -/
structure Gd (bs : List Int) (gs : List (Int × Int)) (r : List (Int × Int) × Int) (z : Int) : Prop where
  ok : okG (2 * (bs.length : Int) + 1) r.1 = true
  ext : ∃ ts, r.1 = gs ++ ts
  inb : Inb bs r.1 r.2
  val : lit (vals bs r.1) r.2 = z
theorem and_gd {bs : List Int} {gs : List (Int × Int)} {a b : Int} (h01 : B01 bs) (hok : okG (2 * (bs.length : Int) + 1) gs = true) (ha : Inb bs gs a) (hb : Inb bs gs b) : Gd bs gs (Bd.andM bs.length gs a b) (lit (vals bs gs) a * lit (vals bs gs) b) := by
  obtain ⟨x1, x2, x3, x4, x5⟩ := and_val h01 hok ha.1 ha.2 hb.1 hb.2
  exact ⟨x1, x2, ⟨x3, x4⟩, x5⟩
theorem inb_flp {bs : List Int} {gs : List (Int × Int)} {a : Int} (h : Inb bs gs a) : Inb bs gs (flp a) := by
  obtain ⟨a0, a1⟩ := h
  unfold Inb flp
  omega
theorem inb_ext {bs : List Int} {gs gs' : List (Int × Int)} {a : Int} (e : ∃ ts, gs' = gs ++ ts) (h : Inb bs gs a) : Inb bs gs' a ∧ lit (vals bs gs') a = lit (vals bs gs) a := by
  obtain ⟨ts, rfl⟩ := e
  obtain ⟨a0, a1⟩ := h
  refine ⟨⟨a0, ?_⟩, lit_pre gs ts a0 (by omega)⟩
  rw [List.length_append]
  omega
theorem ext_trans {g1 g2 g3 : List (Int × Int)} (a : ∃ ts, g2 = g1 ++ ts) (b : ∃ ts, g3 = g2 ++ ts) : ∃ ts, g3 = g1 ++ ts := by
  obtain ⟨t, rfl⟩ := a
  obtain ⟨u, rfl⟩ := b
  exact ⟨t ++ u, List.append_assoc ..⟩
theorem or_gd {bs : List Int} {gs : List (Int × Int)} {a b : Int} (h01 : B01 bs) (hok : okG (2 * (bs.length : Int) + 1) gs = true) (ha : Inb bs gs a) (hb : Inb bs gs b) : Gd bs gs (orM bs.length gs a b) (1 - (1 - lit (vals bs gs) a) * (1 - lit (vals bs gs) b)) := by
  have v01 := vals_01 gs h01
  obtain ⟨o, e, i, v⟩ := and_gd h01 hok (inb_flp ha) (inb_flp hb)
  rw [fl_val v01 ha.1, fl_val v01 hb.1] at v
  refine ⟨o, e, inb_flp i, ?_⟩
  show lit (vals bs (Bd.andM bs.length gs (flp a) (flp b)).1) (flp (Bd.andM bs.length gs (flp a) (flp b)).2) = _
  rw [fl_val (vals_01 _ h01) i.1, v]
theorem xor_gd {bs : List Int} {gs : List (Int × Int)} {a b : Int} (h01 : B01 bs) (hok : okG (2 * (bs.length : Int) + 1) gs = true) (ha : Inb bs gs a) (hb : Inb bs gs b) :
    Gd bs gs (xorM bs.length gs a b) ((1 - lit (vals bs gs) a * lit (vals bs gs) b) * (1 - (1 - lit (vals bs gs) a) * (1 - lit (vals bs gs) b))) := by
  have v01 := vals_01 gs h01
  obtain ⟨o1, e1, i1, w1⟩ := and_gd h01 hok ha hb
  obtain ⟨ja, la⟩ := inb_ext e1 ha
  obtain ⟨jb, lb⟩ := inb_ext e1 hb
  obtain ⟨o2, e2, i2, w2⟩ := and_gd h01 o1 (inb_flp ja) (inb_flp jb)
  rw [fl_val (vals_01 _ h01) ha.1, fl_val (vals_01 _ h01) hb.1, la, lb] at w2
  obtain ⟨j1, l1⟩ := inb_ext e2 i1
  obtain ⟨o3, e3, i3, w3⟩ := and_gd h01 o2 (inb_flp j1) (inb_flp i2)
  rw [fl_val (vals_01 _ h01) i1.1, fl_val (vals_01 _ h01) i2.1, l1, w1, w2] at w3
  exact ⟨o3, ext_trans e1 (ext_trans e2 e3), i3, w3⟩
theorem choice_gd {bs : List Int} {gs : List (Int × Int)} {c a b : Int} (h01 : B01 bs) (hok : okG (2 * (bs.length : Int) + 1) gs = true) (hc : Inb bs gs c) (ha : Inb bs gs a) (hb : Inb bs gs b) :
    Gd bs gs (choiceM bs.length gs c a b) (if lit (vals bs gs) c = 1 then lit (vals bs gs) a else lit (vals bs gs) b) := by
  have v01 := vals_01 gs h01
  obtain ⟨o1, e1, i1, w1⟩ := and_gd h01 hok hc ha
  obtain ⟨jc, lc⟩ := inb_ext e1 hc
  obtain ⟨jb, lb⟩ := inb_ext e1 hb
  obtain ⟨o2, e2, i2, w2⟩ := and_gd h01 o1 (inb_flp jc) jb
  rw [fl_val (vals_01 _ h01) hc.1, lc, lb] at w2
  obtain ⟨j1, l1⟩ := inb_ext e2 i1
  obtain ⟨o3, e3, i3, w3⟩ := or_gd h01 o2 j1 i2
  rw [l1, w1, w2] at w3
  refine ⟨o3, ext_trans e1 (ext_trans e2 e3), i3, ?_⟩
  refine w3.trans ?_
  have xa := lit_01 v01 a
  have xb := lit_01 v01 b
  rcases lit_01 v01 c with e | e
  · rw [e, if_neg (by decide)]
    rcases xa with u | u <;> rcases xb with v | v <;> rw [u, v] <;> decide
  · rw [e, if_pos rfl]
    rcases xa with u | u <;> rcases xb with v | v <;> rw [u, v] <;> decide
end Bm
namespace Bw
open PySem PySem.Spec PyProof.Rows L2 Pen Dat Ki Fi Gr No Lf Bd Be Bf Bo
/-! ## k16: the law's looks at a builder -/
theorem ifT {b : Bool} {A B : Prop} (e : b = true) (h : A) : if b = true then A else B := by
  rw [if_pos e]
  exact h
theorem ifF {b : Bool} {A B : Prop} (e : b = false) (h : B) : if b = true then A else B := by
  rw [e]
  exact iteF h
def rLen (K : PySem.W.Frag) : List V → Hp → VK → Prop := fun xs H Q => ∃ p ys, xs = [V.ref p] ∧ (SqL K H p ys ∨ SqT K H p ys) ∧ Q (.int ys.length) H
theorem int_at {xs : List Int} {i : Nat} {y : V} (h : (xs.map V.int)[i]? = some y) : ∃ z, y = V.int z ∧ xs[i]? = some z := by
  rw [List.getElem?_map] at h
  cases e : xs[i]? with
  | none =>
    rw [e] at h
    cases h
  | some u =>
    rw [e] at h
    exact ⟨u, (Option.some.inj h).symm, rfl⟩
structure Tw (K : PySem.W.Frag) (mg : Str → Option Value) (C B fA fG : Addr) : Prop where
  gr : Gr.Tx K mg C
  lf : Lf.Tx mg
  ty : Be.Ty K mg B fA
  mG : Meth K B "graph" fG
  tz : Bo.Tz mg
def spWhole : Sp := fun vs H Q _ => ∃ i : Int, vs = [.int i] ∧ Q (.bl true) H
def spGatesOf (K : PySem.W.Frag) (C : Addr) : Sp := fun vs H Q _ => ∃ (x : Addr) (n : Int) (gs : List (Int × Int)), vs = [.ref x] ∧ GraphAt K C H x n gs ∧ gs.length ≤ 1000 ∧
  ∀ (H' : Hp) (l : Addr) (ws : List V), Same H H' → H' l = some (.lst ws) → All2 (Pt K H') ws gs → Q (.ref l) H'
def spTold (K : PySem.W.Frag) (B : Addr) : Sp := fun vs H Q _ => ∃ (b gl sd r : Addr) (n : Int) (gs : List (Int × Int)) (bs : List Int), vs = [.ref b, .int n, .ref r] ∧ BAt K B H b gl sd n gs ∧ SqT K H r (bs.map V.int) ∧ B01 bs ∧ (bs.length : Int) = n ∧ okG (2 * n + 1) gs = true ∧ gs.length ≤ 500 ∧ bs.length ≤ 500 ∧
  ∀ (H' : Hp) (l : Addr), Same H H' → H' l = some (.lst ((vals bs gs).map V.int)) → Q (.ref l) H'
def spAreL (K : PySem.W.Frag) : Sp := fun vs H Q _ => ∃ (t l : Addr) (ls xs : List Int), vs = [.ref t, .ref l] ∧ SqT K H t (ls.map V.int) ∧ SqL K H l (xs.map V.int) ∧ xs.length ≤ 1000 ∧ (∀ a ∈ ls, 0 ≤ a ∧ a < 2 * xs.length) ∧ ls.length ≤ 1000 ∧ ∀ H', Same H H' → Q (.bl true) H'
def spLed (K : PySem.W.Frag) : Sp := fun vs H Q _ => ∃ (l : Addr) (xs : List Int) (a : Int), vs = [.ref l, .int a] ∧ SqL K H l (xs.map V.int) ∧ 0 ≤ a ∧ (a / 2).toNat < xs.length ∧ Q (.int (ledL xs a)) H
section
variable {P : Program} {w : World} {K : PySem.W.Frag} {mg : Str → Option Value} {base : Heap} {f B C fA fG : Addr} {fd dA : FuncData}
theorem lkG (n : Int) (gl sd : Addr) : (fB n gl sd).lookup ("graph" : Str) = none := by
  have a : ¬ (("graph" : Str) = "standing") := by decide +kernel
  have b : ¬ (("graph" : Str) = "gates") := by decide +kernel
  have c : ¬ (("graph" : Str) = "leaves") := by decide +kernel
  unfold fB
  rw [lookup_putF, if_neg a, lookup_putF, if_neg b, lookup_putF, if_neg c]
  rfl
abbrev nWhole : List Str := ["_law_thing"]
theorem scWhole : FnScope nWhole ["_law_thing"] (defScope sWhole) := ⟨rfl, rfl, rfl, by decide +kernel, rfl, by decide +kernel, by decide +kernel⟩
abbrev nGatesOf : List Str := ["_law_graph", "_law_gate"]
theorem scGatesOf : FnScope nGatesOf ["_law_graph"] (defScope sGatesOf) := ⟨rfl, rfl, rfl, by decide +kernel, rfl, by decide +kernel, by decide +kernel⟩
abbrev nTold : List Str := ["_law_builder", "_law_leaves", "_law_bits", "_law_graph"]
theorem scTold : FnScope nTold ["_law_builder", "_law_leaves", "_law_bits"] (defScope sTold) := ⟨rfl, rfl, rfl, by decide +kernel, rfl, by decide +kernel, by decide +kernel⟩
abbrev nAreLits : List Str := ["_law_word", "_law_found", "_law_literal"]
theorem scAreLits : FnScope nAreLits ["_law_word", "_law_found"] (defScope sAreLits) := ⟨rfl, rfl, rfl, by decide +kernel, rfl, by decide +kernel, by decide +kernel⟩
abbrev nLed : List Str := ["_law_table", "_law_literal", "_law_there"]
theorem scLed : FnScope nLed ["_law_table", "_law_literal"] (defScope sLed) := ⟨rfl, rfl, rfl, by decide +kernel, rfl, by decide +kernel, by decide +kernel⟩
theorem ok_whole (F : FnP K "_law_is_whole" sWhole f fd) (T : Ki.Tx mg) : FnOk P w K mg base CX0 1 f fd ["_law_thing"] spWhole := by
  refine F.ok scWhole (fun vs H Q E h => ?_) (fun cdv A outer s H vs Q E hr h => ?_)
  · obtain ⟨i, rfl, _⟩ := h
    rfl
  · obtain ⟨i, rfl, q⟩ := h
    refine ⟨_, PSs.nox (pss_one (ps_ret (pe_and (pe_callB call_isi (by rfl) T.isi (by decide +kernel) (pa_cons (pv 0) (pa_cons (pe_bltn (v := .ty "int") (by rfl) T.int (by decide +kernel) rfl) pa_nil))) (pe_one (pe_not (pe_callB call_isi (by rfl) T.isi (by decide +kernel) (pa_cons (pv 0) (pa_cons (pe_bltn (v := .ty "bool") (by rfl) T.bool (by decide +kernel) rfl) pa_nil)))))))), ?_⟩
    have hd : Dp K H (.int i) (.int i) := .int i
    exact ⟨_, rfl, _, _, _, _, _, rfl, .ty _, ty_of hd, kit_int hd, _, rfl, iteT ⟨_, rfl, _, _, _, _, _, rfl, .ty _, ty_of hd, kit_bool hd, _, rfl, q⟩⟩
theorem ok_gatesof (F : FnP K "_law_gates_of" sGatesOf f fd) (T : Gr.Tx K mg C) : FnOk P w K mg base CX0 1 f fd ["_law_graph"] (spGatesOf K C) := by
  refine F.ok scGatesOf (fun vs H Q E h => ?_) (fun cdv A outer s H vs Q E hr h => ?_)
  · obtain ⟨x, n, gs, rfl, _⟩ := h
    rfl
  · obtain ⟨x, n, gs, rfl, hG, hz, q⟩ := h
    refine ⟨_, PSs.nox (pss_one (ps_ret (pe_ifExp (pt_val (pe_callB call_isi (by rfl) T.ki.isi (by decide +kernel) (pa_cons (pv 0) (pa_cons (pe_glob (v := V.ref C) (by rfl) T.mgC rfl) pa_nil)))) (pe_lc (own := [("_law_gate", 1)]) (g := gName 1) (tt := tYes) rfl scGatesOf.nd (pi_tup (pe_fld (pv 0) rfl)) (blkOk_by (N := nGatesOf) (sc := defScope sGatesOf) (by decide +kernel)) (fun _ _ _ _ _ => pg_name (i := 1) scGatesOf.nd rfl (Or.inl rfl)) (fun _ _ _ _ _ => pts_nil) (fun _ _ _ _ _ => (pe_callTy (T := "tuple") (r := rTupOf K) (by exact call_tuple_of) (by rfl) T.ki.tuple (by decide +kernel) (pa_cons (pv 1) pa_nil)))) pe_non))), ?_⟩
    obtain ⟨dg, g, x1, ps, hg, ha⟩ := id hG
    refine ⟨_, rfl, _, _, _, _, _, rfl, .own _, .base (T.met x1), T.own, _, rfl, iteT ?_⟩
    refine ⟨_, rfl, x, C, dg, _, _, rfl, x1, T.cl, T.nG, flds_G _ _, g, rfl, ⟨_, hg⟩, fun D nD => ?_⟩
    refine lc_tup (K := K) (a := g) (xs := ps) (fun i H2 => Same H H2 ∧ H2 D = some (.lst (ps.take i))) ⟨same_new nD, upd_same⟩ (fun i H2 _ ⟨s2, _⟩ => seqT_same s2 hg) ?_ ?_
    · rintro i y H2 hi ⟨s2, h2⟩
      obtain ⟨z, hz1, q0, rfl, hq⟩ := ha.get hi
      refine ⟨rfl, yes_of ?_⟩
      refine ⟨_, rfl, q0, _, rfl, .inr ⟨seqT_same s2 hq, ?_⟩⟩
      refine ⟨_, h2, ?_, fun b o e => ?_, ?_⟩
      · exact Nat.lt_of_le_of_lt (List.length_take_le' _ _) (Nat.lt_of_le_of_lt (by rw [ha.len]; exact hz) (by decide))
      · rw [upd_ne (ne_of_none e nD)]
        exact s2 _ _ e
      · rw [upd_same, take_more hi]
    · rintro H2 ⟨s2, h2⟩
      rw [List.take_length] at h2
      exact q H2 D ps s2 h2 (ha.imp fun _ _ h => h.firm (Firm.of s2))
theorem ok_told {fV : Addr} {dG dV : FuncData} (F : FnP K "_law_told_values" sTold f fd) (T : Tw K mg C B fA fG) (GG : FnOk P w K mg base CX0 6 fG dG ["self"] (spBGraph K C B)) (bG : Binds K dG ["self"] [])
    (GV : FnOk P w K mg base CX0 2 fV dV ["_law_leaves", "_law_gates", "_law_bits"] (spValues K)) (gV : mg "_law_values" = some (.ref fV)) (kV : PySem.W.keepIn K (.ref fV) = true) (bV : Binds K dV ["_law_leaves", "_law_gates", "_law_bits"] []) :
    FnOk P w K mg base CX0 7 f fd ["_law_builder", "_law_leaves", "_law_bits"] (spTold K B) := by
  refine F.ok scTold (fun vs H Q E h => ?_) (fun cdv A outer s H vs Q E hr h => ?_)
  · obtain ⟨b, gl, sd, r, n, gs, bs, rfl, _⟩ := h
    rfl
  · obtain ⟨b, gl, sd, r, n, gs, bs, rfl, hB, hr1, h01, hn, hok, hz, hz2, q⟩ := h
    refine ⟨_, PSs.nox (pss_cons (ps_set (i := 3) scTold.nd rfl (Or.inl rfl) (pe_meth0 (pv 0) T.ty.t.cl T.mG GG hr bG .nil pass0))
      (pss_one (ps_ret (pe_ifExp (pt_cmpR op_eq (pe_fld (pv 3) rfl) (pv 1) (nomark _)) (pe_call GV (hr.mono (by decide)) (by rfl) gV kV bV .nil pass0 (pa_cons (pv 1) (pa_cons (pe_fld (pv 3) rfl) (pa_cons (pv 2) pa_nil)))) pe_non)))), ?_⟩
    obtain ⟨dx, ws, kvs, hb, _⟩ := id hB
    refine ⟨_, rfl, b, dx, _, rfl, hb, lkG _ _ _, b, gl, sd, n, gs, rfl, hB, by omega, by omega, hok, fun H1 x s1 G1 => ?_⟩
    obtain ⟨dg, g, x1, hg⟩ := id G1
    refine ⟨_, rfl, x, C, dg, _, _, rfl, x1, T.gr.cl, T.gr.nL, flds_L _ _, _, rfl, rfl, _, rfl, ifT (decide_eq_true rfl) ?_⟩
    refine ⟨_, rfl, _, rfl, x, C, dg, _, _, rfl, x1, T.gr.cl, T.gr.nG, flds_G _ _, _, rfl, .int n, g, r, gs, bs, rfl, hg, seqT_same s1 hr1, h01, by rw [hn]; exact hok, hz2, hz, fun H2 l s2 _ h2 => ?_⟩
    exact q H2 l (s1.trans s2) h2
theorem ok_arelits {fW : Addr} {dW : FuncData} (F : FnP K "_law_are_literals" sAreLits f fd) (T : Ki.Tx mg)
    (GW : FnOk P w K mg base CX0 1 fW dW ["_law_thing"] spWhole) (gW : mg "_law_is_whole" = some (.ref fW)) (kW : PySem.W.keepIn K (.ref fW) = true) (bW : Binds K dW ["_law_thing"] []) :
    FnOk P w K mg base CX0 2 f fd ["_law_word", "_law_found"] (spAreL K) := by
  refine F.ok scAreLits (fun vs H Q E h => ?_) (fun cdv A outer s H vs Q E hr h => ?_)
  · obtain ⟨t, l, ls, xs, rfl, _⟩ := h
    rfl
  · obtain ⟨t, l, ls, xs, rfl, ht, hl, hz, hin, hz2, q⟩ := h
    refine ⟨_, PSs.nox (pss_cons (ps_if (pt_not (pt_val (pe_callB call_isi (by rfl) T.isi (by decide +kernel) (pa_cons (pv 0) (pa_cons (pe_bltn (v := .ty "tuple") (by rfl) T.tuple (by decide +kernel) rfl) pa_nil)))))
        (pss_one (ps_ret pe_bl))
        pss_nil)
      (pss_one (ps_ret (pe_cmpR (op_eqD hr.units) (pe_lc (own := [("_law_literal", 2)]) (g := gName 2) rfl scAreLits.nd (pi_tup (pv 0)) (blkOk_by (N := nAreLits) (sc := defScope sAreLits) (by decide +kernel)) (fun _ _ _ _ _ => pg_name (i := 2) scAreLits.nd rfl (Or.inl rfl)) (fun _ _ _ _ _ => pts_one (PW.pt (pw_or (pt_not (pt_val (pe_call GW hr (by rfl) gW kW bW .nil pass0 (pa_cons (pv 2) pa_nil)))) (pw_or1 (pt_not (pt_chain op_le op_lt pe_int (pv 2) (pe_op op_mul pe_int (pe_callB (r := rLen K) (by exact call_len_seq) (by rfl) T.len PySem.boot_len (pa_cons (pv 1) pa_nil))))))))) (fun _ _ _ _ _ => pe_int)) (pe_lst pa_nil) (nomark _))))), ?_⟩
    have hd : Dp K H (.ref t) (.tuple (ls.map .int)) := .tup ht (ints_dp ls)
    refine ⟨_, rfl, _, _, _, _, _, rfl, .ty _, ty_of hd, kit_ty (a := "tuple") (b := "tuple") (r := true) (by decide +kernel), _, rfl, iteF ?_⟩
    refine ⟨_, rfl, t, rfl, ⟨_, ht⟩, fun D nD => ?_⟩
    refine lc_tup (K := K) (a := t) (xs := ls.map V.int) (fun i H2 => Same H H2 ∧ H2 D = some (.lst [])) ⟨same_new nD, upd_same⟩ (fun i H2 _ ⟨s2, _⟩ => seqT_same s2 ht) ?_ ?_
    · rintro i y H2 hi ⟨s2, h2⟩
      obtain ⟨a, rfl, ha⟩ := int_at hi
      obtain ⟨a0, a1⟩ := hin a (List.mem_of_getElem? ha)
      refine ⟨rfl, ?_⟩
      refine ⟨_, rfl, a, rfl, _, rfl, iteF ?_⟩
      refine ⟨_, rfl, _, _, rfl, rfl, _, rfl, ifT (decide_eq_true a0) ?_⟩
      refine ⟨_, rfl, l, _, rfl, .inl (s2.seq hl), _, _, rfl, rfl, .inl ⟨by decide, by decide⟩, _, _, rfl, rfl, _, rfl, ?_⟩
      have e : a < 2 * ((xs.map V.int).length : Int) := by
        rw [List.length_map]
        exact a1
      exact ifF (by rw [decide_eq_true e]; rfl) ⟨s2, h2⟩
    · rintro H2 ⟨s2, h2⟩
      refine ⟨(by show 0 ≤ sizeLine; decide), fun l3 n3 => ?_⟩
      have sl := same_new (u := .lst []) n3
      exact ⟨_, _, .lst (SqL.of (sl _ _ h2)) .nil, .lst (SqL.of upd_same) .nil, (by rfl), (by rfl), q _ (s2.trans sl)⟩
theorem ok_led {fF : Addr} {dF : FuncData} (F : FnP K "_law_led" sLed f fd) (T : Tw K mg C B fA fG) (GF : FnOk P w K mg base CX0 1 fF dF ["_law_literal"] spFlip) (gF : mg "_law_flip" = some (.ref fF)) (kF : PySem.W.keepIn K (.ref fF) = true) (bF : Binds K dF ["_law_literal"] []) :
    FnOk P w K mg base CX0 2 f fd ["_law_table", "_law_literal"] (spLed K) := by
  refine F.ok scLed (fun vs H Q E h => ?_) (fun cdv A outer s H vs Q E hr h => ?_)
  · obtain ⟨l, xs, a, rfl, _⟩ := h
    rfl
  · obtain ⟨l, xs, a, rfl, hl, a0, a1, q⟩ := h
    refine ⟨_, PSs.nox (pss_cons (ps_set (i := 2) scLed.nd rfl (Or.inl rfl) (pe_ix ix_list (pv 0) (pe_op op_fdiv (pv 1) pe_int) (fun _ _ => rfl)))
      (pss_one (ps_ret (pe_ifExp (pt_cmpR op_eq (pe_op op_mod (pe_callTy call_int1 (by rfl) T.gr.ki.int (by decide +kernel) (pa_cons (pv 1) pa_nil)) pe_int) pe_int (nomark _)) (pv 2) (pe_call GF hr (by rfl) gF kF bF .nil pass0 (pa_cons (pv 2) pa_nil)))))), ?_⟩
    have e : a / 2 = (((a / 2).toNat : Nat) : Int) := by omega
    refine ⟨_, rfl, _, rfl, _, _, rfl, rfl, ⟨by decide, by decide⟩, l, _, _, _, rfl, rfl, hl, at_of e (getD_of a1), ?_⟩
    refine ⟨_, rfl, .inl ⟨_, rfl, _, _, rfl, rfl, (by show (0 : Int) < 2; decide), rfl, _, rfl, ?_⟩⟩
    unfold ledL at q
    refine ite2 (fun c => ?_) (fun c => ?_)
    · have c : a % 2 = 0 := V.int.inj (of_decide_eq_true c)
      rw [if_neg (by omega)] at q
      exact ⟨_, rfl, q⟩
    · have c : ¬ a % 2 = 0 := fun z => c (decide_eq_true (congrArg V.int z))
      rw [if_pos (by omega)] at q
      exact ⟨_, rfl, _, rfl, q⟩
end
end Bw
namespace Bx
open PySem PySem.Spec PyProof.Rows L2 Pen Dat Ki Fi Gr No Lf Cn Bd Be Bf Bg Bm Bo Bw
/-! ## k16: puts, looks, and what is built further -/
def spLits : Sp := fun vs H Q _ => ∃ (p c : Addr) (k : Nat) (n m : Int), vs = [.ref p, .int n, .int m] ∧ PenC H p c k ∧ k ≤ 100000000000 ∧ 0 < n ∧ n ≤ 1000 ∧ 0 ≤ m ∧ m ≤ 100 ∧
  ∀ (H' : Hp) (t : Addr) (ls : List Int), PenC H' p c (k + m.toNat) → But p H H' → ls.length = m.toNat → (∀ l ∈ ls, 0 ≤ l ∧ l < 2 * n) → H' t = some (.tup (ls.map V.int)) → Q (.ref t) H'
theorem cut_any {K : PySem.W.Frag} {H : Hp} {q0 : Addr} {xs : List V} {m : Nat} {j : Int} {R : VK} (hj : (m : Int) = j) (hq : SqT K H q0 xs) (hn : m ≤ xs.length) (k : ∀ t H', Same H H' → SqT K H' t (xs.take m) → R (.ref t) H') :
    L2.rSlA K (.ref q0) none (some j) H R := by
  subst hj
  have ix : HT.sIx xs.length xs.length (some (m : Int)) = m := by
    show (if ((m : Int)) < 0 then ((m : Int) + (xs.length : Int)).toNat else min (m : Int).toNat xs.length) = _
    rw [if_neg (by omega)]
    omega
  refine ⟨q0, _, rfl, hq, fun hw => ?_, fun _ p np => ?_⟩
  · have e := hw.2
    rw [ix] at e
    refine k q0 H (fun _ _ e => e) ?_
    rw [e, List.take_length]
    exact hq
  · refine k p _ (same_new np) (SqT.of ?_)
    rw [upd_same]
    unfold cutV
    rw [ix]
    rfl
def wayS : Nat → Str
  | 0 => "or"
  | 1 => "xor"
  | _ => "choice"
def due (way : Nat) (vs : List Int) : Int :=
  match way, vs with
  | 0, [a, b] => 1 - (1 - a) * (1 - b)
  | 1, [a, b] => (1 - a * b) * (1 - (1 - a) * (1 - b))
  | 2, [c, a, b] => if c = 1 then a else b
  | _, _ => 0
structure Told where
  l : Int
  way : Nat
  ps : List Int
def TAt (H : Hp) (v : V) (r : Told) : Prop := ∃ q q2, v = .ref q ∧ H q = some (.tup [.int r.l, .str (wayS r.way), .ref q2]) ∧ H q2 = some (.tup (r.ps.map V.int))
theorem TAt.firm {H H' : Hp} {v : V} {r : Told} (s : Firm H H') (h : TAt H v r) : TAt H' v r := by
  obtain ⟨q, q2, a, b, c⟩ := h
  exact ⟨q, q2, a, s _ _ b rfl, s _ _ c rfl⟩
/-- a literal of a node of n leaves and the gates -/
def InN (n : Nat) (gs : List (Int × Int)) (a : Int) : Prop := 0 ≤ a ∧ a ≤ 2 * ((n : Int) + gs.length) + 1
structure TOk (n : Nat) (gs : List (Int × Int)) (r : Told) : Prop where
  l : InN n gs r.l
  ps : ∀ a ∈ r.ps, InN n gs a
  sh : (r.way = 0 ∧ r.ps.length = 2) ∨ (r.way = 1 ∧ r.ps.length = 2) ∨ (r.way = 2 ∧ r.ps.length = 3)
  val : ∀ bs : List Int, B01 bs → bs.length = n → lit (vals bs gs) r.l = due r.way (r.ps.map fun a => lit (vals bs gs) a)
theorem TOk.ext {n : Nat} {gs gs' : List (Int × Int)} {r : Told} (e : ∃ ts, gs' = gs ++ ts) (h : TOk n gs r) : TOk n gs' r := by
  obtain ⟨h1, h2, h3, h4⟩ := h
  have up : ∀ a, InN n gs a → InN n gs' a := fun a ⟨a0, a1⟩ => by
    obtain ⟨ts, rfl⟩ := e
    refine ⟨a0, ?_⟩
    rw [List.length_append]
    omega
  refine ⟨up _ h1, fun a ha => up a (h2 a ha), h3, fun bs hb hl => ?_⟩
  subst hl
  have z := h4 bs hb rfl
  rw [(inb_ext e h1).2, z]
  refine congrArg (due r.way) (List.map_congr_left fun a ha => ?_)
  exact (inb_ext e (h2 a ha)).2.symm
def zeros (n : Nat) : List Int := List.replicate n 0
theorem zeros_01 (n : Nat) : B01 (zeros n) := fun z hz => .inl (List.eq_of_mem_replicate hz)
theorem zeros_len (n : Nat) : (zeros n).length = n := List.length_replicate ..
structure Gd0 (n : Nat) (gs : List (Int × Int)) (r : List (Int × Int) × Int) : Prop where
  ok : okG (2 * (n : Int) + 1) r.1 = true
  ext : ∃ ts, r.1 = gs ++ ts
  inb : InN n r.1 r.2
theorem and_g0 {n : Nat} {gs : List (Int × Int)} {a b : Int} (hok : okG (2 * (n : Int) + 1) gs = true) (ha : InN n gs a) (hb : InN n gs b) : Gd0 n gs (Bd.andM n gs a b) := by
  have z := zeros_len n
  have g := and_gd (bs := zeros n) (gs := gs) (a := a) (b := b) (zeros_01 n) (by rw [z]; exact hok) (by unfold Inb; rw [z]; exact ha) (by unfold Inb; rw [z]; exact hb)
  obtain ⟨x1, x2, x3, _⟩ := g
  unfold Inb at x3
  rw [z] at x1 x2 x3
  exact ⟨x1, x2, x3⟩
/-- what a put keeps -/
theorem put_ok {n : Nat} : ∀ (hs : List (Int × Int)) {gs : List (Int × Int)} {ls : List Int}, okG (2 * (n : Int) + 1) gs = true → (∀ z ∈ ls, InN n gs z) →
    okG (2 * (n : Int) + 1) (hs.foldl (putStep n) (gs, ls)).1 = true ∧ (∃ ts, (hs.foldl (putStep n) (gs, ls)).1 = gs ++ ts) ∧ (∀ z ∈ (hs.foldl (putStep n) (gs, ls)).2, InN n (hs.foldl (putStep n) (gs, ls)).1 z) ∧ (hs.foldl (putStep n) (gs, ls)).1.length ≤ gs.length + hs.length
  | [], gs, ls, h, hl => ⟨h, ⟨[], (List.append_nil _).symm⟩, hl, Nat.le_refl _⟩
  | p :: r, gs, ls, h, hl => by
    have bd : ∀ a, InN n gs (ledL ls a) := fun a => by
      have g0 : InN n gs (ls.getD (a / 2).toNat 0) := by
        rw [List.getD_eq_getElem?_getD]
        cases e : ls[(a / 2).toNat]? with
        | none => exact ⟨Int.le_refl _, by show (0 : Int) ≤ _; omega⟩
        | some u => exact hl _ (List.mem_of_getElem? e)
      unfold ledL
      split
      · obtain ⟨x, y⟩ := g0
        unfold InN flp
        omega
      · exact g0
    obtain ⟨o, e, i⟩ := and_g0 h (bd p.1) (bd p.2)
    have al := andM_len n gs (ledL ls p.1) (ledL ls p.2)
    obtain ⟨y1, y2, y3, y4⟩ := put_ok r (gs := (Bd.andM n gs (ledL ls p.1) (ledL ls p.2)).1) (ls := ls ++ [(Bd.andM n gs (ledL ls p.1) (ledL ls p.2)).2]) o (fun z hz => by
      rcases List.mem_append.mp hz with q | q
      · obtain ⟨x, y⟩ := hl z q
        obtain ⟨ts, e⟩ := e
        refine ⟨x, ?_⟩
        rw [e, List.length_append]
        omega
      · rw [List.mem_singleton.mp q]
        exact i)
    refine ⟨y1, ext_trans e y2, y3, ?_⟩
    rw [List.length_cons]
    exact Nat.le_trans y4 (by omega)
def spOwnPut (K : PySem.W.Frag) : Sp := fun vs H Q _ => ∃ (o gl g r t : Addr) (n : Int) (m : Nat) (gs hs : List (Int × Int)) (ls as : List Int), vs = [.ref o, .ref g, .ref r, .ref t] ∧ OwnB K H o gl n gs ∧ GT K H g hs ∧ SqT K H r (ls.map V.int) ∧ SqT K H t (as.map V.int) ∧
  0 ≤ n ∧ ls.length = m ∧ m ≤ 500 ∧ gs.length + hs.length ≤ 3900 ∧ (∀ z ∈ ls, 0 ≤ z) ∧ okG (2 * (m : Int) + 1) hs = true ∧ (∀ a ∈ as, 0 ≤ a ∧ (a / 2).toNat < 1 + m + hs.length) ∧ as.length ≤ 1000 ∧
  ∀ H' t', (∀ b u, H b = some u → b ≠ gl → H' b = some u) → Firm H H' → OwnB K H' o gl n (putM n gs ls hs).1 → H' t' = some (.tup ((as.map (ledL (putM n gs ls hs).2)).map V.int)) → Q (.ref t') H'
def spSame (K : PySem.W.Frag) (B : Addr) : Sp := fun vs H Q _ => ∃ (b gl sd o g2 : Addr) (n : Int) (gs : List (Int × Int)), vs = [.ref b, .ref o] ∧ BAt K B H b gl sd n gs ∧ OwnB K H o g2 n gs ∧ 0 ≤ n ∧ gs.length ≤ 1000 ∧ okG (2 * n + 1) gs = true ∧ ∀ H', Same H H' → Q (.bl true) H'
def spRight (K : PySem.W.Frag) (B : Addr) : Sp := fun vs H Q _ => ∃ (b gl sd l : Addr) (n : Nat) (gs : List (Int × Int)) (ws : List V) (rs : List Told), vs = [.ref b, .int n, .ref l] ∧ BAt K B H b gl sd n gs ∧ gs.length ≤ 400 ∧ n ≤ 11 ∧ okG (2 * (n : Int) + 1) gs = true ∧
  H l = some (.lst ws) ∧ All2 (TAt H) ws rs ∧ (∀ r ∈ rs, TOk n gs r) ∧ ∀ H', Same H H' → Q (.bl true) H'
def spFurther (K : PySem.W.Frag) (B : Addr) : Sp := fun vs H Q _ => ∃ (p c b gl sd : Addr) (k n : Nat) (gs : List (Int × Int)), vs = [.ref p, .ref b, .int n] ∧ PenC H p c k ∧ k ≤ 1000000 ∧ gl ≠ c ∧ BAt K B H b gl sd n gs ∧ gs.length ≤ 100 ∧ n ≤ 11 ∧ okG (2 * (n : Int) + 1) gs = true ∧
  ∀ (H' : Hp) (l : Addr) (gs' : List (Int × Int)) (ws : List V) (rs : List Told), (∀ d u, H d = some u → d ≠ p → d ≠ gl → d ≠ sd → H' d = some u) → Firm H H' → PenC H' p c (k + 24) → BAt K B H' b gl sd n gs' → (∃ ts, gs' = gs ++ ts) → gs'.length ≤ gs.length + 42 →
    okG (2 * (n : Int) + 1) gs' = true → H' l = some (.lst ws) → All2 (TAt H') ws rs → (∀ r ∈ rs, TOk n gs' r) → Q (.ref l) H'
theorem PenC.but2 {H H' : Hp} {p c x y : Addr} {m : Nat} (h : PenC H p c m) (k : But2 x y H H') (n1 : p ≠ x) (n2 : p ≠ y) (n3 : c ≠ x) (n4 : c ≠ y) : PenC H' p c m := by
  obtain ⟨ns, a, d, n, f, h1, h2, r⟩ := h
  exact ⟨ns, a, d, n, f, k _ _ h1 n1 n2, k _ _ h2 n3 n4, r⟩
theorem bat_pen {K : PySem.W.Frag} {B : Addr} {H : Hp} {b gl sd p c : Addr} {n : Int} {gs : List (Int × Int)} {m : Nat} (h : BAt K B H b gl sd n gs) (P : PenC H p c m) : b ≠ p ∧ gl ≠ p ∧ sd ≠ p ∧ sd ≠ c ∧ b ≠ gl ∧ b ≠ sd ∧ gl ≠ sd := by
  obtain ⟨dx, ws, kvs, h1, h2, _, h4, _⟩ := h
  obtain ⟨ns, a, d, n, f, p1, p2, _⟩ := P
  refine ⟨?_, ?_, ?_, ?_, ?_, ?_, ?_⟩ <;> intro e <;> subst e
  · rw [h1] at p1; cases p1
  · rw [h2] at p1; cases p1
  · rw [h4] at p1; cases p1
  · rw [h4] at p2; cases p2
  · rw [h1] at h2; cases h2
  · rw [h1] at h4; cases h4
  · rw [h2] at h4; cases h4
theorem BAt.but {K : PySem.W.Frag} {B : Addr} {H H' : Hp} {b gl sd p c : Addr} {n : Int} {gs : List (Int × Int)} {m : Nat} (h : BAt K B H b gl sd n gs) (P : PenC H p c m) (k : But p H H') : BAt K B H' b gl sd n gs := by
  obtain ⟨n1, n2, n3, _⟩ := bat_pen h P
  obtain ⟨dx, ws, kvs, h1, h2, h3, h4, h5⟩ := h
  exact ⟨dx, ws, kvs, k _ _ h1 n1, k _ _ h2 n2, h3.imp fun _ _ h => h.firm (Firm.pen k P), k _ _ h4 n3, h5⟩
theorem BAt.same {K : PySem.W.Frag} {B : Addr} {H H' : Hp} {b gl sd : Addr} {n : Int} {gs : List (Int × Int)} (h : BAt K B H b gl sd n gs) (s : Same H H') : BAt K B H' b gl sd n gs := by
  obtain ⟨dx, ws, kvs, h1, h2, h3, h4, h5⟩ := h
  exact ⟨dx, ws, kvs, s _ _ h1, s _ _ h2, h3.imp fun _ _ h => h.firm (Firm.of s), s _ _ h4, h5⟩
theorem OwnB.same {K : PySem.W.Frag} {H H' : Hp} {o gl : Addr} {n : Int} {gs : List (Int × Int)} (h : OwnB K H o gl n gs) (s : Same H H') : OwnB K H' o gl n gs := by
  obtain ⟨ws, h1, h2, h3⟩ := h
  exact ⟨ws, s _ _ h1, s _ _ h2, h3.imp fun _ _ h => h.firm (Firm.of s)⟩
section
variable {P : Program} {w : World} {K : PySem.W.Frag} {mg : Str → Option Value} {base : Heap} {f B C fA fG : Addr} {fd dA : FuncData}
abbrev nLits : List Str := ["_law_pen_here", "_law_nodes", "_law_many", "_law_k"]
theorem scLits : FnScope nLits ["_law_pen_here", "_law_nodes", "_law_many"] (defScope sLits) := ⟨rfl, rfl, rfl, by decide +kernel, rfl, by decide +kernel, by decide +kernel⟩
abbrev liN : List Str := nLits
abbrev nOwnPut : List Str := ["_law_own", "_law_gates", "_law_leaves", "_law_literals_here", "_law_table", "_law_one", "_law_other", "_law_literal"]
theorem scOwnPut : FnScope nOwnPut ["_law_own", "_law_gates", "_law_leaves", "_law_literals_here"] (defScope sOwnPut) := ⟨rfl, rfl, rfl, by decide +kernel, rfl, by decide +kernel, by decide +kernel⟩
abbrev nSame : List Str := ["_law_builder", "_law_own", "_law_graph"]
theorem scSame : FnScope nSame ["_law_builder", "_law_own"] (defScope sSame) := ⟨rfl, rfl, rfl, by decide +kernel, rfl, by decide +kernel, by decide +kernel⟩
abbrev nRight : List Str := ["_law_builder", "_law_leaves", "_law_rows_here", "_law_bits", "_law_found", "_law_literal", "_law_way", "_law_parts", "_law_part", "_law_a", "_law_due"]
theorem scRight : FnScope nRight ["_law_builder", "_law_leaves", "_law_rows_here"] (defScope sRight) := ⟨rfl, rfl, rfl, by decide +kernel, rfl, by decide +kernel, by decide +kernel⟩
abbrev nFurther : List Str := ["_law_pen_here", "_law_builder", "_law_leaves", "_law_rows_here", "_law_turn", "_law_nodes", "_law_a", "_law_b", "_law_c"]
theorem scFurther : FnScope nFurther ["_law_pen_here", "_law_builder", "_law_leaves"] (defScope sFurther) := ⟨rfl, rfl, rfl, by decide +kernel, rfl, by decide +kernel, by decide +kernel⟩
theorem ok_lits {fD : Addr} {fdD : FuncData} (F : FnP K "_law_literals" sLits f fd) (T : Lf.Tx mg) (FD : FnP K "_law_draw" sDraw fD fdD) (gD : mg "_law_draw" = some (.ref fD)) : FnOk P w K mg base CX0 2 f fd ["_law_pen_here", "_law_nodes", "_law_many"] spLits := by
  have GD : FnOk P w K mg base CX0 1 fD fdD ["_law_pen_here", "_law_many"] spDraw := ok_draw FD T.pen
  have bD : Binds K fdD ["_law_pen_here", "_law_many"] [] := FD.bindsN fun _ _ _ _ _ _ us hl => match us, hl with | [_, _], _ => rfl
  refine F.ok scLits (fun vs H Q E h => ?_) (fun cdv A outer s H vs Q E hr h => ?_)
  · obtain ⟨p, c, k, n, m, rfl, _⟩ := h
    rfl
  · obtain ⟨p, c, k, n, m, rfl, hP, hk, n0, n1, m0, m1, q⟩ := h
    refine ⟨_, PSs.nox (pss_one (ps_ret (pe_callTy call_tuple_of (by rfl) T.tuple (by decide +kernel) (pa_cons
      (pe_lc (own := [("_law_k", 3)]) (g := gName 3) (tt := tYes) rfl scLits.nd (pi_range1 (by rfl) T.range (pa_cons (pv 2) pa_nil)) (blkOk_by (N := liN) (sc := defScope sLits) (by decide +kernel)) (fun _ _ _ _ _ => pg_name (i := 3) scLits.nd rfl (Or.inl rfl)) (fun _ _ _ _ _ => pts_nil)
        (fun _ _ _ _ _ => pe_call GD hr (by rfl) gD FD.kp bD .nil pass0 (pa_cons (pv 0) (pa_cons (pe_op op_mul pe_int (pv 1)) pa_nil)))) pa_nil)))), ?_⟩
    refine ⟨_, rfl, m, rfl, by omega, by omega, fun D nD => ?_⟩
    obtain ⟨Dp_, Dc⟩ := hP.free nD
    have sD := same_new (u := .lst []) nD
    refine lc_range (lo := 0) (n := m.toNat) (fun i H2 => PenC H2 p c (k + i) ∧ (∀ b o, H b = some o → b ≠ p → H2 b = some o) ∧ ∃ ls : List Int, H2 D = some (.lst (ls.map V.int)) ∧ ls.length = i ∧ ∀ l ∈ ls, 0 ≤ l ∧ l < 2 * n)
      ⟨hP.same sD, fun b o e _ => sD b o e, [], upd_same, rfl, fun l z => by cases z⟩ ?_ ?_
    · rintro i H2 hi ⟨P2, k2, ls, h2, hl, hz⟩
      refine ⟨rfl, yes_of ?_⟩
      refine ⟨_, rfl, _, rfl, _, _, rfl, rfl, .inl ⟨by decide, by decide⟩, p, c, k + i, 2 * n, rfl, P2, by omega, by omega, by omega, fun r H3 r0 r1 P3 B3 => ?_⟩
      refine ⟨_, B3 _ _ h2 Dp_, ?_, P3.upd Dp_ Dc, fun b o e ne => ?_, ls ++ [r], ?_, ?_, fun l ml => ?_⟩
      · rw [List.length_map, hl]
        exact Nat.lt_trans hi (Nat.lt_of_lt_of_le (by omega : m.toNat < 200) (by decide))
      · rw [upd_ne (ne_of_none e nD)]
        exact B3 _ _ (k2 b o e ne) ne
      · rw [upd_same, List.map_append]
        rfl
      · rw [List.length_append, hl]
        rfl
      · rcases List.mem_append.mp ml with q | q
        · exact hz l q
        · rw [List.mem_singleton.mp q]
          exact ⟨r0, r1⟩
    · rintro H2 ⟨P2, k2, ls, h2, hl, hz⟩
      refine ⟨D, _, rfl, .inl ⟨SqL.of h2, fun t nt => ?_⟩⟩
      have st := same_new (u := .tup (ls.map V.int)) nt
      exact q _ t ls (P2.same st) (fun b o e ne => st _ _ (k2 b o e ne)) hl hz upd_same
theorem ok_ownput {fL fO : Addr} {dL dO : FuncData} (F : FnP K "_law_own_put" sOwnPut f fd) (T : Tw K mg C B fA fG)
    (GL : FnOk P w K mg base CX0 2 fL dL ["_law_table", "_law_literal"] (spLed K)) (gL : mg "_law_led" = some (.ref fL)) (kL : PySem.W.keepIn K (.ref fL) = true) (bL : Binds K dL ["_law_table", "_law_literal"] [])
    (GO : FnOk P w K mg base CX0 2 fO dO ["_law_own", "_law_one", "_law_other"] (spOwnAnd K)) (gO : mg "_law_own_and" = some (.ref fO)) (kO : PySem.W.keepIn K (.ref fO) = true) (bO : Binds K dO ["_law_own", "_law_one", "_law_other"] []) :
    FnOk P w K mg base CX0 3 f fd ["_law_own", "_law_gates", "_law_leaves", "_law_literals_here"] (spOwnPut K) := by
  refine F.ok scOwnPut (fun vs H Q E h => ?_) (fun cdv A outer s H vs Q E hr h => ?_)
  · obtain ⟨o, gl, g, r, t, n, m, gs, hs, ls, as, rfl, _⟩ := h
    rfl
  · obtain ⟨o, gl, g, r, t, n, m, gs, hs, ls, as, rfl, hO, hG, hv, ht, n0, lm, m5, hz, l0, hok, has, asl, q⟩ := h
    refine ⟨_, PSs.nox (pss_cons (ps_set (i := 4) scOwnPut.nd rfl (Or.inr rfl) (pe_op op_cat (pe_lst (pa_cons pe_int pa_nil)) (pe_callTy call_list_of (by rfl) T.gr.ki.list (by decide +kernel) (pa_cons (pv 2) pa_nil))))
      (pss_cons (ps_for PassesOwn.never rfl (pi_tup (pv 1)) (pg_tup rfl (pgs_cons (pg_name (i := 5) scOwnPut.nd rfl (Or.inl rfl)) (pgs_cons (pg_name (i := 6) scOwnPut.nd rfl (Or.inl rfl)) pgs_nil)))
        (pss_one (ps_expr (pe_bm PySem.F.plainAttrs_list PySem.F.slot_list_append PySem.F.type_list_append mt_append (pv 4) (pa_cons (pe_call GO (hr.mono (by decide)) (by rfl) gO kO bO .nil pass0 (pa_cons (pv 0) (pa_cons (pe_call GL (hr.mono (by decide)) (by rfl) gL kL bL .nil pass0 (pa_cons (pv 4) (pa_cons (pv 5) pa_nil))) (pa_cons (pe_call GL (hr.mono (by decide)) (by rfl) gL kL bL .nil pass0 (pa_cons (pv 4) (pa_cons (pv 6) pa_nil))) pa_nil)))) pa_nil)))))
      (pss_one (ps_ret (pe_callTy (T := "tuple") (r := rTupOf K) (by exact call_tuple_of) (by rfl) T.gr.ki.tuple (by decide +kernel) (pa_cons (pe_lc (own := [("_law_literal", 7)]) (g := gName 7) (tt := tYes) rfl scOwnPut.nd (pi_tup (pv 3)) (blkOk_by (N := nOwnPut) (sc := defScope sOwnPut) (by decide +kernel)) (fun _ _ _ _ _ => pg_name (i := 7) scOwnPut.nd rfl (Or.inl rfl)) (fun _ _ _ _ _ => pts_nil) (fun _ _ _ _ _ => (pe_call GL (hr.mono (by decide)) (by rfl) gL kL bL .nil pass0 (pa_cons (pv 4) (pa_cons (pv 7) pa_nil))))) pa_nil)))))), ?_⟩
    obtain ⟨ps, hg, ha⟩ := id hG
    obtain ⟨ws, ho, hgl, hws⟩ := id hO
    refine ⟨(by show 1 ≤ sizeLine; decide), fun l1 n1 => ?_⟩
    have s1 : Same H (upd H l1 (.lst [.int 0])) := same_new n1
    refine ⟨_, rfl, r, _, rfl, .inr (seqT_same s1 hv), fun l2 n2 => ?_⟩
    have s2 := same_new (u := .lst (ls.map V.int)) n2
    refine ⟨_, _, _, _, rfl, rfl, s2 _ _ upd_same, upd_same, ?_, fun l n3 => ?_⟩
    · rw [List.length_map]
      show 1 + ls.length ≤ sizeLine
      exact Nat.le_trans (by omega : 1 + ls.length ≤ 501) (by decide)
    have s3 := same_new (u := .lst ([V.int 0] ++ ls.map V.int)) n3
    have sl := s1.trans (s2.trans s3)
    have nl : H l = none := (s1.trans s2).free n3
    generalize hH : upd _ l _ = H1 at sl
    have h1 : H1 l = some (.lst (V.int 0 :: ls.map V.int)) := by
      rw [← hH, upd_same]
      rfl
    clear hH s3 n3
    have ngl : gl ≠ l := ne_of_none hgl nl
    refine ⟨_, rfl, g, rfl, ⟨_, seqT_same sl hg⟩, for_tup (K := K) (a := g) (xs := ps)
      (fun i σ H2 => ∃ (u w : Option V), σ = [some (.ref o), some (.ref g), some (.ref r), some (.ref t), some (.ref l), u, w, none] ∧ (∀ b u, H b = some u → b ≠ gl → H2 b = some u) ∧ Firm H H2 ∧ OwnB K H2 o gl n (putM n gs ls (hs.take i)).1 ∧
        H2 l = some (.lst ((putM n gs ls (hs.take i)).2.map V.int)) ∧ (putM n gs ls (hs.take i)).2.length = 1 + m + i ∧ (∀ z ∈ (putM n gs ls (hs.take i)).2, 0 ≤ z) ∧ (putM n gs ls (hs.take i)).1.length ≤ gs.length + i)
      ⟨none, none, rfl, fun b o e _ => sl _ _ e, Firm.of sl, OwnB.same hO sl, h1, ?_, ?_, Nat.le_refl _⟩ (fun i σ H2 _ ⟨_, _, _, _, f2, _⟩ => firm_seq f2 hg) ?_ ?_⟩
    · show (0 :: ls).length = _
      rw [List.length_cons, lm]
      omega
    · intro z hz
      rcases List.mem_cons.mp hz with rfl | hz
      · exact Int.le_refl _
      · exact l0 z hz
    · rintro i y σ H2 hi ⟨u, w, rfl, k2, f2, B2, h2, len2, nn2, gl2⟩
      obtain ⟨z, hz1, hz2⟩ := ha.get hi
      obtain ⟨q0, rfl, hq⟩ := hz2
      obtain ⟨⟨a0, a1⟩, b0, b1⟩ := okG_at hok hz1
      have hil : i < hs.length := (List.getElem?_eq_some_iff.mp hz1).1
      have st : putM n gs ls (hs.take (i + 1)) = putStep n (putM n gs ls (hs.take i)) z := by
        unfold putM
        rw [take_more hz1, List.foldl_append]
        rfl
      generalize putM n gs ls (hs.take i) = S at B2 h2 len2 nn2 gl2 st
      refine ⟨q0, _, rfl, firm_seq f2 hq, rfl, _, _, rfl, _, _, rfl, rfl, ?_⟩
      refine ⟨_, rfl, .inl ⟨rfl, _, SqL.of h2⟩, _, rfl, _, rfl, _, rfl, l, S.2, z.1, rfl, SqL.of h2, a0, by omega, _, rfl, _, rfl, l, S.2, z.2, rfl, SqL.of h2, b0, by omega, ?_⟩
      have e1 := ledL_nn nn2 z.1
      have e2 := ledL_nn nn2 z.2
      have al := andM_len n S.1 (ledL S.2 z.1) (ledL S.2 z.2)
      have an := andM_nn S.1 n0 e1 e2
      refine ⟨o, gl, n, ledL S.2 z.1, ledL S.2 z.2, S.1, rfl, B2, by omega, e1, e2, fun H3 k3 f3 B3 => ?_⟩
      have h3 := k3 _ _ h2 ngl.symm
      have f4 := Firm.upd (o := .lst (S.2.map V.int ++ [V.int (Bd.andM n S.1 (ledL S.2 z.1) (ledL S.2 z.2)).2])) h3 rfl
      refine ⟨l, _, _, rfl, rfl, h3, ?_, ?_⟩
      · rw [List.length_map, len2]
        exact Nat.lt_of_lt_of_le (by omega : 1 + m + i < 5000) (by decide)
      · rw [st]
        obtain ⟨ws3, ho3, hg3, ha3⟩ := B3
        refine ⟨_, _, rfl, fun c u e n1 => ?_, f2.trans (f3.trans f4), ⟨ws3, ?_, ?_, ha3.imp fun _ _ h => h.firm f4⟩, ?_, ?_, ?_, ?_⟩
        · rw [upd_ne (ne_of_none e nl)]
          exact k3 _ _ (k2 _ _ e n1) n1
        · rw [upd_ne (ne_of_none ho nl)]
          exact ho3
        · rw [upd_ne ngl]
          exact hg3
        · rw [upd_same]
          show _ = some (HO.lst ((S.2 ++ [_]).map V.int))
          rw [List.map_append]
          rfl
        · show (S.2 ++ [_]).length = _
          rw [List.length_append, len2]
          rfl
        · intro c hc
          rcases List.mem_append.mp hc with hc | hc
          · exact nn2 c hc
          · rw [List.mem_singleton.mp hc]
            exact an
        · show (Bd.andM n S.1 (ledL S.2 z.1) (ledL S.2 z.2)).1.length ≤ _
          omega
    · rintro σ H2 ⟨u, w, rfl, k2, f2, B2, h2, len2, nn2, gl2⟩
      rw [ha.len, List.take_length] at B2 h2 len2 nn2 gl2
      have ht2 := firm_seq f2 ht
      refine ⟨_, rfl, t, rfl, ⟨_, ht2⟩, fun D nD => ?_⟩
      refine lc_tup (K := K) (a := t) (xs := as.map V.int) (fun j H3 => Same H2 H3 ∧ H3 D = some (.lst (((as.take j).map (ledL (putM n gs ls hs).2)).map V.int))) ⟨same_new nD, upd_same⟩ (fun j H3 _ ⟨s3, _⟩ => seqT_same s3 ht2) ?_ ?_
      · rintro j y H3 hj ⟨s3, h3⟩
        obtain ⟨a, rfl, ej⟩ := int_at hj
        obtain ⟨p1, p2⟩ := has a (List.mem_of_getElem? ej)
        refine ⟨rfl, yes_of ?_⟩
        refine ⟨_, rfl, _, rfl, l, _, a, rfl, SqL.of (s3 _ _ h2), p1, by omega, _, h3, ?_, fun c o e => ?_, ?_⟩
        · rw [List.length_map, List.length_map]
          exact Nat.lt_of_le_of_lt (List.length_take_le' _ _) (Nat.lt_of_le_of_lt asl (by decide))
        · rw [upd_ne (ne_of_none e nD)]
          exact s3 _ _ e
        · rw [upd_same, take_more ej, List.map_append, List.map_append]
          rfl
      · rintro H3 ⟨s3, h3⟩
        rw [List.length_map, List.take_length] at h3
        refine ⟨D, _, rfl, .inl ⟨SqL.of h3, fun t9 nt9 => ?_⟩⟩
        have s9 := same_new (u := .tup ((as.map (ledL (putM n gs ls hs).2)).map V.int)) nt9
        have s39 := s3.trans s9
        exact q _ t9 (fun c o e n1 => s39 _ _ (k2 _ _ e n1)) (f2.trans (Firm.of s39)) (OwnB.same B2 s39) upd_same
theorem ok_same {fT : Addr} {dG dT : FuncData} (F : FnP K "_law_same" sSame f fd) (T : Tw K mg C B fA fG) (GG : FnOk P w K mg base CX0 6 fG dG ["self"] (spBGraph K C B)) (bG : Binds K dG ["self"] [])
    (GT_ : FnOk P w K mg base CX0 1 fT dT ["_law_graph"] (spGatesOf K C)) (gT : mg "_law_gates_of" = some (.ref fT)) (kT : PySem.W.keepIn K (.ref fT) = true) (bT : Binds K dT ["_law_graph"] []) :
    FnOk P w K mg base CX0 7 f fd ["_law_builder", "_law_own"] (spSame K B) := by
  have GT := GT_
  refine F.ok scSame (fun vs H Q E h => ?_) (fun cdv A outer s H vs Q E hr h => ?_)
  · obtain ⟨b, gl, sd, o, g2, n, gs, rfl, _⟩ := h
    rfl
  · obtain ⟨b, gl, sd, o, g2, n, gs, rfl, hB, hO, n0, hz, hok, q⟩ := h
    have hu := hu_of hr
    refine ⟨_, PSs.nox (pss_cons (ps_set (i := 2) scSame.nd rfl (Or.inl rfl) (pe_meth0 (pv 0) T.ty.t.cl T.mG GG hr bG .nil pass0))
      (pss_one (ps_ret (pe_and (pe_cmpR (op_eqD hr.units) (pe_call GT (hr.mono (by decide)) (by rfl) gT kT bT .nil pass0 (pa_cons (pv 2) pa_nil)) (pe_dget hu (pv 1) pe_str (fun _ _ => rfl)) (nomark _)) (pe_one (pe_cmpR op_eq (pe_fld (pv 2) rfl) (pe_dget hu (pv 1) pe_str (fun _ _ => rfl)) (nomark _))))))), ?_⟩
    obtain ⟨dx, ws, kvs, hb, _⟩ := id hB
    refine ⟨_, rfl, b, dx, _, rfl, hb, lkG _ _ _, b, gl, sd, n, gs, rfl, hB, n0, hz, hok, fun H1 x s1 G1 => ?_⟩
    obtain ⟨dg, g, x1, hg⟩ := id G1
    have O1 := OwnB.same hO s1
    refine ⟨_, rfl, x, n, gs, rfl, G1, hz, fun H2 l ws2 s2 h2 a2 => ?_⟩
    obtain ⟨ws3, ho, hg2, ha⟩ := OwnB.same O1 s2
    refine ⟨_, rfl, o, _, rfl, od_gates ho, _, _, .lst (SqL.of h2) (pts_dp a2), .lst (SqL.of hg2) (pts_dp ha), shaped_lD gs, shaped_lD gs, _, rfl, ifT (SeqAt.eqv_refl _ (can_pD gs)) ?_⟩
    refine ⟨_, rfl, x, C, dg, _, _, rfl, s2 _ _ x1, T.gr.cl, T.gr.nL, flds_L _ _, _, rfl, o, _, rfl, od_leaves ho, rfl, ?_⟩
    have e : decide (V.int n = V.int n) = true := decide_eq_true rfl
    show Q (V.bl (decide (V.int n = V.int n))) _
    rw [e]
    exact q _ (s1.trans s2)
end
end Bx
namespace By
open PySem PySem.Spec PyProof.Rows L2 Pen Dat Ki Fi Gr No Lf Cn Bd Be Bf Bg Bm Bo Bw Bx
/-! ## k16: what is built further, and its values -/
structure Fx (H : Hp) (p c b gl sd l : Addr) : Prop where
  nl : H l = none
  n1 : gl ≠ l
  n2 : sd ≠ l
  n3 : b ≠ l
  n4 : p ≠ l
  n5 : c ≠ l
  n6 : gl ≠ c
structure Fs (K : PySem.W.Frag) (B : Addr) (H : Hp) (p c b gl sd l : Addr) (n : Nat) (gs : List (Int × Int)) (H2 : Hp) (m : Nat) (gs' : List (Int × Int)) (ws : List V) (rs : List Told) : Prop where
  keep : ∀ d u, H d = some u → d ≠ p → d ≠ gl → d ≠ sd → H2 d = some u
  firm : Firm H H2
  pen : PenC H2 p c m
  bld : BAt K B H2 b gl sd n gs'
  ext : ∃ ts, gs' = gs ++ ts
  ok : okG (2 * (n : Int) + 1) gs' = true
  hl : H2 l = some (.lst ws)
  all : All2 (TAt H2) ws rs
  good : ∀ r ∈ rs, TOk n gs' r
section
variable {K : PySem.W.Frag} {B : Addr} {H H2 H3 : Hp} {p c b gl sd l : Addr} {n : Nat} {gs gs' gs2 : List (Int × Int)} {m m' : Nat} {ws : List V} {rs : List Told}
theorem Fs.same (h : Fs K B H p c b gl sd l n gs H2 m gs' ws rs) (s : Same H2 H3) : Fs K B H p c b gl sd l n gs H3 m gs' ws rs := by
  obtain ⟨a1, a2, a3, a4, a5, a6, a7, a8, a9⟩ := h
  exact ⟨fun d u e x y z => s _ _ (a1 d u e x y z), a2.trans (Firm.of s), a3.same s, BAt.same a4 s, a5, a6, s _ _ a7, a8.imp fun _ _ h => h.firm (Firm.of s), a9⟩
theorem Fs.draw (X : Fx H p c b gl sd l) (h : Fs K B H p c b gl sd l n gs H2 m gs' ws rs) (k : But p H2 H3) (P : PenC H3 p c m') : Fs K B H p c b gl sd l n gs H3 m' gs' ws rs := by
  obtain ⟨a1, a2, a3, a4, a5, a6, a7, a8, a9⟩ := h
  have f := Firm.pen k a3
  exact ⟨fun d u e x y z => k _ _ (a1 d u e x y z) x, a2.trans f, P, BAt.but a4 a3 k, a5, a6, k _ _ a7 X.n4.symm, a8.imp fun _ _ h => h.firm f, a9⟩
theorem Fs.push (X : Fx H p c b gl sd l) (h : Fs K B H p c b gl sd l n gs H2 m gs' ws rs) (k : But2 gl sd H2 H3) (f : Firm H2 H3) (hb : BAt K B H3 b gl sd n gs2) (e : ∃ ts, gs2 = gs' ++ ts) (o : okG (2 * (n : Int) + 1) gs2 = true) {r : Told} (g : TOk n gs2 r)
    {t8 t9 : Addr} (n8 : H3 t8 = none) (n9 : (upd H3 t8 (.tup (r.ps.map V.int))) t9 = none) :
    (upd (upd H3 t8 (.tup (r.ps.map V.int))) t9 (.tup [.int r.l, .str (wayS r.way), .ref t8])) l = some (.lst ws) ∧
    Fs K B H p c b gl sd l n gs (upd (upd (upd H3 t8 (.tup (r.ps.map V.int))) t9 (.tup [.int r.l, .str (wayS r.way), .ref t8])) l (.lst (ws ++ [.ref t9]))) m gs2 (ws ++ [.ref t9]) (rs ++ [r]) := by
  obtain ⟨a1, a2, a3, a4, a5, a6, a7, a8, a9⟩ := h
  obtain ⟨q1, q2, q3, q4, q5, q6, q7⟩ := bat_pen a4 a3
  have h3l := k _ _ a7 X.n1.symm X.n2.symm
  have s8 := same_new (u := .tup (r.ps.map V.int)) n8
  have s9 := same_new (u := .tup [.int r.l, .str (wayS r.way), .ref t8]) n9
  have s89 := s8.trans s9
  have hl5 := s89 _ _ h3l
  have h9 := upd_same (H := upd H3 t8 (.tup (r.ps.map V.int))) (a := t9) (o := .tup [.int r.l, .str (wayS r.way), .ref t8])
  have h8 := s9 _ _ (upd_same (H := H3) (a := t8) (o := .tup (r.ps.map V.int)))
  generalize upd (upd H3 t8 (.tup (r.ps.map V.int))) t9 (.tup [.int r.l, .str (wayS r.way), .ref t8]) = H5 at s89 hl5 h9 h8 ⊢
  have fl : Firm H5 (upd H5 l (.lst (ws ++ [.ref t9]))) := Firm.upd hl5 rfl
  have f5 : Firm H2 (upd H5 l (.lst (ws ++ [.ref t9]))) := f.trans ((Firm.of s89).trans fl)
  refine ⟨hl5, ⟨fun d u e x y z => ?_, a2.trans f5, ?_, ?_, ext_trans a5 e, o, upd_same, ?_, fun z hz => ?_⟩⟩
  · rw [upd_ne (ne_of_none e X.nl)]
    exact s89 _ _ (k _ _ (a1 d u e x y z) y z)
  · exact ((PenC.but2 a3 k q2.symm q3.symm X.n6.symm q4.symm).same s89).upd X.n4.symm X.n5.symm
  · exact BAt.fresh (BAt.same hb s89) X.n3 X.n1 X.n2 fl
  · exact (a8.imp fun _ _ h => h.firm f5).snoc ⟨t9, t8, rfl, fl _ _ h9 rfl, fl _ _ h8 rfl⟩
  · rcases List.mem_append.mp hz with z1 | z1
    · exact (a9 z z1).ext e
    · rw [List.mem_singleton.mp z1]
      exact g
theorem orM_len (n : Int) (gs : List (Int × Int)) (a b : Int) : (orM n gs a b).1.length ≤ gs.length + 1 := andM_len _ _ _ _
theorem xorM_len (n : Int) (gs : List (Int × Int)) (a b : Int) : (xorM n gs a b).1.length ≤ gs.length + 3 := by
  unfold xorM
  have h1 := andM_len n gs a b
  have h2 := andM_len n (Bd.andM n gs a b).1 (flp a) (flp b)
  have h3 := andM_len n (Bd.andM n (Bd.andM n gs a b).1 (flp a) (flp b)).1 (flp (Bd.andM n gs a b).2) (flp (Bd.andM n (Bd.andM n gs a b).1 (flp a) (flp b)).2)
  omega
theorem choiceM_len (n : Int) (gs : List (Int × Int)) (z a b : Int) : (choiceM n gs z a b).1.length ≤ gs.length + 3 := by
  unfold choiceM
  have h1 := andM_len n gs z a
  have h2 := andM_len n (Bd.andM n gs z a).1 (flp z) b
  have h3 := orM_len n (Bd.andM n (Bd.andM n gs z a).1 (flp z) b).1 (Bd.andM n gs z a).2 (Bd.andM n (Bd.andM n gs z a).1 (flp z) b).2
  omega
theorem tok {way : Nat} {ps : List Int} {r : List (Int × Int) × Int} (hs : (way = 0 ∧ ps.length = 2) ∨ (way = 1 ∧ ps.length = 2) ∨ (way = 2 ∧ ps.length = 3)) (hp : ∀ a ∈ ps, InN n gs a)
    (g : ∀ bs : List Int, B01 bs → bs.length = n → Bm.Gd bs gs r (due way (ps.map fun a => lit (vals bs gs) a))) : okG (2 * (n : Int) + 1) r.1 = true ∧ (∃ ts, r.1 = gs ++ ts) ∧ TOk n r.1 ⟨r.2, way, ps⟩ := by
  have z := zeros_len n
  have g0 := g (zeros n) (zeros_01 n) z
  have e := g0.ext
  have o := g0.ok
  have i := g0.inb
  unfold Inb at i
  rw [z] at o i
  refine ⟨o, e, ⟨i, fun a ha => ?_, hs, fun bs hb hl => ?_⟩⟩
  · obtain ⟨a0, a1⟩ := hp a ha
    obtain ⟨ts, e⟩ := e
    refine ⟨a0, ?_⟩
    rw [e, List.length_append]
    omega
  · have g1 := g bs hb hl
    refine g1.val.trans (congrArg (due way) (List.map_congr_left fun a ha => ?_))
    subst hl
    exact (inb_ext e (hp a ha)).2.symm
theorem or_tok {a d : Int} (ok : okG (2 * (n : Int) + 1) gs = true) (ha : InN n gs a) (hd : InN n gs d) : okG (2 * (n : Int) + 1) (orM n gs a d).1 = true ∧ (∃ ts, (orM n gs a d).1 = gs ++ ts) ∧ TOk n (orM n gs a d).1 ⟨(orM n gs a d).2, 0, [a, d]⟩ :=
  tok (.inl ⟨rfl, rfl⟩) (fun z hz => by
    rcases List.mem_cons.mp hz with rfl | hz
    · exact ha
    · rw [List.mem_singleton.mp hz]
      exact hd) fun bs hb hl => by
    subst hl
    exact or_gd hb ok ha hd
theorem xor_tok {a d : Int} (ok : okG (2 * (n : Int) + 1) gs = true) (ha : InN n gs a) (hd : InN n gs d) : okG (2 * (n : Int) + 1) (xorM n gs a d).1 = true ∧ (∃ ts, (xorM n gs a d).1 = gs ++ ts) ∧ TOk n (xorM n gs a d).1 ⟨(xorM n gs a d).2, 1, [a, d]⟩ :=
  tok (.inr (.inl ⟨rfl, rfl⟩)) (fun z hz => by
    rcases List.mem_cons.mp hz with rfl | hz
    · exact ha
    · rw [List.mem_singleton.mp hz]
      exact hd) fun bs hb hl => by
    subst hl
    exact xor_gd hb ok ha hd
theorem choice_tok {z a d : Int} (ok : okG (2 * (n : Int) + 1) gs = true) (hz : InN n gs z) (ha : InN n gs a) (hd : InN n gs d) : okG (2 * (n : Int) + 1) (choiceM n gs z a d).1 = true ∧ (∃ ts, (choiceM n gs z a d).1 = gs ++ ts) ∧ TOk n (choiceM n gs z a d).1 ⟨(choiceM n gs z a d).2, 2, [z, a, d]⟩ :=
  tok (.inr (.inr ⟨rfl, rfl⟩)) (fun y hy => by
    rcases List.mem_cons.mp hy with rfl | hy
    · exact hz
    · rcases List.mem_cons.mp hy with rfl | hy
      · exact ha
      · rw [List.mem_singleton.mp hy]
        exact hd) fun bs hb hl => by
    subst hl
    exact choice_gd hb ok hz ha hd
theorem inN_ext {a : Int} (e : ∃ ts, gs' = gs ++ ts) (h : InN n gs a) : InN n gs' a := by
  obtain ⟨ts, rfl⟩ := e
  obtain ⟨a0, a1⟩ := h
  refine ⟨a0, ?_⟩
  rw [List.length_append]
  omega
end
theorem three {α : Type} {xs : List α} (h : xs.length = 3) : ∃ a b c, xs = [a, b, c] := by
  match xs, h with
  | [a, b, c], _ => exact ⟨a, b, c, rfl⟩
theorem two {α : Type} {xs : List α} (h : xs.length = 2) : ∃ a b, xs = [a, b] := by
  match xs, h with
  | [a, b], _ => exact ⟨a, b, rfl⟩
section
variable {P : Program} {w : World} {K : PySem.W.Frag} {mg : Str → Option Value} {base : Heap} {f B C fA fG : Addr} {fd dA : FuncData}
theorem ok_right {fR fV fL fI : Addr} {dR dV dL dI : FuncData} (F : FnP K "_law_valued_right" sRight f fd) (T : Tw K mg C B fA fG)
    (GR : FnOk P w K mg base CX0 2 fR dR ["_law_many"] (spRows K)) (gR : mg "_law_rows" = some (.ref fR)) (kR : PySem.W.keepIn K (.ref fR) = true) (bR : Binds K dR ["_law_many"] [])
    (GV : FnOk P w K mg base CX0 7 fV dV ["_law_builder", "_law_leaves", "_law_bits"] (spTold K B)) (gV : mg "_law_told_values" = some (.ref fV)) (kV : PySem.W.keepIn K (.ref fV) = true) (bV : Binds K dV ["_law_builder", "_law_leaves", "_law_bits"] [])
    (GL : FnOk P w K mg base CX0 2 fL dL ["_law_word", "_law_found"] (spAreL K)) (gL : mg "_law_are_literals" = some (.ref fL)) (kL : PySem.W.keepIn K (.ref fL) = true) (bL : Binds K dL ["_law_word", "_law_found"] [])
    (GI : FnOk P w K mg base CX0 1 fI dI ["_law_found", "_law_literal"] (spBit K)) (gI : mg "_law_bit" = some (.ref fI)) (kI : PySem.W.keepIn K (.ref fI) = true) (bI : Binds K dI ["_law_found", "_law_literal"] []) :
    FnOk P w K mg base CX0 8 f fd ["_law_builder", "_law_leaves", "_law_rows_here"] (spRight K B) := by
  refine F.ok scRight (fun vs H Q E h => ?_) (fun cdv A outer s H vs Q E hr h => ?_)
  · obtain ⟨b, gl, sd, l, n, gs, ws, rs, rfl, _⟩ := h
    rfl
  · obtain ⟨b, gl, sd, l, n, gs, ws, rs, rfl, hB, hz, n11, hok, hl, ha, hok2, q⟩ := h
    refine ⟨_, PSs.nox (pss_cons (ps_for PassesOwn.never rfl (pi_list (pe_call GR (hr.mono (by decide)) (by rfl) gR kR bR .nil pass0 (pa_cons (pv 1) pa_nil))) (pg_name (i := 3) scRight.nd rfl (Or.inl rfl))
        (pss_cons (ps_set (i := 4) scRight.nd rfl (Or.inr rfl) (pe_call GV (hr.mono (by decide)) (by rfl) gV kV bV .nil pass0 (pa_cons (pv 0) (pa_cons (pv 1) (pa_cons (pv 3) pa_nil)))))
        (pss_one (ps_for PassesOwn.never rfl (pi_list (pv 2)) (pg_tup rfl (pgs_cons (pg_name (i := 5) scRight.nd rfl (Or.inl rfl)) (pgs_cons (pg_name (i := 6) scRight.nd rfl (Or.inl rfl)) (pgs_cons (pg_name (i := 7) scRight.nd rfl (Or.inl rfl)) pgs_nil))))
          (pss_cons (ps_if (PW.pt (pw_or (pt_cmpR op_isN (pv 4) pe_non (nomark _)) (pw_or1 (pt_not (pt_val (pe_call GL (hr.mono (by decide)) (by rfl) gL kL bL .nil pass0 (pa_cons (pe_tup (pa_cons (pv 5) pa_nil)) (pa_cons (pv 4) pa_nil))))))))
            (pss_one (ps_ret pe_bl))
            pss_nil)
          (pss_cons (ps_setLc (i := 9) (own := [("_law_part", 8)]) (g := gName 8) (tt := tYes) (by rfl) scRight.nd rfl rfl (sw_true rfl rfl rfl (by decide +kernel)) (pi_tup (pv 7)) (blkOk_by (N := nRight) (sc := defScope sRight) (by decide +kernel)) (fun _ _ _ _ _ => pg_name (i := 8) scRight.nd rfl (Or.inl rfl)) (fun _ _ _ _ _ => pts_nil) (fun _ _ _ _ _ => (pe_call GI (hr.mono (by decide)) (by rfl) gI kI bI .nil pass0 (pa_cons (pv 4) (pa_cons (pv 8) pa_nil)))))
          (C8.pss_cut (ps_set (i := 10) scRight.nd rfl (Or.inl rfl) (pe_ifExp (pt_cmpR op_eq (pv 6) pe_str (nomark _)) (pe_callB (cr_max rfl) (by rfl) T.tz.max (by decide +kernel) (pa_cons (pv 9) pa_nil)) (pe_ifExp (pt_cmpR op_eq (pv 6) pe_str (nomark _)) (pe_callTy call_int1 (by rfl) T.gr.ki.int (by decide +kernel) (pa_cons (pe_cmpR op_ne (pe_ix ix_list (pv 9) pe_int (fun _ _ => rfl)) (pe_ix ix_list (pv 9) pe_int (fun _ _ => rfl)) (nomark _)) pa_nil)) (pe_ix ix_list (pv 9) (pe_op op_sub pe_int (pe_ix ix_list (pv 9) pe_int (fun _ _ => rfl))) (fun _ _ => rfl)))))
          (pss_one (ps_if (pt_cmpR op_ne (pe_call GI (hr.mono (by decide)) (by rfl) gI kI bI .nil pass0 (pa_cons (pv 4) (pa_cons (pv 5) pa_nil))) (pv 10) (nomark _))
            (pss_one (ps_ret pe_bl))
            pss_nil)))))))))
      (pss_one (ps_ret pe_bl))), ?_⟩
    refine ⟨_, rfl, (n : Int), rfl, by omega, by omega, fun H1 l1 ws1 s1 hl1 a1 => ?_⟩
    refine ⟨l1, rfl, ⟨_, SqL.of hl1⟩, for_list (K := K) (a := l1) (xs := ws1)
      (fun i σ H2 => ∃ (x3 x4 x5 x6 x7 x9 x10 : Option V), σ = [some (.ref b), some (.int n), some (.ref l), x3, x4, x5, x6, x7, none, x9, x10] ∧ Same H1 H2)
      ⟨none, none, none, none, none, none, none, rfl, Same.refl _⟩ (fun i σ H2 _ ⟨_, _, _, _, _, _, _, _, s2⟩ => SqL.of (s2 _ _ hl1)) ?_ ?_⟩
    · rintro i v σ H2 hi ⟨x3, x4, x5, x6, x7, x9, x10, rfl, s2⟩
      obtain ⟨bs, hb, r, rfl, hr0⟩ := a1.get hi
      obtain ⟨bl, b01⟩ := rowsM_mem _ bs (List.mem_of_getElem? hb)
      have s12 := s1.trans s2
      refine ⟨_, rfl, _, rfl, _, rfl, b, gl, sd, r, n, gs, bs, rfl, BAt.same hB s12, SqT.of (s2 _ _ hr0), b01, by omega, hok, by omega, by omega, fun H3 l3 s3 h3 => ?_⟩
      have s13 := s12.trans s3
      have bl' : bs.length = n := by omega
      have vl := vals_len bs gs
      refine ⟨_, rfl, l, rfl, ⟨_, SqL.of (s13 _ _ hl)⟩, for_list (K := K) (a := l) (xs := ws)
        (fun j σ H4 => ∃ (y5 y6 y7 y9 y10 : Option V), σ = [some (.ref b), some (.int n), some (.ref l), some (.ref r), some (.ref l3), y5, y6, y7, none, y9, y10] ∧ Same H3 H4)
        ⟨_, _, _, _, _, rfl, Same.refl _⟩ (fun j σ H4 _ ⟨_, _, _, _, _, _, s4⟩ => SqL.of (s4 _ _ (s13 _ _ hl))) ?_ ?_⟩
      · rintro j v σ H4 hj ⟨y5, y6, y7, y9, y10, rfl, s4⟩
        obtain ⟨rr, hr1, t, t2, rfl, ht, ht2⟩ := ha.get hj
        have ok := hok2 rr (List.mem_of_getElem? hr1)
        have s04 := s13.trans s4
        refine ⟨t, _, rfl, SqT.of (s04 _ _ ht), rfl, _, _, rfl, _, _, rfl, _, _, rfl, rfl, ?_⟩
        refine ⟨_, rfl, rfl, _, rfl, iteF ?_⟩
        have h4 := s4 _ _ h3
        refine ⟨_, rfl, (by show 1 ≤ sizeLine; decide), fun t5 nt5 => ?_⟩
        have s5 := same_new (u := .tup [V.int rr.l]) nt5
        have ok1 := ok.l
        refine ⟨_, rfl, t5, l3, [rr.l], vals bs gs, rfl, SqT.of upd_same, SqL.of (s5 _ _ h4), by omega, (fun a ha => ?_), (by show 1 ≤ 1000; decide), fun H6 s6 => ⟨_, rfl, iteF ?_⟩⟩
        · rw [List.mem_singleton.mp ha]
          obtain ⟨a0, a1⟩ := ok1
          exact ⟨a0, by omega⟩
        have s46 := s5.trans s6
        have h6 := s46 _ _ h4
        have ht6 := s46 _ _ (s04 _ _ ht2)
        refine ⟨_, rfl, t2, rfl, ⟨_, SqT.of ht6⟩, fun D nD => ?_⟩
        have len3 : rr.ps.length ≤ 3 := by
          rcases ok.sh with ⟨_, h⟩ | ⟨_, h⟩ | ⟨_, h⟩ <;> omega
        refine lc_tup (K := K) (a := t2) (xs := rr.ps.map V.int) (fun e H7 => Same H6 H7 ∧ H7 D = some (.lst (((rr.ps.take e).map fun a => lit (vals bs gs) a).map V.int))) ⟨same_new nD, upd_same⟩ (fun e H7 _ ⟨s7, _⟩ => SqT.of (s7 _ _ ht6)) ?_ ?_
        · rintro e v H7 he ⟨s7, h7⟩
          obtain ⟨a, rfl, ea⟩ := int_at he
          obtain ⟨a0, a1⟩ := ok.ps a (List.mem_of_getElem? ea)
          refine ⟨rfl, yes_of ?_⟩
          refine ⟨_, rfl, _, rfl, l3, _, a, rfl, SqL.of (s7 _ _ h6), a0, by omega, ?_⟩
          refine ⟨_, h7, ?_, fun b o e => ?_, ?_⟩
          · rw [List.length_map, List.length_map]
            exact Nat.lt_of_le_of_lt (List.length_take_le' _ _) (Nat.lt_of_le_of_lt len3 (by decide))
          · rw [upd_ne (ne_of_none e nD)]
            exact s7 _ _ e
          · rw [upd_same, take_more ea, List.map_append, List.map_append]
            rfl
        rintro H7 ⟨s7, h7⟩
        rw [List.length_map, List.take_length] at h7
        refine ⟨fun σ H8 => σ = [some (.ref b), some (.int n), some (.ref l), some (.ref r), some (.ref l3), some (.int rr.l), some (.str (wayS rr.way)), some (.ref t2), none, some (.ref D), some (.int (due rr.way (rr.ps.map fun a => lit (vals bs gs) a)))] ∧ H8 = H7, ?_, ?_⟩
        · have b01' := vals_01 gs b01
          obtain ⟨rl, way, ps⟩ := rr
          dsimp only at h7 ok ⊢
          have nxo : ¬ (V.str (wayS 1) = V.str "or") := fun e => absurd (V.str.inj e) (by decide +kernel)
          have nco : ¬ (V.str (wayS 2) = V.str "or") := fun e => absurd (V.str.inj e) (by decide +kernel)
          have ncx : ¬ (V.str (wayS 2) = V.str "xor") := fun e => absurd (V.str.inj e) (by decide +kernel)
          rcases ok.sh with ⟨rfl, hs⟩ | ⟨rfl, hs⟩ | ⟨rfl, hs⟩
          · obtain ⟨a, d, rfl⟩ := two hs
            have xa := lit_01 b01' a
            have xd := lit_01 b01' d
            refine ⟨_, rfl, rfl, _, rfl, ifT (decide_eq_true rfl) ?_⟩
            refine ⟨_, rfl, D, [lit (vals bs gs) a, lit (vals bs gs) d], rfl, SqL.of h7, (by show 0 < 2; decide), fun m hm hle => ⟨?_, rfl⟩⟩
            have e : m = due 0 ([a, d].map fun a => lit (vals bs gs) a) := by
              show m = 1 - (1 - lit (vals bs gs) a) * (1 - lit (vals bs gs) d)
              have m1 := hle _ List.mem_cons_self
              have m2 := hle _ (List.mem_cons_of_mem _ List.mem_cons_self)
              have m3 : m = lit (vals bs gs) a ∨ m = lit (vals bs gs) d := by simpa using hm
              rcases xa with e1 | e1 <;> rcases xd with e2 | e2 <;> rw [e1, e2] at m3 ⊢ <;> rw [e1] at m1 <;> rw [e2] at m2 <;> omega
            rw [← e]
            rfl
          · obtain ⟨a, d, rfl⟩ := two hs
            have xa := lit_01 b01' a
            have xd := lit_01 b01' d
            refine ⟨_, rfl, rfl, _, rfl, ifF (decide_eq_false nxo) ?_⟩
            refine ⟨_, rfl, rfl, _, rfl, ifT (decide_eq_true rfl) ?_⟩
            refine ⟨_, rfl, D, _, _, _, rfl, rfl, SqL.of h7, at_of (j := 0) rfl rfl, _, rfl, D, _, _, _, rfl, rfl, SqL.of h7, at_of (j := 1) rfl rfl, rfl, .inr ⟨_, rfl, ?_, rfl⟩⟩
            have e : (if (!decide (V.int (lit (vals bs gs) a) = V.int (lit (vals bs gs) d))) = true then (1 : Int) else 0) = due 1 ([a, d].map fun a => lit (vals bs gs) a) := by
              show _ = (1 - lit (vals bs gs) a * lit (vals bs gs) d) * (1 - (1 - lit (vals bs gs) a) * (1 - lit (vals bs gs) d))
              rcases xa with e1 | e1 <;> rcases xd with e2 | e2 <;> rw [e1, e2] <;> decide
            rw [← e]
            rfl
          · obtain ⟨z, a, d, rfl⟩ := three hs
            have xz := lit_01 b01' z
            refine ⟨_, rfl, rfl, _, rfl, ifF (decide_eq_false nco) ?_⟩
            refine ⟨_, rfl, rfl, _, rfl, ifF (decide_eq_false ncx) ?_⟩
            rcases xz with e1 | e1
            · have e : due 2 ([z, a, d].map fun a => lit (vals bs gs) a) = lit (vals bs gs) d := by
                show (if lit (vals bs gs) z = 1 then _ else _) = _
                rw [e1]
                rfl
              rw [e]
              refine ⟨_, rfl, _, rfl, D, _, _, _, rfl, rfl, SqL.of h7, at_of (j := 0) rfl rfl, _, _, rfl, rfl, D, _, _, _, rfl, rfl, SqL.of h7, at_of (j := 2) (by show 2 - lit (vals bs gs) z = _; rw [e1]; rfl) rfl, rfl, rfl⟩
            · have e : due 2 ([z, a, d].map fun a => lit (vals bs gs) a) = lit (vals bs gs) a := by
                show (if lit (vals bs gs) z = 1 then _ else _) = _
                rw [e1]
                rfl
              rw [e]
              refine ⟨_, rfl, _, rfl, D, _, _, _, rfl, rfl, SqL.of h7, at_of (j := 0) rfl rfl, _, _, rfl, rfl, D, _, _, _, rfl, rfl, SqL.of h7, at_of (j := 1) (by show 2 - lit (vals bs gs) z = _; rw [e1]; rfl) rfl, rfl, rfl⟩
        · rintro σ H8 ⟨rfl, rfl⟩
          obtain ⟨a0, a1⟩ := ok1
          refine ⟨_, rfl, _, rfl, l3, _, rr.l, rfl, SqL.of (s7 _ _ h6), a0, by omega, _, rfl, rfl, _, rfl, iteNS (congrArg V.int (ok.val bs b01 bl')) ⟨_, _, _, _, _, rfl, s4.trans (s46.trans s7)⟩⟩
      · rintro σ H4 ⟨y5, y6, y7, y9, y10, rfl, s4⟩
        exact ⟨_, _, _, _, _, _, _, rfl, s2.trans (s3.trans s4)⟩
    · rintro σ H2 ⟨x3, x4, x5, x6, x7, x9, x10, rfl, s2⟩
      exact q _ (s1.trans s2)
theorem ok_further {fL fK fF fO fX fH : Addr} {dG dL dK dF dO dX dH : FuncData} (F : FnP K "_law_further" sFurther f fd) (T : Tw K mg C B fA fG) (GG : FnOk P w K mg base CX0 6 fG dG ["self"] (spBGraph K C B)) (bG : Binds K dG ["self"] [])
    (GL : FnOk P w K mg base CX0 2 fL dL ["_law_pen_here", "_law_nodes", "_law_many"] spLits) (gL : mg "_law_literals" = some (.ref fL)) (kL : PySem.W.keepIn K (.ref fL) = true) (bL : Binds K dL ["_law_pen_here", "_law_nodes", "_law_many"] [])
    (GK : FnOk P w K mg base CX0 2 fK dK ["_law_pen_here", "_law_some"] (spPick K)) (gK : mg "_law_pick" = some (.ref fK)) (kK : PySem.W.keepIn K (.ref fK) = true) (bK : Binds K dK ["_law_pen_here", "_law_some"] [])
    (GF : FnOk P w K mg base CX0 1 fF dF ["_law_literal"] spFlip) (gF : mg "_law_flip" = some (.ref fF)) (kF : PySem.W.keepIn K (.ref fF) = true) (bF : Binds K dF ["_law_literal"] [])
    (GO : FnOk P w K mg base CX0 2 fO dO ["builder", "one", "other"] (sp2 K B orM)) (gO : mg "or_of" = some (.ref fO)) (kO : PySem.W.keepIn K (.ref fO) = true) (bO : Binds K dO ["builder", "one", "other"] [])
    (GX : FnOk P w K mg base CX0 2 fX dX ["builder", "one", "other"] (sp2 K B xorM)) (gX : mg "xor_of" = some (.ref fX)) (kX : PySem.W.keepIn K (.ref fX) = true) (bX : Binds K dX ["builder", "one", "other"] [])
    (GH : FnOk P w K mg base CX0 3 fH dH ["builder", "c", "one", "other"] (sp3 K B)) (gH : mg "choice_of" = some (.ref fH)) (kH : PySem.W.keepIn K (.ref fH) = true) (bH : Binds K dH ["builder", "c", "one", "other"] []) :
    FnOk P w K mg base CX0 7 f fd ["_law_pen_here", "_law_builder", "_law_leaves"] (spFurther K B) := by
  refine F.ok scFurther (fun vs H Q E h => ?_) (fun cdv A outer s H vs Q E hr h => ?_)
  · obtain ⟨p, c, b, gl, sd, k, n, gs, rfl, _⟩ := h
    rfl
  · obtain ⟨p, c, b, gl, sd, k, n, gs, rfl, hP, hk, nc, hB, hz, n11, hok, q⟩ := h
    refine ⟨_, PSs.nox (pss_cons (ps_set (i := 3) scFurther.nd rfl (Or.inl rfl) (pe_lst pa_nil))
      (pss_cons (ps_for PassesOwn.never rfl (pi_range1 (by rfl) T.lf.range (pa_cons pe_int pa_nil)) (pg_name (i := 4) scFurther.nd rfl (Or.inl rfl))
        (pss_cons (ps_set (i := 5) scFurther.nd rfl (Or.inl rfl) (pe_op op_add (pe_op op_add pe_int (pv 2)) (pe_callB call_len_seq (by rfl) T.gr.ki.len PySem.boot_len (pa_cons (pe_fld (pe_meth0 (pv 1) T.ty.t.cl T.mG GG (hr.mono (by decide)) bG .nil pass0) rfl) pa_nil))))
        (pss_cons (ps_asg (pe_call GL (hr.mono (by decide)) (by rfl) gL kL bL .nil pass0 (pa_cons (pv 0) (pa_cons (pv 5) (pa_cons pe_int pa_nil)))) (pg_tup rfl (pgs_cons (pg_name (i := 6) scFurther.nd rfl (Or.inl rfl)) (pgs_cons (pg_name (i := 7) scFurther.nd rfl (Or.inl rfl)) (pgs_cons (pg_name (i := 8) scFurther.nd rfl (Or.inl rfl)) pgs_nil)))))
        (pss_cons (ps_set (i := 7) scFurther.nd rfl (Or.inl rfl) (pe_call GK (hr.mono (by decide)) (by rfl) gK kK bK .nil pass0 (pa_cons (pv 0) (pa_cons (pe_lst (pa_cons (pv 7) (pa_cons (pv 7) (pa_cons (pv 6) (pa_cons (pe_call GF (hr.mono (by decide)) (by rfl) gF kF bF .nil pass0 (pa_cons (pv 6) pa_nil)) pa_nil))))) pa_nil))))
        (pss_cons (ps_expr (pe_bm PySem.F.plainAttrs_list PySem.F.slot_list_append PySem.F.type_list_append mt_append (pv 3) (pa_cons (pe_tup (pa_cons (pe_call GO (hr.mono (by decide)) (by rfl) gO kO bO .nil pass0 (pa_cons (pv 1) (pa_cons (pv 6) (pa_cons (pv 7) pa_nil)))) (pa_cons pe_str (pa_cons (pe_tup (pa_cons (pv 6) (pa_cons (pv 7) pa_nil))) pa_nil)))) pa_nil)))
        (pss_cons (ps_expr (pe_bm PySem.F.plainAttrs_list PySem.F.slot_list_append PySem.F.type_list_append mt_append (pv 3) (pa_cons (pe_tup (pa_cons (pe_call GX (hr.mono (by decide)) (by rfl) gX kX bX .nil pass0 (pa_cons (pv 1) (pa_cons (pv 6) (pa_cons (pv 7) pa_nil)))) (pa_cons pe_str (pa_cons (pe_tup (pa_cons (pv 6) (pa_cons (pv 7) pa_nil))) pa_nil)))) pa_nil)))
        (pss_one (ps_expr (pe_bm PySem.F.plainAttrs_list PySem.F.slot_list_append PySem.F.type_list_append mt_append (pv 3) (pa_cons (pe_tup (pa_cons (pe_call GH (hr.mono (by decide)) (by rfl) gH kH bH .nil pass0 (pa_cons (pv 1) (pa_cons (pv 8) (pa_cons (pv 6) (pa_cons (pv 7) pa_nil))))) (pa_cons pe_str (pa_cons (pe_tup (pa_cons (pv 8) (pa_cons (pv 6) (pa_cons (pv 7) pa_nil)))) pa_nil)))) pa_nil))))))))))
      (pss_one (ps_ret (pv 3))))), ?_⟩
    refine ⟨(by show 0 ≤ sizeLine; decide), fun l nl => ?_⟩
    obtain ⟨dx, ws0, kvs, hb, hg, ha, hs, hS⟩ := id hB
    obtain ⟨lp, lc⟩ := hP.free nl
    have X : Fx H p c b gl sd l := ⟨nl, ne_of_none hg nl, ne_of_none hs nl, ne_of_none hb nl, lp.symm, lc.symm, nc⟩
    have sl := same_new (u := .lst []) nl
    refine ⟨6, rfl, by decide, by decide, for_range (lo := 0) (n := 6)
      (fun i σ H2 => ∃ (x4 x5 x6 x7 x8 : Option V) (gs' : List (Int × Int)) (ws : List V) (rs : List Told), σ = [some (.ref p), some (.ref b), some (.int n), some (.ref l), x4, x5, x6, x7, x8] ∧ Fs K B H p c b gl sd l n gs H2 (k + 4 * i) gs' ws rs ∧ gs'.length ≤ gs.length + 7 * i ∧ ws.length ≤ 3 * i)
      ⟨none, none, none, none, none, gs, [], [], rfl, ⟨fun d u e _ _ _ => sl _ _ e, Firm.of sl, hP.same sl, BAt.same hB sl, ⟨[], (List.append_nil _).symm⟩, hok, upd_same, .nil, fun r hr => by cases hr⟩, Nat.le_refl _, Nat.le_refl _⟩ ?_ ?_⟩
    · rintro i σ H2 hi ⟨x4, x5, x6, x7, x8, g1, ws, rs, rfl, S2, gl2, wl2⟩
      obtain ⟨dx2, ws2, kvs2, hb2, _⟩ := id S2.bld
      refine ⟨_, rfl, _, _, rfl, rfl, _, rfl, b, dx2, _, rfl, hb2, lkG _ _ _, b, gl, sd, n, g1, rfl, S2.bld, by omega, by omega, S2.ok, fun H3 x s3 G3 => ?_⟩
      obtain ⟨dg, g, x1, ps, hgp, hap⟩ := id G3
      refine ⟨x, C, dg, _, _, rfl, x1, T.gr.cl, T.gr.nG, flds_G _ _, g, ps, rfl, .inr hgp, _, _, rfl, rfl, ?_⟩
      rw [hap.len]
      have S3 := S2.same s3
      clear S2 hb2 G3 x1 hgp hap s3
      refine ⟨_, rfl, _, rfl, p, c, _, _, 3, rfl, S3.pen, by omega, by omega, by omega, by decide, by decide, fun H4 t ls P4 B4 len4 in4 ht4 => ?_⟩
      have S4 := S3.draw X B4 P4
      obtain ⟨a, d, z, rfl⟩ := three len4
      have inN : ∀ y ∈ [a, d, z], InN n g1 y := fun y hy => by
        obtain ⟨y0, y1⟩ := in4 y hy
        exact ⟨y0, by omega⟩
      have Na := inN a (by simp)
      have Nd := inN d (by simp)
      have Nz := inN z (by simp)
      refine ⟨t, _, rfl, SqT.of ht4, rfl, _, _, rfl, _, _, rfl, _, _, rfl, rfl, ?_⟩
      refine ⟨_, rfl, _, rfl, _, rfl, _, rfl, _, rfl, a, rfl, (by show 4 ≤ sizeLine; decide), fun l5 nl5 => ?_⟩
      have s5 := same_new (u := .lst [V.int d, V.int d, V.int a, V.int (flp a)]) nl5
      have S5 := S4.same s5
      have nlp := (S4.pen.free nl5).1
      refine ⟨p, c, l5, _, _, rfl, S5.pen, by show k + 4 * i + (3 : Int).toNat ≤ _; omega, nlp, SqL.of upd_same, (by show 0 < 4; decide), (by show 4 ≤ 1000; decide), fun v e H6 hv P6 B6 => ?_⟩
      have S6 := S5.draw X B6 P6
      have hy : ∃ y : Int, v = .int y ∧ InN n g1 y := by
        match e, hv with
        | 0, hv => exact ⟨d, (Option.some.inj hv).symm, Nd⟩
        | 1, hv => exact ⟨d, (Option.some.inj hv).symm, Nd⟩
        | 2, hv => exact ⟨a, (Option.some.inj hv).symm, Na⟩
        | 3, hv => exact ⟨flp a, (Option.some.inj hv).symm, by
            obtain ⟨a0, a1⟩ := Na
            unfold InN flp
            omega⟩
        | e + 4, hv => cases hv
      obtain ⟨y, rfl, Ny⟩ := hy
      clear S3 S4 S5 P4 B4 P6 B6 s5 nl5 hv in4 inN ht4
      have n0 : (0 : Int) ≤ n := by omega
      -- or
      obtain ⟨o1, e1, t1⟩ := or_tok S6.ok Na Ny
      have L1 := orM_len n g1 a y
      refine ⟨_, rfl, .inl ⟨rfl, _, SqL.of S6.hl⟩, _, rfl, _, rfl, _, rfl, b, gl, sd, n, a, y, g1, rfl, S6.bld, by omega, n0, Na.1, Ny.1, fun H7 k7 f7 B7 => ?_⟩
      refine ⟨_, rfl, _, rfl, (by show 2 ≤ sizeLine; decide), fun t8 nt8 => ⟨(by show 3 ≤ sizeLine; decide), fun t9 nt9 => ?_⟩⟩
      obtain ⟨hl7, S7⟩ := S6.push X k7 f7 B7 e1 o1 t1 nt8 nt9
      refine ⟨l, _, _, rfl, rfl, hl7, Nat.lt_of_lt_of_le (by omega : ws.length < 100) (by decide), ?_⟩
      have Na1 := inN_ext e1 Na
      have Ny1 := inN_ext e1 Ny
      have Nz1 := inN_ext e1 Nz
      have wl7 : (ws ++ [V.ref t9]).length ≤ 3 * i + 1 := by
        rw [List.length_append]
        exact Nat.succ_le_succ wl2
      clear hl7 k7 f7 B7 nt8 nt9 S6 t1 o1
      generalize (orM (n : Int) g1 a y) = r1 at S7 L1 Na1 Ny1 Nz1 e1 ⊢
      generalize ws ++ [V.ref t9] = wsA at S7 wl7 ⊢
      -- xor
      obtain ⟨o2, e2, t2⟩ := xor_tok S7.ok Na1 Ny1
      have L2_ := xorM_len n r1.1 a y
      refine ⟨_, rfl, .inl ⟨rfl, _, SqL.of S7.hl⟩, _, rfl, _, rfl, _, rfl, b, gl, sd, n, a, y, r1.1, rfl, S7.bld, by omega, n0, Na.1, Ny.1, fun H8 k8 f8 B8 => ?_⟩
      refine ⟨_, rfl, _, rfl, (by show 2 ≤ sizeLine; decide), fun u8 mt8 => ⟨(by show 3 ≤ sizeLine; decide), fun u9 mt9 => ?_⟩⟩
      obtain ⟨hl8, S8⟩ := S7.push X k8 f8 B8 e2 o2 t2 mt8 mt9
      refine ⟨l, _, _, rfl, rfl, hl8, Nat.lt_of_lt_of_le (by omega : wsA.length < 100) (by decide), ?_⟩
      have Na2 := inN_ext e2 Na1
      have Ny2 := inN_ext e2 Ny1
      have Nz2 := inN_ext e2 Nz1
      have wl8 : (wsA ++ [V.ref u9]).length ≤ 3 * i + 2 := by
        rw [List.length_append]
        exact Nat.succ_le_succ wl7
      clear hl8 k8 f8 B8 mt8 mt9 S7 t2 o2
      generalize (xorM (n : Int) r1.1 a y) = r2 at S8 L2_ Na2 Ny2 Nz2 e2 ⊢
      generalize wsA ++ [V.ref u9] = wsB at S8 wl8 ⊢
      -- choice
      obtain ⟨o3, e3, t3⟩ := choice_tok S8.ok Nz2 Na2 Ny2
      have L3 := choiceM_len n r2.1 z a y
      refine ⟨_, rfl, .inl ⟨rfl, _, SqL.of S8.hl⟩, _, rfl, _, rfl, _, rfl, _, rfl, b, gl, sd, n, z, a, y, r2.1, rfl, S8.bld, by omega, n0, Nz.1, Na.1, Ny.1, fun H9 k9 f9 B9 => ?_⟩
      refine ⟨_, rfl, _, rfl, _, rfl, (by show 3 ≤ sizeLine; decide), fun v8 lt8 => ⟨(by show 3 ≤ sizeLine; decide), fun v9 lt9 => ?_⟩⟩
      obtain ⟨hl9, S9⟩ := S8.push X k9 f9 B9 e3 o3 t3 lt8 lt9
      refine ⟨l, _, _, rfl, rfl, hl9, Nat.lt_of_lt_of_le (by omega : wsB.length < 100) (by decide), ?_⟩
      have ek : k + 4 * i + (3 : Int).toNat + 1 = k + 4 * (i + 1) := by
        show k + 4 * i + 3 + 1 = _
        omega
      rw [ek] at S9
      refine ⟨_, _, _, _, _, _, _, _, rfl, S9, by omega, ?_⟩
      rw [List.length_append]
      show wsB.length + 1 ≤ _
      omega
    · rintro σ H2 ⟨x4, x5, x6, x7, x8, g1, ws, rs, rfl, S2, gl2, wl2⟩
      exact ⟨_, rfl, q H2 l g1 ws rs S2.keep S2.firm S2.pen S2.bld S2.ext (by omega) S2.ok S2.hl S2.all S2.good⟩
end
end By
namespace Bz
open PySem PySem.Spec PyProof.Rows L2 Pen Dat Ki Fi Gr No Lf Cn Bd Be Bf Bg Bm Bo Bw Bx By Gd
/-! ## k16: the law -/
structure Tx (K : PySem.W.Frag) (mg : Str → Option Value) (C B fA fG : Addr) : Prop where
  tw : Tw K mg C B fA fG
  rep : mg "repr" = none
structure Al (K : PySem.W.Frag) (B : Addr) (H : Hp) (p c : Addr) (m : Nat) (b gl sd o g2 : Addr) (n : Nat) (gs hs : List (Int × Int)) : Prop where
  pen : PenC H p c m
  bld : BAt K B H b gl sd n gs
  own : OwnB K H o g2 n hs
  n1 : gl ≠ c
  n2 : g2 ≠ c
  n3 : gl ≠ g2
  n4 : o ≠ p
theorem mk_use {K : PySem.W.Frag} {C x dx : Addr} {H : Hp} {n : Int} {v : V} {gs : List (Int × Int)} {E : XK} {R : VK} (nx : H x = none) (nd : H dx = none) (n0 : n ≥ 0) (hv : RowG K H v gs) (hz : gs.length ≤ 1000) (hok : okG (2 * n + 1) gs = true) (k : ∀ H', Same H H' → GraphAt K C H' x n gs → R .non H') :
    spInit K C [.ref x, .int n, v] (upd (upd H dx (.own x)) x (.ins C dx [])) R E := by
  have s : Same H (upd (upd H dx (.own x)) x (.ins C dx [])) := fun b o e => by
    rw [upd_ne (ne_of_none e nx), upd_ne (ne_of_none e nd)]
    exact e
  exact ⟨x, dx, n, v, gs, rfl, upd_same, n0, hv.same s, hz, hok, fun H' k9 G => k H' (Same.made nx nd k9) G⟩
section
variable {K : PySem.W.Frag} {B : Addr} {H H' : Hp} {p c b gl sd o g2 : Addr} {m m' n : Nat} {gs gs' hs hs' : List (Int × Int)}
theorem Al.ne (h : Al K B H p c m b gl sd o g2 n gs hs) : g2 ≠ p ∧ p ≠ gl ∧ p ≠ sd ∧ c ≠ sd ∧ o ≠ gl ∧ o ≠ sd ∧ g2 ≠ sd ∧ b ≠ g2 ∧ b ≠ p := by
  obtain ⟨q1, q2, q3, q4, q5, q6, q7⟩ := bat_pen h.bld h.pen
  obtain ⟨dx, ws, kvs, h1, h2, _, h4, _⟩ := h.bld
  obtain ⟨ns, a, d, n, f, p1, p2, _⟩ := h.pen
  obtain ⟨ws2, o1, o2, _⟩ := h.own
  refine ⟨?_, q2.symm, q3.symm, q4.symm, ?_, ?_, ?_, ?_, q1⟩ <;> intro e <;> subst e
  · rw [o2] at p1; cases p1
  · rw [o1] at h2; cases h2
  · rw [o1] at h4; cases h4
  · rw [o2] at h4; cases h4
  · rw [o2] at h1; cases h1
theorem Al.same (h : Al K B H p c m b gl sd o g2 n gs hs) (s : Same H H') : Al K B H' p c m b gl sd o g2 n gs hs :=
  ⟨h.pen.same s, BAt.same h.bld s, OwnB.same h.own s, h.n1, h.n2, h.n3, h.n4⟩
theorem Al.more (h : Al K B H p c m b gl sd o g2 n gs hs) (s : m ≤ m') : Al K B H p c m' b gl sd o g2 n gs hs := ⟨h.pen.more s, h.bld, h.own, h.n1, h.n2, h.n3, h.n4⟩
theorem Al.draw (h : Al K B H p c m b gl sd o g2 n gs hs) (k : But p H H') (P : PenC H' p c m') : Al K B H' p c m' b gl sd o g2 n gs hs := by
  obtain ⟨e1, _⟩ := h.ne
  obtain ⟨ws, o1, o2, o3⟩ := h.own
  exact ⟨P, BAt.but h.bld h.pen k, ⟨ws, k _ _ o1 h.n4, k _ _ o2 e1, o3.imp fun _ _ z => z.firm (Firm.pen k h.pen)⟩, h.n1, h.n2, h.n3, h.n4⟩
theorem Al.bl (h : Al K B H p c m b gl sd o g2 n gs hs) (k : But2 gl sd H H') (f : Firm H H') (hb : BAt K B H' b gl sd n gs') : Al K B H' p c m b gl sd o g2 n gs' hs := by
  obtain ⟨e1, e2, e3, e4, e5, e6, e7, e8, e9⟩ := h.ne
  obtain ⟨ws, o1, o2, o3⟩ := h.own
  exact ⟨PenC.but2 h.pen k e2 e3 h.n1.symm e4, hb, ⟨ws, k _ _ o1 e5 e6, k _ _ o2 h.n3.symm e7, o3.imp fun _ _ z => z.firm f⟩, h.n1, h.n2, h.n3, h.n4⟩
theorem Al.ow (h : Al K B H p c m b gl sd o g2 n gs hs) (k : ∀ d u, H d = some u → d ≠ g2 → H' d = some u) (f : Firm H H') (ho : OwnB K H' o g2 n hs') : Al K B H' p c m b gl sd o g2 n gs hs' := by
  obtain ⟨e1, e2, e3, e4, e5, e6, e7, e8, e9⟩ := h.ne
  obtain ⟨dx, ws, kvs, h1, h2, h3, h4, h5⟩ := h.bld
  refine ⟨PenC.but2 (x := g2) (y := g2) h.pen (fun d u e n1 _ => k d u e n1) e1.symm e1.symm h.n2.symm h.n2.symm, ⟨dx, ws, kvs, k _ _ h1 e8, k _ _ h2 h.n3, h3.imp fun _ _ z => z.firm f, k _ _ h4 e7.symm, h5⟩, ho, h.n1, h.n2, h.n3, h.n4⟩
theorem Al.fur (h : Al K B H p c m b gl sd o g2 n gs hs) (k : ∀ d u, H d = some u → d ≠ p → d ≠ gl → d ≠ sd → H' d = some u) (f : Firm H H') (P : PenC H' p c m') (hb : BAt K B H' b gl sd n gs') : Al K B H' p c m' b gl sd o g2 n gs' hs := by
  obtain ⟨e1, e2, e3, e4, e5, e6, e7, e8, e9⟩ := h.ne
  obtain ⟨ws, o1, o2, o3⟩ := h.own
  exact ⟨P, hb, ⟨ws, k _ _ o1 h.n4 e5 e6, k _ _ o2 e1 h.n3.symm e7, o3.imp fun _ _ z => z.firm f⟩, h.n1, h.n2, h.n3, h.n4⟩
end
theorem led_in {n : Nat} {gs : List (Int × Int)} {ls : List Int} (hl : ∀ z ∈ ls, InN n gs z) (a : Int) : InN n gs (ledL ls a) := by
  have g0 : InN n gs (ls.getD (a / 2).toNat 0) := by
    rw [List.getD_eq_getElem?_getD]
    cases e : ls[(a / 2).toNat]? with
    | none => exact ⟨Int.le_refl _, by show (0 : Int) ≤ _; omega⟩
    | some u => exact hl _ (List.mem_of_getElem? e)
  unfold ledL
  split
  · obtain ⟨x, y⟩ := g0
    unfold InN flp
    omega
  · exact g0
def spLaw (K : PySem.W.Frag) : Sp := fun vs H Q _ => ∃ (a : Addr) (ns : List Int), vs = [.ref a] ∧ SqL K H a (ns.map V.int) ∧ ns.length ≤ 63 ∧ ∀ H', Q (.bl true) H'
section
variable {P : Program} {w : World} {K : PySem.W.Frag} {mg : Str → Option Value} {base : Heap} {f B C fA fG : Addr} {fd dA dG : FuncData}
abbrev nLaw : List Str := ["_law_script", "_law_pen_here", "_law_lap", "_law_leaves", "_law_builder", "_law_own", "_law_turn", "_law_one", "_law_other", "_law_held", "_law_many", "_law_gates", "_law_put", "_law_asked", "_law_told", "_law_rows_here", "_law_stood"]
theorem scLaw : FnScope nLaw ["_law_script"] (defScope sLaw) := ⟨rfl, rfl, rfl, by decide +kernel, rfl, by decide +kernel, by decide +kernel⟩
theorem ok_law (F : FnP K "law" sLaw f fd) (T : Tx K mg C B fA fG)
    (GA : FnOk P w K mg base CX0 1 fA dA ["self", "one", "other"] (spAnd K B)) (bA : Binds K dA ["self", "one", "other"] []) (GG : FnOk P w K mg base CX0 6 fG dG ["self"] (spBGraph K C B)) (bG : Binds K dG ["self"] [])
    {fP fD fL fK fF fO fS fW fU fN fH fV : Addr} {dP dD dL dK dF dO dS dW dU dN dH dV : FuncData}
    (GP : FnOk P w K mg base CX0 1 fP dP ["_law_script"] (spPen K)) (gP : mg "_law_pen" = some (.ref fP)) (kP : PySem.W.keepIn K (.ref fP) = true) (bP : Binds K dP ["_law_script"] [])
    (GD : FnOk P w K mg base CX0 1 fD dD ["_law_pen_here", "_law_many"] (spDraw)) (gD : mg "_law_draw" = some (.ref fD)) (kD : PySem.W.keepIn K (.ref fD) = true) (bD : Binds K dD ["_law_pen_here", "_law_many"] [])
    (GL : FnOk P w K mg base CX0 2 fL dL ["_law_pen_here", "_law_nodes", "_law_many"] (spLits)) (gL : mg "_law_literals" = some (.ref fL)) (kL : PySem.W.keepIn K (.ref fL) = true) (bL : Binds K dL ["_law_pen_here", "_law_nodes", "_law_many"] [])
    (GK : FnOk P w K mg base CX0 2 fK dK ["_law_pen_here", "_law_some"] (spPick K)) (gK : mg "_law_pick" = some (.ref fK)) (kK : PySem.W.keepIn K (.ref fK) = true) (bK : Binds K dK ["_law_pen_here", "_law_some"] [])
    (GF : FnOk P w K mg base CX0 1 fF dF ["_law_literal"] (spFlip)) (gF : mg "_law_flip" = some (.ref fF)) (kF : PySem.W.keepIn K (.ref fF) = true) (bF : Binds K dF ["_law_literal"] [])
    (GO : FnOk P w K mg base CX0 2 fO dO ["_law_own", "_law_one", "_law_other"] (spOwnAnd K)) (gO : mg "_law_own_and" = some (.ref fO)) (kO : PySem.W.keepIn K (.ref fO) = true) (bO : Binds K dO ["_law_own", "_law_one", "_law_other"] [])
    (GS : FnOk P w K mg base CX0 7 fS dS ["_law_builder", "_law_own"] (spSame K B)) (gS : mg "_law_same" = some (.ref fS)) (kS : PySem.W.keepIn K (.ref fS) = true) (bS : Binds K dS ["_law_builder", "_law_own"] [])
    (GW : FnOk P w K mg base CX0 2 fW dW ["_law_pen_here", "_law_leaves", "_law_many"] (spDrawn K)) (gW : mg "_law_drawn_gates" = some (.ref fW)) (kW : PySem.W.keepIn K (.ref fW) = true) (bW : Binds K dW ["_law_pen_here", "_law_leaves", "_law_many"] [])
    (GU : FnOk P w K mg base CX0 2 fU dU ["builder", "graph", "leaves", "literals"] (spPut K C B)) (gU : mg "put_into" = some (.ref fU)) (kU : PySem.W.keepIn K (.ref fU) = true) (bU : Binds K dU ["builder", "graph", "leaves", "literals"] [])
    (GN : FnOk P w K mg base CX0 3 fN dN ["_law_own", "_law_gates", "_law_leaves", "_law_literals_here"] (spOwnPut K)) (gN : mg "_law_own_put" = some (.ref fN)) (kN : PySem.W.keepIn K (.ref fN) = true) (bN : Binds K dN ["_law_own", "_law_gates", "_law_leaves", "_law_literals_here"] [])
    (GH : FnOk P w K mg base CX0 7 fH dH ["_law_pen_here", "_law_builder", "_law_leaves"] (spFurther K B)) (gH : mg "_law_further" = some (.ref fH)) (kH : PySem.W.keepIn K (.ref fH) = true) (bH : Binds K dH ["_law_pen_here", "_law_builder", "_law_leaves"] [])
    (GV : FnOk P w K mg base CX0 8 fV dV ["_law_builder", "_law_leaves", "_law_rows_here"] (spRight K B)) (gV : mg "_law_valued_right" = some (.ref fV)) (kV : PySem.W.keepIn K (.ref fV) = true) (bV : Binds K dV ["_law_builder", "_law_leaves", "_law_rows_here"] [])
    {fB fI : Addr} {dB dI : FuncData} (MB : Mk K B fB) (GB : FnOk P w K mg base CX0 3 fB dB ["self", "leaves"] (spBInit K B)) (gB : mg "Builder" = some (.ref B)) (bB : Binds K dB ["self", "leaves"] [])
    (MI : Mk K C fI) (GI : FnOk P w K mg base CX0 4 fI dI ["self", "leaves", "gates"] (spInit K C)) (gI : mg "Graph" = some (.ref C)) (bI : Binds K dI ["self", "leaves", "gates"] []) :
    FnG P w K mg base CX0 9 f fd ["_law_script"] (spLaw K) := by
  refine FnG.mk_of F scLaw (fun vs H Q E h => ?_) (fun cdv A outer s H vs Q E hg hr h => ?_)
  · obtain ⟨a, ns, rfl, _⟩ := h
    rfl
  · obtain ⟨a, ns, rfl, hS, hl, q⟩ := h
    have hu := hu_of hr
    refine ⟨_, PSs.nox (pss_cons (ps_set (i := 1) scLaw.nd rfl (Or.inl rfl) (pe_call GP (hr.mono (by decide)) (by rfl) gP kP bP .nil pass0 (pa_cons (pv 0) pa_nil)))
      (pss_cons (ps_for PassesOwn.never rfl (pi_range1 (by rfl) T.tw.lf.range (pa_cons pe_int pa_nil)) (pg_name (i := 2) scLaw.nd rfl (Or.inl rfl))
        (pss_cons (ps_set (i := 3) scLaw.nd rfl (Or.inl rfl) (pe_call GD (hr.mono (by decide)) (by rfl) gD kD bD .nil pass0 (pa_cons (pv 1) (pa_cons pe_int pa_nil))))
        (pss_cons (ps_par (i := 4) (j := 5) rfl scLaw.nd rfl rfl (by decide) rfl rfl (pa_cons (pe_make MB GB (hr.mono (by decide)) (by rfl) gB bB .nil pass0 (pa_cons (pv 3) pa_nil)) (pa_cons (pe_disp (pps_cons pe_str (pv 3) (pps_cons pe_str (pe_lst pa_nil) pps_nil)) (by rfl) (by rfl) (fun z => by cases z) (by decide)) pa_nil)) (by rfl))
        (pss_cons (ps_for PassesOwn.never rfl (pi_range1 (by rfl) T.tw.lf.range (pa_cons (pe_call GD (hr.mono (by decide)) (by rfl) gD kD bD .nil pass0 (pa_cons (pv 1) (pa_cons pe_int pa_nil))) pa_nil)) (pg_name (i := 6) scLaw.nd rfl (Or.inl rfl))
          (pss_cons (ps_asg (pe_call GL (hr.mono (by decide)) (by rfl) gL kL bL .nil pass0 (pa_cons (pv 1) (pa_cons (pe_op op_add (pe_op op_add pe_int (pv 3)) (pe_callB call_len_seq (by rfl) T.tw.gr.ki.len PySem.boot_len (pa_cons (pe_dget hu (pv 5) pe_str (fun _ _ => rfl)) pa_nil))) (pa_cons pe_int pa_nil)))) (pg_tup rfl (pgs_cons (pg_name (i := 7) scLaw.nd rfl (Or.inl rfl)) (pgs_cons (pg_name (i := 8) scLaw.nd rfl (Or.inl rfl)) pgs_nil))))
          (pss_cons (ps_set (i := 8) scLaw.nd rfl (Or.inl rfl) (pe_call GK (hr.mono (by decide)) (by rfl) gK kK bK .nil pass0 (pa_cons (pv 1) (pa_cons (pe_lst (pa_cons (pv 8) (pa_cons (pv 8) (pa_cons (pv 8) (pa_cons (pv 7) (pa_cons (pe_call GF (hr.mono (by decide)) (by rfl) gF kF bF .nil pass0 (pa_cons (pv 7) pa_nil)) (pa_cons (pe_call GD (hr.mono (by decide)) (by rfl) gD kD bD .nil pass0 (pa_cons (pv 1) (pa_cons pe_int pa_nil))) pa_nil))))))) pa_nil))))
          (C8.pss_cut (ps_if (PW.pt (pw_and (pt_cmpR (op_neD hr.units) (pe_dget hu (pv 5) pe_str (fun _ _ => rfl)) (pe_lst pa_nil) (nomark _)) (pw_and1 (pt_cmpR op_eq (pe_call GD (hr.mono (by decide)) (by rfl) gD kD bD .nil pass0 (pa_cons (pv 1) (pa_cons pe_int pa_nil))) pe_int (nomark _)))))
            (pss_one (ps_asg (pe_call GK (hr.mono (by decide)) (by rfl) gK kK bK .nil pass0 (pa_cons (pv 1) (pa_cons (pe_dget hu (pv 5) pe_str (fun _ _ => rfl)) pa_nil))) (pg_tup rfl (pgs_cons (pg_name (i := 8) scLaw.nd rfl (Or.inl rfl)) (pgs_cons (pg_name (i := 7) scLaw.nd rfl (Or.inl rfl)) pgs_nil)))))
            pss_nil)
          (pss_one (ps_if (pt_cmpR op_ne (pe_meth (pv 4) T.tw.ty.t.cl T.tw.ty.me GA (hr.mono (by decide)) bA .nil pass0 (pa_cons (pv 7) (pa_cons (pv 8) pa_nil))) (pe_call GO (hr.mono (by decide)) (by rfl) gO kO bO .nil pass0 (pa_cons (pv 5) (pa_cons (pv 7) (pa_cons (pv 8) pa_nil)))) (nomark _))
            (pss_one (ps_ret pe_bl))
            pss_nil))))))
        (pss_cons (ps_if (pt_not (pt_val (pe_call GS (hr.mono (by decide)) (by rfl) gS kS bS .nil pass0 (pa_cons (pv 4) (pa_cons (pv 5) pa_nil)))))
          (pss_one (ps_ret pe_bl))
          pss_nil)
        (pss_cons (ps_set (i := 9) scLaw.nd rfl (Or.inl rfl) (pe_meth0 (pv 4) T.tw.ty.t.cl T.tw.mG GG (hr.mono (by decide)) bG .nil pass0))
        (pss_cons (ps_set (i := 10) scLaw.nd rfl (Or.inl rfl) (pe_call GD (hr.mono (by decide)) (by rfl) gD kD bD .nil pass0 (pa_cons (pv 1) (pa_cons pe_int pa_nil))))
        (pss_cons (ps_set (i := 11) scLaw.nd rfl (Or.inl rfl) (pe_call GW (hr.mono (by decide)) (by rfl) gW kW bW .nil pass0 (pa_cons (pv 1) (pa_cons (pv 10) (pa_cons (pe_call GD (hr.mono (by decide)) (by rfl) gD kD bD .nil pass0 (pa_cons (pv 1) (pa_cons pe_int pa_nil))) pa_nil)))))
        (pss_cons (ps_set (i := 12) scLaw.nd rfl (Or.inl rfl) (pe_call GL (hr.mono (by decide)) (by rfl) gL kL bL .nil pass0 (pa_cons (pv 1) (pa_cons (pe_op op_add (pe_op op_add pe_int (pv 3)) (pe_callB call_len_seq (by rfl) T.tw.gr.ki.len PySem.boot_len (pa_cons (pe_dget hu (pv 5) pe_str (fun _ _ => rfl)) pa_nil))) (pa_cons (pv 10) pa_nil)))))
        (pss_cons (ps_set (i := 13) scLaw.nd rfl (Or.inl rfl) (pe_call GL (hr.mono (by decide)) (by rfl) gL kL bL .nil pass0 (pa_cons (pv 1) (pa_cons (pe_op op_add (pe_op op_add pe_int (pv 10)) (pe_callB call_len_seq (by rfl) T.tw.gr.ki.len PySem.boot_len (pa_cons (pv 11) pa_nil))) (pa_cons pe_int pa_nil)))))
        (pss_cons (ps_set (i := 14) scLaw.nd rfl (Or.inl rfl) (pe_call GU (hr.mono (by decide)) (by rfl) gU kU bU .nil pass0 (pa_cons (pv 4) (pa_cons (pe_make MI GI (hr.mono (by decide)) (by rfl) gI bI .nil pass0 (pa_cons (pv 10) (pa_cons (pv 11) pa_nil))) (pa_cons (pe_call GK (hr.mono (by decide)) (by rfl) gK kK bK .nil pass0 (pa_cons (pv 1) (pa_cons (pe_lst (pa_cons (pv 12) (pa_cons (pe_callTy call_list_of (by rfl) T.tw.gr.ki.list (by decide +kernel) (pa_cons (pv 12) pa_nil)) pa_nil))) pa_nil))) (pa_cons (pv 13) pa_nil))))))
        (pss_cons (ps_if (PW.pt (pw_or (pt_cmpR op_ne (pe_callB (Gv.call_reprV hg hr) (by rfl) T.rep (by decide +kernel) (pa_cons (pv 14) pa_nil)) (pe_callB (Gv.call_reprV hg hr) (by rfl) T.rep (by decide +kernel) (pa_cons (pe_call GN (hr.mono (by decide)) (by rfl) gN kN bN .nil pass0 (pa_cons (pv 5) (pa_cons (pv 11) (pa_cons (pv 12) (pa_cons (pv 13) pa_nil))))) pa_nil)) (nomark _)) (pw_or1 (pt_not (pt_val (pe_call GS (hr.mono (by decide)) (by rfl) gS kS bS .nil pass0 (pa_cons (pv 4) (pa_cons (pv 5) pa_nil))))))))
          (pss_one (ps_ret pe_bl))
          pss_nil)
        (pss_cons (ps_set (i := 15) scLaw.nd rfl (Or.inl rfl) (pe_call GH (hr.mono (by decide)) (by rfl) gH kH bH .nil pass0 (pa_cons (pv 1) (pa_cons (pv 4) (pa_cons (pv 3) pa_nil)))))
        (pss_cons (ps_set (i := 16) scLaw.nd rfl (Or.inl rfl) (pe_slice sl_tupA (pe_fld (pe_meth0 (pv 4) T.tw.ty.t.cl T.tw.mG GG (hr.mono (by decide)) bG .nil pass0) rfl) po_none (po_some (pe_callB call_len_seq (by rfl) T.tw.gr.ki.len PySem.boot_len (pa_cons (pe_dget hu (pv 5) pe_str (fun _ _ => rfl)) pa_nil)))))
        (pss_cons (ps_if (PW.pt (pw_or (pt_cmpR (op_neD hr.units) (pv 16) (pe_callTy (T := "tuple") (r := rTupOf K) (by exact call_tuple_of) (by rfl) T.tw.gr.ki.tuple (by decide +kernel) (pa_cons (pe_dget hu (pv 5) pe_str (fun _ _ => rfl)) pa_nil)) (nomark _)) (pw_or1 (pt_not (pt_val (pe_call GV (hr.mono (by decide)) (by rfl) gV kV bV .nil pass0 (pa_cons (pv 4) (pa_cons (pv 3) (pa_cons (pv 15) pa_nil)))))))))
          (pss_one (ps_ret pe_bl))
          pss_nil)
        (pss_one (ps_if (pt_cmpR (op_neD hr.units) (pe_fld (pv 9) rfl) (pe_slice sl_tupA (pe_callTy (T := "tuple") (r := rTupOf K) (by exact call_tuple_of) (by rfl) T.tw.gr.ki.tuple (by decide +kernel) (pa_cons (pe_dget hu (pv 5) pe_str (fun _ _ => rfl)) pa_nil)) po_none (po_some (pe_callB call_len_seq (by rfl) T.tw.gr.ki.len PySem.boot_len (pa_cons (pe_fld (pv 9) rfl) pa_nil)))) (nomark _))
          (pss_one (ps_ret pe_bl))
          pss_nil)))))))))))))))))
      (pss_one (ps_ret pe_bl)))), ?_⟩
    refine ⟨_, rfl, a, ns, rfl, hS, hl, fun p c H1 np s1 P1 => ?_⟩
    refine ⟨2, rfl, by decide, by decide, for_range (lo := 0) (n := 2)
      (fun k σ H2 => ∃ (x2 x3 x4 x5 x6 x7 x8 x9 x10 x11 x12 x13 x14 x15 x16 : Option V), σ = [some (.ref a), some (.ref p), x2, x3, x4, x5, x6, x7, x8, x9, x10, x11, x12, x13, x14, x15, x16] ∧ PenC H2 p c (400 * k))
      ⟨none, none, none, none, none, none, none, none, none, none, none, none, none, none, none, rfl, P1⟩ ?_ ?_⟩
    · rintro k σ H2 hk ⟨x2, x3, x4, x5, x6, x7, x8, x9, x10, x11, x12, x13, x14, x15, x16, rfl, P2⟩
      refine ⟨_, rfl, p, c, _, 6, rfl, P2, by omega, by decide, by decide, fun n' H3 n0 n6 P3 B3 => ?_⟩
      obtain ⟨n, rfl⟩ := Int.eq_ofNat_of_zero_le n0
      have n5 : n ≤ 5 := by omega
      refine ⟨_, rfl, fun x dx nx nd _ => ⟨x, dx, n, rfl, upd_same, n0, fun H4 gl sd k4 hB hgl hsd => ⟨rfl, ?_⟩⟩⟩
      have hc3 : ∃ u, H3 c = some u := by
        obtain ⟨ns, _, _, _, _, _, h2, _⟩ := P3
        exact ⟨_, h2⟩
      have hp3 : ∃ u, H3 p = some u := by
        obtain ⟨ns, _, _, _, _, h1, _, _⟩ := P3
        exact ⟨_, h1⟩
      have s34 : Same H3 H4 := fun d u e => by
        have nxd := ne_of_none e nx
        refine k4 d u ?_ nxd
        rw [upd_ne nxd, upd_ne (ne_of_none e nd)]
        exact e
      have ngc : gl ≠ c := fun e => by
        obtain ⟨u, hu⟩ := hc3
        rw [e, upd_ne (ne_of_none hu nx), upd_ne (ne_of_none hu nd), hu] at hgl
        cases hgl
      intro o no
      refine ⟨_, rfl, (by show 0 ≤ sizeLine; decide), fun g2 ng2 => ?_⟩
      have ngo : g2 ≠ o := fun e => by
        rw [e, upd_same] at ng2
        cases ng2
      have ng4 : H4 g2 = none := by
        rw [upd_ne ngo] at ng2
        exact ng2
      refine ⟨by rw [upd_ne ngo.symm, upd_same], oD n g2, rfl, (by show 2 ≤ 15; decide), _, _, rfl, ?_⟩
      have s45 : Same H4 (upd (upd (upd H4 o (.dK [])) g2 (.lst [])) o (.dK (mergeK [] (oD n g2)))) := fun d u e => by
        rw [upd_ne (ne_of_none e no), upd_ne (ne_of_none e ng4), upd_ne (ne_of_none e no)]
        exact e
      have A5 : Al K B (upd (upd (upd H4 o (.dK [])) g2 (.lst [])) o (.dK (mergeK [] (oD n g2)))) p c (400 * k + 1) x gl sd o g2 n [] [] := by
        refine ⟨(P3.same s34).same s45, BAt.same hB s45, ⟨[], upd_same, ?_, .nil⟩, ngc, ?_, ?_, ?_⟩
        · rw [upd_ne ngo, upd_same]
        · obtain ⟨u, hu⟩ := hc3
          exact fun e => by
            rw [e, s34 _ _ hu] at ng4
            cases ng4
        · obtain ⟨_, _, _, _, h2, _⟩ := hB
          exact fun e => by
            rw [← e, h2] at ng4
            cases ng4
        · obtain ⟨u, hu⟩ := hp3
          exact fun e => by
            rw [e, s34 _ _ hu] at no
            cases no
      generalize (upd (upd (upd H4 o (.dK [])) g2 (.lst [])) o (.dK (mergeK [] (oD n g2)))) = H5 at A5 ⊢
      clear s45 s34 hB k4 hgl hsd ng2 ng4 ngo no ngc hc3 hp3 P3 B3 P2 nx nd
      have hz4 : okG (2 * (n : Int) + 1) [] = true := rfl
      refine ⟨_, rfl, p, c, _, 41, rfl, A5.pen, by omega, by decide, by decide, fun m6 H6 m60 m6b P6 B6 => ⟨m6, rfl, by omega, by omega, for_range (lo := 0) (n := m6.toNat)
        (fun i σ H7 => ∃ (y6 y7 y8 : Option V) (gs : List (Int × Int)), σ = [some (.ref a), some (.ref p), some (.int (0 + (k : Int))), some (.int n), some (.ref x), some (.ref o), y6, y7, y8, x9, x10, x11, x12, x13, x14, x15, x16] ∧
          Al K B H7 p c (400 * k + 2 + 6 * i) x gl sd o g2 n gs gs ∧ okG (2 * (n : Int) + 1) gs = true ∧ gs.length ≤ i)
        ⟨_, _, _, [], rfl, A5.draw B6 P6, hz4, Nat.le_refl _⟩ ?_ ?_⟩⟩
      · rintro i σ H7 hi ⟨y6, y7, y8, gs, rfl, A7, ok7, gl7⟩
        have i40 : i < 40 := by omega
        obtain ⟨ws, ho, hg2, ha⟩ := id A7.own
        refine ⟨_, rfl, _, rfl, _, _, rfl, rfl, _, rfl, o, _, rfl, od_gates ho, g2, ws, rfl, .inl (SqL.of hg2), _, _, rfl, rfl, ?_⟩
        rw [ha.len]
        refine ⟨p, c, _, _, 2, rfl, A7.pen, by omega, by omega, by omega, by decide, by decide, fun H8 t ls P8 B8 len8 in8 ht8 => ?_⟩
        obtain ⟨e1, e2, rfl⟩ := two len8
        refine ⟨t, _, rfl, SqT.of ht8, rfl, _, _, rfl, _, _, rfl, rfl, ?_⟩
        have A8 := A7.draw B8 P8
        have inN : ∀ y ∈ [e1, e2], InN n gs y := fun y hy => by
          obtain ⟨y0, y1⟩ := in8 y hy
          exact ⟨y0, by omega⟩
        have N1 := inN e1 (by simp)
        have N2 := inN e2 (by simp)
        clear inN in8 len8 ht8 P8 B8 A7 ho hg2 ha
        refine ⟨_, rfl, _, rfl, _, rfl, _, rfl, _, rfl, _, rfl, e1, rfl, _, rfl, p, c, _, 2, rfl, A8.pen, ?_, by decide, by decide, fun d H9 d0 d2 P9 B9 => ⟨(by show 6 ≤ sizeLine; decide), fun l nl => ?_⟩⟩
        · show 400 * k + 2 + 6 * i + (2 : Int).toNat ≤ _
          omega
        have sl := same_new (u := .lst [V.int e2, V.int e2, V.int e2, V.int e1, V.int (flp e1), V.int d]) nl
        have A10 := (A8.draw B9 P9).same sl
        have nlp := (P9.free nl).1
        refine ⟨p, c, l, _, _, rfl, A10.pen, ?_, nlp, SqL.of upd_same, (by show 0 < 6; decide), (by show 6 ≤ 1000; decide), fun v e H11 hv P11 B11 => ?_⟩
        · show 400 * k + 2 + 6 * i + (2 : Int).toNat + 1 ≤ _
          omega
        have A11 := A10.draw B11 P11
        have hy : ∃ y : Int, v = .int y ∧ InN n gs y := by
          match e, hv with
          | 0, hv => exact ⟨e2, (Option.some.inj hv).symm, N2⟩
          | 1, hv => exact ⟨e2, (Option.some.inj hv).symm, N2⟩
          | 2, hv => exact ⟨e2, (Option.some.inj hv).symm, N2⟩
          | 3, hv => exact ⟨e1, (Option.some.inj hv).symm, N1⟩
          | 4, hv => exact ⟨flp e1, (Option.some.inj hv).symm, by
              obtain ⟨a0, a1⟩ := N1
              unfold InN flp
              omega⟩
          | 5, hv => exact ⟨d, (Option.some.inj hv).symm, by
              unfold InN
              omega⟩
          | e + 6, hv => cases hv
        obtain ⟨y, rfl, Ny⟩ := hy
        have A11 := A11.more (m' := 400 * k + 2 + 6 * i + 4) (by show 400 * k + 2 + 6 * i + (2 : Int).toNat + 1 + 1 ≤ _; omega)
        clear A8 A10 P9 B9 P11 B11 sl nl nlp hv
        refine ⟨fun σ H12 => ∃ (u z : Int), σ = [some (.ref a), some (.ref p), some (.int (0 + (k : Int))), some (.int n), some (.ref x), some (.ref o), some (.int (0 + (i : Int))), some (.int u), some (.int z), x9, x10, x11, x12, x13, x14, x15, x16] ∧
          Al K B H12 p c (400 * k + 2 + 6 * i + 6) x gl sd o g2 n gs gs ∧ InN n gs u ∧ InN n gs z, ?_, ?_⟩
        · obtain ⟨ws, ho, hg2, ha⟩ := id A11.own
          refine ⟨_, rfl, o, _, rfl, od_gates ho, (by show 0 ≤ sizeLine; decide), fun l2 nl2 => ?_⟩
          have s2 := same_new (u := .lst []) nl2
          refine ⟨_, _, .lst (SqL.of (s2 _ _ hg2)) (pts_dp (ha.imp fun _ _ h => h.firm (Firm.of s2))), .lst (SqL.of upd_same) .nil, shaped_lD gs, (by rfl), _, rfl, ?_⟩
          have A12 := A11.same s2
          generalize upd H11 l2 (.lst []) = H12 at A12 ⊢
          clear s2 nl2 ho hg2 ha A11
          refine ite2 (fun c1 => ?_) (fun c1 => ?_)
          · have gpos : 0 < gs.length := by
              cases gs with
              | nil => exact absurd c1 (by decide)
              | cons _ _ => exact Nat.succ_pos _
            refine ⟨_, rfl, p, c, _, 4, rfl, A12.pen, by omega, by decide, by decide, fun d H13 d0 d4 P13 B13 => ?_⟩
            have A13 := A12.draw B13 P13
            refine ⟨rfl, _, rfl, ?_⟩
            refine ite2 (fun c2 => ?_) (fun c2 => ?_)
            · obtain ⟨ws, ho, hg2, ha⟩ := id A13.own
              refine ⟨_, rfl, _, rfl, o, _, rfl, od_gates ho, p, c, g2, _, ws, rfl, A13.pen, by omega, A13.ne.1, SqL.of hg2, by rw [ha.len]; exact gpos, by rw [ha.len]; omega, fun v e H14 hv P14 B14 => ?_⟩
              obtain ⟨pr, hpr, q0, rfl, hq⟩ := ha.get hv
              obtain ⟨⟨p0, p1⟩, r0, r1⟩ := okG_at ok7 hpr
              have he : e < gs.length := (List.getElem?_eq_some_iff.mp hpr).1
              refine ⟨q0, _, rfl, firm_seq (Firm.pen B14 P13) hq, rfl, _, _, rfl, _, _, rfl, rfl, ?_⟩
              exact ⟨_, _, rfl, A13.draw B14 P14, ⟨r0, by omega⟩, ⟨p0, by omega⟩⟩
            · exact ⟨_, _, rfl, A13.more (by omega), N1, Ny⟩
          · exact ⟨_, _, rfl, A12.more (by omega), N1, Ny⟩
        · rintro σ H12 ⟨u, z, rfl, A12, Nu, Nz⟩
          obtain ⟨dx2, ws2, kvs2, hb2, _⟩ := id A12.bld
          refine ⟨_, rfl, x, dx2, _, rfl, hb2, lk _ _ _, _, rfl, _, rfl, x, gl, sd, n, u, z, gs, rfl, A12.bld, by omega, Nu.1, Nz.1, fun H13 k13 f13 B13 => ?_⟩
          have A13 := A12.bl k13 f13 B13
          refine ⟨_, rfl, _, rfl, _, rfl, o, g2, n, u, z, gs, rfl, A13.own, by omega, Nu.1, Nz.1, fun H14 k14 f14 O14 => ?_⟩
          have A14 := A13.ow k14 f14 O14
          obtain ⟨g0, g1, _⟩ := and_g0 ok7 Nu Nz
          have al := andM_len (n : Int) gs u z
          refine ⟨rfl, _, rfl, iteNS rfl ⟨_, _, _, _, rfl, ?_, g0, by omega⟩⟩
          have e6 : 400 * k + 2 + 6 * i + 6 = 400 * k + 2 + 6 * (i + 1) := by omega
          rw [← e6]
          exact A14
      · rintro σ H7 ⟨y6, y7, y8, gs, rfl, A7, ok7, gl7⟩
        have A7 := A7.more (m' := 400 * k + 250) (by omega)
        have gl7 : gs.length ≤ 40 := by omega
        clear A5 P6 B6
        obtain ⟨dx0, ws0, kvs0, hb0, _⟩ := id A7.bld
        refine ⟨_, rfl, _, rfl, x, gl, sd, o, g2, n, gs, rfl, A7.bld, A7.own, n0, by omega, ok7, fun H8 s8 => ⟨_, rfl, iteF ?_⟩⟩
        have A8 := A7.same s8
        refine ⟨_, rfl, x, dx0, _, rfl, s8 _ _ hb0, lkG _ _ _, x, gl, sd, n, gs, rfl, A8.bld, n0, by omega, ok7, fun H9 xh s9 G9 => ?_⟩
        have A9 := A8.same s9
        clear A7 A8 s8 hb0 s9
        refine ⟨_, rfl, p, c, _, 5, rfl, A9.pen, by omega, by decide, by decide, fun m' H10 m0 m5 P10 B10 => ?_⟩
        obtain ⟨m, rfl⟩ := Int.eq_ofNat_of_zero_le m0
        have A10 := A9.draw B10 P10
        have G10 := G9.firm (Firm.pen B10 A9.pen)
        refine ⟨_, rfl, _, rfl, _, rfl, p, c, _, 9, rfl, A10.pen, by omega, by decide, by decide, fun e H11 e0 e9 P11 B11 => ?_⟩
        have A11 := A10.draw B11 P11
        have G11 := G10.firm (Firm.pen B11 A10.pen)
        refine ⟨p, c, _, m, e, rfl, P11, by omega, m0, by omega, e0, by omega, fun H12 g hs P12 B12 T12 okh lenh => ?_⟩
        have A12 := A11.draw B12 P12
        have G12 := G11.firm (Firm.pen B12 A11.pen)
        have lenh8 : hs.length ≤ 8 := by omega
        have A12 := A12.more (m' := 400 * k + 270) (by omega)
        clear A9 A10 A11 G9 G10 G11 P10 P11 P12 B10 B11 B12
        obtain ⟨ws, ho, hg2, ha⟩ := id A12.own
        -- put
        refine ⟨_, rfl, _, rfl, _, _, rfl, rfl, _, rfl, o, _, rfl, od_gates ho, g2, ws, rfl, .inl (SqL.of hg2), _, _, rfl, rfl, ?_⟩
        rw [ha.len]
        refine ⟨_, rfl, p, c, _, _, (m : Int), rfl, A12.pen, by omega, by omega, by omega, m0, by omega, fun H13 t1 ls P13 B13 len13 in13 ht1 => ?_⟩
        have A13 := A12.draw B13 P13
        have f13 := Firm.pen B13 A12.pen
        have G13 := G12.firm f13
        have T13 := T12.firm f13
        have lsm : ls.length = m := by omega
        clear A12 G12 T12 ho hg2 ha P13 B13
        -- asked
        obtain ⟨ps, hgp, hap⟩ := id T13
        refine ⟨_, rfl, _, rfl, _, _, rfl, rfl, _, rfl, g, ps, rfl, .inr hgp, _, _, rfl, rfl, ?_⟩
        rw [hap.len]
        refine ⟨p, c, _, _, 4, rfl, A13.pen, by omega, by omega, by omega, by decide, by decide, fun H14 t2 as P14 B14 len14 in14 ht2 => ?_⟩
        have A14 := A13.draw B14 P14
        have f14 := Firm.pen B14 A13.pen
        have G14 := G13.firm f14
        have T14 := T13.firm f14
        have ht1 := f14 _ _ ht1 rfl
        have A14 := A14.more (m' := 400 * k + 290) (by show 400 * k + 270 + (m : Int).toNat + (4 : Int).toNat ≤ _; omega)
        clear A13 G13 T13 hgp hap P14 B14 f13 f14
        -- told
        refine ⟨_, rfl, _, rfl, _, rfl, fun x2 dx2 nx2 nd2 _ => mk_use nx2 nd2 m0 T14.row (by omega) okh fun H15 s15 I15 => ⟨rfl, ?_⟩⟩
        have A15 := A14.same s15
        have G15 := G14.firm (Firm.of s15)
        have T15 := T14.firm (Firm.of s15)
        have ht1 := s15 _ _ ht1
        have ht2 := s15 _ _ ht2
        clear A14 G14 T14 nx2 nd2
        refine ⟨_, rfl, _, rfl, _, rfl, t1, _, rfl, .inr (SqT.of ht1), fun l1 nl1 => ⟨(by show 2 ≤ sizeLine; decide), fun l2 nl2 => ?_⟩⟩
        have sa := same_new (u := .lst (ls.map V.int)) nl1
        have hl1 := upd_same (H := H15) (a := l1) (o := .lst (ls.map V.int))
        generalize upd H15 l1 (.lst (ls.map V.int)) = H16 at sa hl1 nl2 ⊢
        have sb := same_new (u := .lst [V.ref t1, V.ref l1]) nl2
        have hl2 := upd_same (H := H16) (a := l2) (o := .lst [V.ref t1, V.ref l1])
        have nlp := ((A15.pen.same sa).free nl2).1
        generalize upd H16 l2 (.lst [V.ref t1, V.ref l1]) = H17 at sb hl2 ⊢
        have s17 := sa.trans sb
        have A17 := A15.same s17
        have pl1 : l1 ≠ p := (A15.pen.free nl1).1
        refine ⟨p, c, l2, _, _, rfl, A17.pen, by omega, nlp, SqL.of hl2, (by show 0 < 2; decide), (by show 2 ≤ 1000; decide), fun v ei H18 hv P18 B18 => ?_⟩
        have A18 := A17.draw B18 P18
        have f18 := (Firm.of s17).trans (Firm.pen B18 A17.pen)
        have hvs : SeqI K H18 v ls := by
          match ei, hv with
          | 0, hv => exact ⟨t1, (Option.some.inj hv).symm, .inr (SqT.of (f18 _ _ ht1 rfl))⟩
          | 1, hv => exact ⟨l1, (Option.some.inj hv).symm, .inl (SqL.of (B18 _ _ (sb _ _ hl1) pl1))⟩
          | ei + 2, hv => cases hv
        have G18 := G15.firm f18
        have T18 := T15.firm f18
        have I18 := I15.firm f18
        have ht1 := f18 _ _ ht1 rfl
        have ht2 := f18 _ _ ht2 rfl
        clear A15 A17 G15 T15 I15 sa sb hl1 hl2 nl1 nl2 s17 P18 B18 pl1 nlp hv f18
        have nn : ∀ z ∈ ls, 0 ≤ z := fun z hz => (in13 z hz).1
        have inl : ∀ z ∈ ls, InN n gs z := fun z hz => by
          obtain ⟨a0, a1⟩ := in13 z hz
          exact ⟨a0, by omega⟩
        have has : ∀ z ∈ as, 0 ≤ z ∧ (z / 2).toNat < 1 + m + hs.length := fun z hz => by
          obtain ⟨a0, a1⟩ := in14 z hz
          exact ⟨a0, by omega⟩
        have asl : as.length ≤ 1000 := by
          rw [len14]
          decide
        obtain ⟨u1, u2, u3, u4⟩ := put_ok (n := n) hs (gs := gs) (ls := 0 :: ls) ok7 (fun z hz => by
          rcases List.mem_cons.mp hz with rfl | hz
          · exact ⟨Int.le_refl _, by show (0 : Int) ≤ _; omega⟩
          · exact inl z hz)
        have ep : putM (n : Int) gs ls hs = hs.foldl (putStep n) (gs, 0 :: ls) := rfl
        rw [← ep] at u1 u2 u3 u4
        refine ⟨_, rfl, x, gl, sd, x2, t2, v, n, m, gs, hs, ls, as, rfl, A18.bld, I18, hvs, SqT.of ht2, n0, lsm, by omega, by omega, nn, okh, has, asl, fun H19 t3 k19 f19 B19 ht3 => ?_⟩
        have A19 := A18.bl k19 f19 B19
        have G19 := G18.firm f19
        have T19 := T18.firm f19
        have ht1 := f19 _ _ ht1 rfl
        have ht2 := f19 _ _ ht2 rfl
        clear A18 G18 T18 I18 hvs k19 f19 B19 ep
        -- the same by the law's own
        have sm : ∀ z ∈ as.map (ledL (putM n gs ls hs).2), Rp.Small z := fun z hz => by
          obtain ⟨y, _, rfl⟩ := List.mem_map.mp hz
          obtain ⟨a0, a1⟩ := led_in u3 y
          exact ⟨a0, by omega⟩
        have rok := Rp.row_ok sm (by rw [List.length_map]; exact asl)
        refine ⟨_, rfl, .ref t3, _, rfl, .tup (SqT.of ht3) (ints_dp _), rok.show_, rok.dict, rok.deep, rok.long, ?_⟩
        refine ⟨_, rfl, _, rfl, _, rfl, _, rfl, o, g2, g, t1, t2, n, m, gs, hs, ls, as, rfl, A19.own, T19, SqT.of ht1, SqT.of ht2, n0, lsm, by omega, by omega, nn, okh, has, asl, fun H20 t4 k20 f20 O20 ht4 => ?_⟩
        have A20 := A19.ow k20 f20 O20
        have G20 := G19.firm f20
        refine ⟨.ref t4, _, rfl, .tup (SqT.of ht4) (ints_dp _), rok.show_, rok.dict, rok.deep, rok.long, rfl, _, rfl, iteNS rfl ?_⟩
        clear A19 G19 T19 k20 f20 O20 sm rok ht3 ht4 ht1 ht2 has nn inl in13 in14
        generalize (putM (n : Int) gs ls hs).1 = gs1 at A20 u1 u2 u3 u4
        clear u3
        have gl1 : gs1.length ≤ 48 := by omega
        refine ⟨_, rfl, _, rfl, x, gl, sd, o, g2, n, gs1, rfl, A20.bld, A20.own, n0, by omega, u1, fun H21 s21 => ⟨_, rfl, iteF ?_⟩⟩
        have A21 := A20.same s21
        have G21 := G20.firm (Firm.of s21)
        clear A20 G20 s21
        -- further
        refine ⟨_, rfl, _, rfl, _, rfl, p, c, x, gl, sd, _, n, gs1, rfl, A21.pen, by omega, A21.n1, A21.bld, by omega, by omega, u1, fun H22 l3 gs2 wr rs k22 f22 P22 B22 e22 len22 ok22 hl3 a3 good => ?_⟩
        have A22 := A21.fur k22 f22 P22 B22
        have G22 := G21.firm f22
        clear A21 G21 k22 f22 P22 B22
        obtain ⟨dx3, ws3, kvs3, hb3, _⟩ := id A22.bld
        refine ⟨_, rfl, x, dx3, _, rfl, hb3, lkG _ _ _, x, gl, sd, n, gs2, rfl, A22.bld, n0, by omega, ok22, fun H23 x3 s23 G23 => ?_⟩
        obtain ⟨dg, gg, q1, qs, hgg, hag⟩ := id G23
        have A23 := A22.same s23
        have Gh23 := G22.firm (Firm.of s23)
        have hl3 := s23 _ _ hl3
        have a3 := a3.imp fun _ _ h => TAt.firm (Firm.of s23) h
        obtain ⟨wo, ho, hg2, ha⟩ := id A23.own
        refine ⟨x3, C, dg, _, _, rfl, q1, T.tw.gr.cl, T.tw.gr.nG, flds_G _ _, _, rfl, o, _, rfl, od_gates ho, g2, wo, rfl, .inl (SqL.of hg2), _, rfl, cut_any (K := K) (m := gs1.length) (by rw [ha.len]) hgg (by
          rw [hag.len]
          obtain ⟨ts, e⟩ := e22
          rw [e, List.length_append]
          omega) fun t5 H24 s24 ht5 => ?_⟩
        have A24 := A23.same s24
        have Gh24 := Gh23.firm (Firm.of s24)
        have hl3 := s24 _ _ hl3
        have a3 := a3.imp fun _ _ h => TAt.firm (Firm.of s24) h
        have hag24 := (hag.imp fun _ _ h => h.firm (Firm.of s24)).take gs1.length
        have etk : gs2.take gs1.length = gs1 := by
          obtain ⟨ts, e⟩ := e22
          rw [e, List.take_left]
        rw [etk] at hag24
        clear A22 A23 G22 Gh23 hb3 hgg hag G23 q1 ho hg2 ha s23 s24
        obtain ⟨wo, ho, hg2, ha⟩ := id A24.own
        refine ⟨_, rfl, _, rfl, o, _, rfl, od_gates ho, g2, wo, rfl, .inl ⟨SqL.of hg2, fun t6 nt6 => ?_⟩⟩
        have s25 := same_new (u := .tup wo) nt6
        have A25 := A24.same s25
        have Gh25 := Gh24.firm (Firm.of s25)
        have hl3 := s25 _ _ hl3
        have a3 := a3.imp fun _ _ h => TAt.firm (Firm.of s25) h
        have e0 : (!PyData.eqv (Fi.gD gs1) (Fi.gD gs1)) = false := by
          rw [SeqAt.eqv_refl (Fi.gD gs1) (can_pD gs1)]
          rfl
        refine ⟨Fi.gD gs1, Fi.gD gs1, .tup (seqT_same s25 ht5) (pts_dp (hag24.imp fun _ _ h => h.firm (Firm.of s25))), .tup (SqT.of upd_same) (pts_dp (ha.imp fun _ _ h => h.firm (Firm.of s25))), shaped_gD gs1, shaped_gD gs1, _, rfl, ifF e0 ?_⟩
        generalize upd H24 t6 (.tup wo) = H25 at A25 Gh25 hl3 a3 ⊢
        clear A24 Gh24 hag24 ht5 ho hg2 ha s25 nt6
        refine ⟨_, rfl, _, rfl, _, rfl, x, gl, sd, l3, n, gs2, wr, rs, rfl, A25.bld, by omega, by omega, ok22, hl3, a3, good, fun H26 s26 => ⟨_, rfl, iteF ?_⟩⟩
        have A26 := A25.same s26
        have Gh26 := Gh25.firm (Firm.of s26)
        clear A25 Gh25 hl3 a3 s26
        -- what was held
        obtain ⟨dh, gh, h1, hps, hgh, hah⟩ := id Gh26
        obtain ⟨wo, ho, hg2, ha⟩ := id A26.own
        refine ⟨_, rfl, xh, C, dh, _, _, rfl, h1, T.tw.gr.cl, T.tw.gr.nG, flds_G _ _, ?_⟩
        refine ⟨_, rfl, o, _, rfl, od_gates ho, g2, wo, rfl, .inl ⟨SqL.of hg2, fun t7 nt7 => ?_⟩⟩
        have s27 := same_new (u := .tup wo) nt7
        obtain ⟨ts2, e2⟩ := u2
        have lgs : gs.length ≤ gs1.length := by
          rw [e2, List.length_append]
          omega
        refine ⟨_, rfl, xh, C, dh, _, _, rfl, s27 _ _ h1, T.tw.gr.cl, T.tw.gr.nG, flds_G _ _, gh, hps, rfl, .inr (seqT_same s27 hgh), _, rfl, cut_any (K := K) (m := gs.length) (by rw [hah.len]) (SqT.of upd_same) (by rw [ha.len]; exact lgs) fun t8 H28 s28 ht8 => ?_⟩
        have s2728 := s27.trans s28
        have etk2 : gs1.take gs.length = gs := by
          rw [e2, List.take_left]
        have ha28 := (ha.imp fun _ _ h => h.firm (Firm.of s2728)).take gs.length
        rw [etk2] at ha28
        have e9 : (!PyData.eqv (Fi.gD gs) (Fi.gD gs)) = false := by
          rw [SeqAt.eqv_refl (Fi.gD gs) (can_pD gs)]
          rfl
        refine ⟨Fi.gD gs, Fi.gD gs, .tup (seqT_same s2728 hgh) (pts_dp (hah.imp fun _ _ h => h.firm (Firm.of s2728))), .tup ht8 (pts_dp ha28), shaped_gD gs, shaped_gD gs, _, rfl, ifF e9 ?_⟩
        exact ⟨_, _, _, _, _, _, _, _, _, _, _, _, _, _, _, rfl, (A26.pen.same s2728).more (by omega)⟩
    · rintro σ H2 ⟨x2, x3, x4, x5, x6, x7, x8, x9, x10, x11, x12, x13, x14, x15, x16, rfl, P2⟩
      exact q _
end
end Bz
namespace E16
open PySem PySem.Spec PyProof.Rows L2 Pen Dat Ki Fi Gr No Lf Bd Be Bf Bg Bo Bw Bx By Bz Gd He
def ds_is_between : DefD := ⟨("is_between", none), "is_between", "is_between", defArgs sBetween, defBody sBetween, defScope sBetween, [], []⟩
def ds_is_from : DefD := ⟨("is_from", none), "is_from", "is_from", defArgs sFrom, defBody sFrom, defScope sFrom, [], []⟩
def ds_is_row : DefD := ⟨("is_row", none), "is_row", "is_row", defArgs sRow, defBody sRow, defScope sRow, [], []⟩
def ds_is_row_between : DefD := ⟨("is_row_between", none), "is_row_between", "is_row_between", defArgs sRowB, defBody sRowB, defScope sRowB, [], []⟩
def ds_need_leaves : DefD := ⟨("need_leaves", none), "need_leaves", "need_leaves", defArgs sNeed, defBody sNeed, defScope sNeed, [], []⟩
def ds_are_gates : DefD := ⟨("are_gates", none), "are_gates", "are_gates", defArgs sGates, defBody sGates, defScope sGates, [], []⟩
def ds_or_of : DefD := ⟨("or_of", none), "or_of", "or_of", defArgs sOr, defBody sOr, defScope sOr, [], []⟩
def ds_xor_of : DefD := ⟨("xor_of", none), "xor_of", "xor_of", defArgs sXorB, defBody sXorB, defScope sXorB, [], []⟩
def ds_choice_of : DefD := ⟨("choice_of", none), "choice_of", "choice_of", defArgs sChoice, defBody sChoice, defScope sChoice, [], []⟩
def ds_literal_in : DefD := ⟨("literal_in", none), "literal_in", "literal_in", defArgs sLitIn, defBody sLitIn, defScope sLitIn, [], []⟩
def ds_put_into : DefD := ⟨("put_into", none), "put_into", "put_into", defArgs sPut, defBody sPut, defScope sPut, [], []⟩
def ds__law_pen : DefD := ⟨("_law_pen", none), "_law_pen", "_law_pen", defArgs sPen, defBody sPen, defScope sPen, [], []⟩
def ds__law_draw : DefD := ⟨("_law_draw", none), "_law_draw", "_law_draw", defArgs sDraw, defBody sDraw, defScope sDraw, [], []⟩
def ds__law_pick : DefD := ⟨("_law_pick", none), "_law_pick", "_law_pick", defArgs sPick, defBody sPick, defScope sPick, [], []⟩
def ds__law_is_whole : DefD := ⟨("_law_is_whole", none), "_law_is_whole", "_law_is_whole", defArgs sWhole, defBody sWhole, defScope sWhole, [], []⟩
def ds__law_drawn_gates : DefD := ⟨("_law_drawn_gates", none), "_law_drawn_gates", "_law_drawn_gates", defArgs sDrawn, defBody sDrawn, defScope sDrawn, [], []⟩
def ds__law_values : DefD := ⟨("_law_values", none), "_law_values", "_law_values", defArgs sValues, defBody sValues, defScope sValues, [], []⟩
def ds__law_bit : DefD := ⟨("_law_bit", none), "_law_bit", "_law_bit", defArgs sBit, defBody sBit, defScope sBit, [], []⟩
def ds__law_flip : DefD := ⟨("_law_flip", none), "_law_flip", "_law_flip", defArgs sFlip, defBody sFlip, defScope sFlip, [], []⟩
def ds__law_longer : DefD := ⟨("_law_longer", none), "_law_longer", "_law_longer", defArgs sLonger, defBody sLonger, defScope sLonger, [], []⟩
def ds__law_rows : DefD := ⟨("_law_rows", none), "_law_rows", "_law_rows", defArgs sRows, defBody sRows, defScope sRows, [], []⟩
def ds__law_gates_of : DefD := ⟨("_law_gates_of", none), "_law_gates_of", "_law_gates_of", defArgs sGatesOf, defBody sGatesOf, defScope sGatesOf, [], []⟩
def ds__law_told_values : DefD := ⟨("_law_told_values", none), "_law_told_values", "_law_told_values", defArgs sTold, defBody sTold, defScope sTold, [], []⟩
def ds__law_are_literals : DefD := ⟨("_law_are_literals", none), "_law_are_literals", "_law_are_literals", defArgs sAreLits, defBody sAreLits, defScope sAreLits, [], []⟩
def ds__law_own_and : DefD := ⟨("_law_own_and", none), "_law_own_and", "_law_own_and", defArgs sOwnAnd, defBody sOwnAnd, defScope sOwnAnd, [], []⟩
def ds__law_led : DefD := ⟨("_law_led", none), "_law_led", "_law_led", defArgs sLed, defBody sLed, defScope sLed, [], []⟩
def ds__law_own_put : DefD := ⟨("_law_own_put", none), "_law_own_put", "_law_own_put", defArgs sOwnPut, defBody sOwnPut, defScope sOwnPut, [], []⟩
def ds__law_literals : DefD := ⟨("_law_literals", none), "_law_literals", "_law_literals", defArgs sLits, defBody sLits, defScope sLits, [], []⟩
def ds__law_same : DefD := ⟨("_law_same", none), "_law_same", "_law_same", defArgs sSame, defBody sSame, defScope sSame, [], []⟩
def ds__law_valued_right : DefD := ⟨("_law_valued_right", none), "_law_valued_right", "_law_valued_right", defArgs sRight, defBody sRight, defScope sRight, [], []⟩
def ds__law_further : DefD := ⟨("_law_further", none), "_law_further", "_law_further", defArgs sFurther, defBody sFurther, defScope sFurther, [], []⟩
def ds_law : DefD := ⟨("law", none), "law", "law", defArgs sLaw, defBody sLaw, defScope sLaw, [], []⟩
def di_Graph___init__ : DefD := ⟨("Graph", some "__init__"), "__init__", "Graph.__init__", defArgs sInit, defBody sInit, defScope sInit, [], []⟩
def di_Builder___init__ : DefD := ⟨("Builder", some "__init__"), "__init__", "Builder.__init__", defArgs sBInit, defBody sBInit, defScope sBInit, [], []⟩
def di_Builder_graph : DefD := ⟨("Builder", some "graph"), "graph", "Builder.graph", defArgs sBGraph, defBody sBGraph, defScope sBGraph, [], []⟩
def di_Builder_and_of : DefD := ⟨("Builder", some "and_of"), "and_of", "Builder.and_of", defArgs sAnd, defBody sAnd, defScope sAnd, [], []⟩
def fn : List DefD := [ds_is_between, ds_is_from, ds_is_row, ds_is_row_between, ds_need_leaves, ds_are_gates, ds_or_of, ds_xor_of, ds_choice_of, ds_literal_in, ds_put_into, ds__law_pen, ds__law_draw, ds__law_pick, ds__law_is_whole, ds__law_drawn_gates, ds__law_values, ds__law_bit, ds__law_flip, ds__law_longer, ds__law_rows, ds__law_gates_of, ds__law_told_values, ds__law_are_literals, ds__law_own_and, ds__law_led, ds__law_own_put, ds__law_literals, ds__law_same, ds__law_valued_right, ds__law_further, ds_law, di_Graph___init__, di_Builder___init__, di_Builder_graph, di_Builder_and_of]
def fa : List Fa := [.glo "is_between", .glo "is_from", .glo "is_row", .glo "is_row_between", .glo "need_leaves", .glo "are_gates", .glo "or_of", .glo "xor_of", .glo "choice_of", .glo "literal_in", .glo "put_into", .glo "_law_pen", .glo "_law_draw", .glo "_law_pick", .glo "_law_is_whole", .glo "_law_drawn_gates", .glo "_law_values", .glo "_law_bit", .glo "_law_flip", .glo "_law_longer", .glo "_law_rows", .glo "_law_gates_of", .glo "_law_told_values", .glo "_law_are_literals", .glo "_law_own_and", .glo "_law_led", .glo "_law_own_put", .glo "_law_literals", .glo "_law_same", .glo "_law_valued_right", .glo "_law_further", .glo "law", .glo "Graph", .glo "Builder", .free "isinstance", .free "int", .free "bool", .free "tuple", .free "list", .free "len", .free "all", .free "abs", .free "range", .free "repr", .free "min", .free "max", .cls "Graph", .mkr "Graph", .noat "Graph" "leaves", .noat "Graph" "gates", .cls "Builder", .mkr "Builder", .noat "Builder" "leaves", .noat "Builder" "gates", .noat "Builder" "standing", .meth "Builder" "and_of", .meth "Builder" "graph"]
abbrev cGraph (K : PySem.W.Frag) : Addr := ga K "Graph"
abbrev cBuilder (K : PySem.W.Frag) : Addr := ga K "Builder"
def exB (K : PySem.W.Frag) : Bool := (decide (PySem.W.findIn K (.ref (cGraph K)) "__class__" = some (some (.builtin "object.__class__"))) && (decide (PySem.W.specialIn K (.builtin "object.__class__") "__get__" = some (some (.builtin "getset_descriptor.__get__"))) && (decide (PySem.W.takesIn K (.builtin "object.__class__") = some true) && (decide (PySem.W.mroIn K (cGraph K) (.type "object") = some true) && (decide (PySem.W.kitOne K (.ref (cGraph K)) (.ref (cGraph K)) = some true) && (decide (PySem.W.kitOne K (.type "tuple") (.ref (cGraph K)) = some false) && true))))))
abbrev R : PySem.W.OpenRow := PySem.W.OpenLaw.row PySem.Challenge.rw_everycycle_k16_whole_builders
abbrev hk : PySem.W.Hook := hookX 6 fa fn [] [] exB
def ob (s : PySem.W.SharedT) : AlX := obsX 6 fa fn [] [] exB (HandSHeadRun.getT s)
theorem ob_eq (s : PySem.W.SharedT) : ob s = hk.obs s.abs := obsX_eq (HandSHeadRun.getT_eq s)
theorem run (w : World) : HandSHeadRun.RunEq R (PySem.W.view R.prog [40]) hk ob 4000 [("CycleError" : PySem.Str), ("BadNumber" : PySem.Str), ("BadRow" : PySem.Str), ("is_between" : PySem.Str), ("is_from" : PySem.Str), ("is_row" : PySem.Str), ("is_row_between" : PySem.Str), ("Graph" : PySem.Str), ("need_leaves" : PySem.Str), ("are_gates" : PySem.Str), ("Builder" : PySem.Str), ("or_of" : PySem.Str), ("xor_of" : PySem.Str), ("choice_of" : PySem.Str), ("literal_in" : PySem.Str), ("put_into" : PySem.Str), ("_law_pen" : PySem.Str), ("_law_draw" : PySem.Str), ("_law_pick" : PySem.Str), ("_law_is_whole" : PySem.Str), ("_law_drawn_gates" : PySem.Str), ("_law_values" : PySem.Str), ("_law_bit" : PySem.Str), ("_law_flip" : PySem.Str), ("_law_longer" : PySem.Str), ("_law_rows" : PySem.Str), ("_law_gates_of" : PySem.Str), ("_law_told_values" : PySem.Str), ("_law_are_literals" : PySem.Str), ("_law_own_and" : PySem.Str), ("_law_led" : PySem.Str), ("_law_own_put" : PySem.Str), ("_law_literals" : PySem.Str), ("_law_same" : PySem.Str), ("_law_valued_right" : PySem.Str), ("_law_further" : PySem.Str)] w := by
  intro os
  kernel_rfl
theorem and2 {a b : Bool} (h : (a && b) = true) : a = true ∧ b = true := Bool.and_eq_true_iff.mp h
theorem facts {P : Program} {w : World} {K : PySem.W.Frag} {h : Heap} {mg : Str → Option Value} {f : Addr} (X : K.In h) (G : h.Ns mainGlobals mg) (hfa : mg ("law" : Str) = some (.ref f)) (c : SaysX fa fn [] [] exB w h K) :
    ∃ fd : FuncData, (∀ (s : Shared) (v : Value), BindsTo s fd ⟨[v], []⟩ [("_law_script", v)]) ∧ ∀ base : Heap, K.In base → base.Ns mainGlobals mg → FnG P w K mg base CX0 9 f fd ["_law_script"] (Bz.spLaw K) := by
  have cd := c.t.d
  obtain ⟨fd0, F0⟩ := cd.def_ 0 (d := ds_is_between) rfl
  obtain ⟨fd1, F1⟩ := cd.def_ 1 (d := ds_is_from) rfl
  obtain ⟨fd2, F2⟩ := cd.def_ 2 (d := ds_is_row) rfl
  obtain ⟨fd3, F3⟩ := cd.def_ 3 (d := ds_is_row_between) rfl
  obtain ⟨fd4, F4⟩ := cd.def_ 4 (d := ds_need_leaves) rfl
  obtain ⟨fd5, F5⟩ := cd.def_ 5 (d := ds_are_gates) rfl
  obtain ⟨fd6, F6⟩ := cd.def_ 6 (d := ds_or_of) rfl
  obtain ⟨fd7, F7⟩ := cd.def_ 7 (d := ds_xor_of) rfl
  obtain ⟨fd8, F8⟩ := cd.def_ 8 (d := ds_choice_of) rfl
  obtain ⟨fd9, F9⟩ := cd.def_ 9 (d := ds_literal_in) rfl
  obtain ⟨fd10, F10⟩ := cd.def_ 10 (d := ds_put_into) rfl
  obtain ⟨fd11, F11⟩ := cd.def_ 11 (d := ds__law_pen) rfl
  obtain ⟨fd12, F12⟩ := cd.def_ 12 (d := ds__law_draw) rfl
  obtain ⟨fd13, F13⟩ := cd.def_ 13 (d := ds__law_pick) rfl
  obtain ⟨fd14, F14⟩ := cd.def_ 14 (d := ds__law_is_whole) rfl
  obtain ⟨fd15, F15⟩ := cd.def_ 15 (d := ds__law_drawn_gates) rfl
  obtain ⟨fd16, F16⟩ := cd.def_ 16 (d := ds__law_values) rfl
  obtain ⟨fd17, F17⟩ := cd.def_ 17 (d := ds__law_bit) rfl
  obtain ⟨fd18, F18⟩ := cd.def_ 18 (d := ds__law_flip) rfl
  obtain ⟨fd19, F19⟩ := cd.def_ 19 (d := ds__law_longer) rfl
  obtain ⟨fd20, F20⟩ := cd.def_ 20 (d := ds__law_rows) rfl
  obtain ⟨fd21, F21⟩ := cd.def_ 21 (d := ds__law_gates_of) rfl
  obtain ⟨fd22, F22⟩ := cd.def_ 22 (d := ds__law_told_values) rfl
  obtain ⟨fd23, F23⟩ := cd.def_ 23 (d := ds__law_are_literals) rfl
  obtain ⟨fd24, F24⟩ := cd.def_ 24 (d := ds__law_own_and) rfl
  obtain ⟨fd25, F25⟩ := cd.def_ 25 (d := ds__law_led) rfl
  obtain ⟨fd26, F26⟩ := cd.def_ 26 (d := ds__law_own_put) rfl
  obtain ⟨fd27, F27⟩ := cd.def_ 27 (d := ds__law_literals) rfl
  obtain ⟨fd28, F28⟩ := cd.def_ 28 (d := ds__law_same) rfl
  obtain ⟨fd29, F29⟩ := cd.def_ 29 (d := ds__law_valued_right) rfl
  obtain ⟨fd30, F30⟩ := cd.def_ 30 (d := ds__law_further) rfl
  obtain ⟨fd31, F31⟩ := cd.def_ 31 (d := ds_law) rfl
  obtain ⟨fd32, F32⟩ := cd.def_ 32 (d := di_Graph___init__) rfl
  obtain ⟨fd33, F33⟩ := cd.def_ 33 (d := di_Builder___init__) rfl
  obtain ⟨fd34, F34⟩ := cd.def_ 34 (d := di_Builder_graph) rfl
  obtain ⟨fd35, F35⟩ := cd.def_ 35 (d := di_Builder_and_of) rfl
  have glo : ∀ i x, fa[i]? = some (Fa.glo x) → mg x = some (.ref (ga K x)) := fun i x e => glo_ok X G (cd.fact i e)
  have fre : ∀ i x, fa[i]? = some (Fa.free x) → mg x = none := fun i x e => free_ok X G (cd.fact i e)
  have e := hfa.symm.trans (glo 31 "law" rfl)
  cases e
  have b0 : Binds K fd0 ["value", "least", "most"] [] := F0.bindsN fun _ _ _ _ _ _ us hl => match us, hl with | [_, _, _], _ => rfl
  have b1 : Binds K fd1 ["value", "least"] [] := F1.bindsN fun _ _ _ _ _ _ us hl => match us, hl with | [_, _], _ => rfl
  have b2 : Binds K fd2 ["value"] [] := F2.bindsN fun _ _ _ _ _ _ us hl => match us, hl with | [_], _ => rfl
  have b3 : Binds K fd3 ["value", "many", "least", "most"] [] := F3.bindsN fun _ _ _ _ _ _ us hl => match us, hl with | [_, _, _, _], _ => rfl
  have b4 : Binds K fd4 ["leaves"] [] := F4.bindsN fun _ _ _ _ _ _ us hl => match us, hl with | [_], _ => rfl
  have b5 : Binds K fd5 ["leaves", "value"] [] := F5.bindsN fun _ _ _ _ _ _ us hl => match us, hl with | [_, _], _ => rfl
  have b6 : Binds K fd6 ["builder", "one", "other"] [] := F6.bindsN fun _ _ _ _ _ _ us hl => match us, hl with | [_, _, _], _ => rfl
  have b7 : Binds K fd7 ["builder", "one", "other"] [] := F7.bindsN fun _ _ _ _ _ _ us hl => match us, hl with | [_, _, _], _ => rfl
  have b8 : Binds K fd8 ["builder", "c", "one", "other"] [] := F8.bindsN fun _ _ _ _ _ _ us hl => match us, hl with | [_, _, _, _], _ => rfl
  have b9 : Binds K fd9 ["places", "literal"] [] := F9.bindsN fun _ _ _ _ _ _ us hl => match us, hl with | [_, _], _ => rfl
  have b10 : Binds K fd10 ["builder", "graph", "leaves", "literals"] [] := F10.bindsN fun _ _ _ _ _ _ us hl => match us, hl with | [_, _, _, _], _ => rfl
  have b11 : Binds K fd11 ["_law_script"] [] := F11.bindsN fun _ _ _ _ _ _ us hl => match us, hl with | [_], _ => rfl
  have b12 : Binds K fd12 ["_law_pen_here", "_law_many"] [] := F12.bindsN fun _ _ _ _ _ _ us hl => match us, hl with | [_, _], _ => rfl
  have b13 : Binds K fd13 ["_law_pen_here", "_law_some"] [] := F13.bindsN fun _ _ _ _ _ _ us hl => match us, hl with | [_, _], _ => rfl
  have b14 : Binds K fd14 ["_law_thing"] [] := F14.bindsN fun _ _ _ _ _ _ us hl => match us, hl with | [_], _ => rfl
  have b15 : Binds K fd15 ["_law_pen_here", "_law_leaves", "_law_many"] [] := F15.bindsN fun _ _ _ _ _ _ us hl => match us, hl with | [_, _, _], _ => rfl
  have b16 : Binds K fd16 ["_law_leaves", "_law_gates", "_law_bits"] [] := F16.bindsN fun _ _ _ _ _ _ us hl => match us, hl with | [_, _, _], _ => rfl
  have b17 : Binds K fd17 ["_law_found", "_law_literal"] [] := F17.bindsN fun _ _ _ _ _ _ us hl => match us, hl with | [_, _], _ => rfl
  have b18 : Binds K fd18 ["_law_literal"] [] := F18.bindsN fun _ _ _ _ _ _ us hl => match us, hl with | [_], _ => rfl
  have b19 : Binds K fd19 ["_law_rows_here", "_law_many"] [] := F19.bindsN fun _ _ _ _ _ _ us hl => match us, hl with | [_, _], _ => rfl
  have b20 : Binds K fd20 ["_law_many"] [] := F20.bindsN fun _ _ _ _ _ _ us hl => match us, hl with | [_], _ => rfl
  have b21 : Binds K fd21 ["_law_graph"] [] := F21.bindsN fun _ _ _ _ _ _ us hl => match us, hl with | [_], _ => rfl
  have b22 : Binds K fd22 ["_law_builder", "_law_leaves", "_law_bits"] [] := F22.bindsN fun _ _ _ _ _ _ us hl => match us, hl with | [_, _, _], _ => rfl
  have b23 : Binds K fd23 ["_law_word", "_law_found"] [] := F23.bindsN fun _ _ _ _ _ _ us hl => match us, hl with | [_, _], _ => rfl
  have b24 : Binds K fd24 ["_law_own", "_law_one", "_law_other"] [] := F24.bindsN fun _ _ _ _ _ _ us hl => match us, hl with | [_, _, _], _ => rfl
  have b25 : Binds K fd25 ["_law_table", "_law_literal"] [] := F25.bindsN fun _ _ _ _ _ _ us hl => match us, hl with | [_, _], _ => rfl
  have b26 : Binds K fd26 ["_law_own", "_law_gates", "_law_leaves", "_law_literals_here"] [] := F26.bindsN fun _ _ _ _ _ _ us hl => match us, hl with | [_, _, _, _], _ => rfl
  have b27 : Binds K fd27 ["_law_pen_here", "_law_nodes", "_law_many"] [] := F27.bindsN fun _ _ _ _ _ _ us hl => match us, hl with | [_, _, _], _ => rfl
  have b28 : Binds K fd28 ["_law_builder", "_law_own"] [] := F28.bindsN fun _ _ _ _ _ _ us hl => match us, hl with | [_, _], _ => rfl
  have b29 : Binds K fd29 ["_law_builder", "_law_leaves", "_law_rows_here"] [] := F29.bindsN fun _ _ _ _ _ _ us hl => match us, hl with | [_, _, _], _ => rfl
  have b30 : Binds K fd30 ["_law_pen_here", "_law_builder", "_law_leaves"] [] := F30.bindsN fun _ _ _ _ _ _ us hl => match us, hl with | [_, _, _], _ => rfl
  have b32 : Binds K fd32 ["self", "leaves", "gates"] [] := F32.bindsN fun _ _ _ _ _ _ us hl => match us, hl with | [_, _, _], _ => rfl
  have b33 : Binds K fd33 ["self", "leaves"] [] := F33.bindsN fun _ _ _ _ _ _ us hl => match us, hl with | [_, _], _ => rfl
  have b34 : Binds K fd34 ["self"] [] := F34.bindsN fun _ _ _ _ _ _ us hl => match us, hl with | [_], _ => rfl
  have b35 : Binds K fd35 ["self", "one", "other"] [] := F35.bindsN fun _ _ _ _ _ _ us hl => match us, hl with | [_, _, _], _ => rfl
  have b := FunD.bindsA (ps := ["_law_script"]) F31 fun _ _ _ _ _ _ us hl => match us, hl with | [_], _ => rfl
  have g0 := glo 0 "is_between" rfl
  have g1 := glo 1 "is_from" rfl
  have g2 := glo 2 "is_row" rfl
  have g3 := glo 3 "is_row_between" rfl
  have g4 := glo 4 "need_leaves" rfl
  have g5 := glo 5 "are_gates" rfl
  have g6 := glo 6 "or_of" rfl
  have g7 := glo 7 "xor_of" rfl
  have g8 := glo 8 "choice_of" rfl
  have g9 := glo 9 "literal_in" rfl
  have g10 := glo 10 "put_into" rfl
  have g11 := glo 11 "_law_pen" rfl
  have g12 := glo 12 "_law_draw" rfl
  have g13 := glo 13 "_law_pick" rfl
  have g14 := glo 14 "_law_is_whole" rfl
  have g15 := glo 15 "_law_drawn_gates" rfl
  have g16 := glo 16 "_law_values" rfl
  have g17 := glo 17 "_law_bit" rfl
  have g18 := glo 18 "_law_flip" rfl
  have g19 := glo 19 "_law_longer" rfl
  have g20 := glo 20 "_law_rows" rfl
  have g21 := glo 21 "_law_gates_of" rfl
  have g22 := glo 22 "_law_told_values" rfl
  have g23 := glo 23 "_law_are_literals" rfl
  have g24 := glo 24 "_law_own_and" rfl
  have g25 := glo 25 "_law_led" rfl
  have g26 := glo 26 "_law_own_put" rfl
  have g27 := glo 27 "_law_literals" rfl
  have g28 := glo 28 "_law_same" rfl
  have g29 := glo 29 "_law_valued_right" rfl
  have g30 := glo 30 "_law_further" rfl
  have g31 := glo 31 "law" rfl
  have gGraph := glo 32 "Graph" rfl
  have gBuilder := glo 33 "Builder" rfl
  have z_isinstance := fre 34 "isinstance" rfl
  have z_int := fre 35 "int" rfl
  have z_bool := fre 36 "bool" rfl
  have z_tuple := fre 37 "tuple" rfl
  have z_list := fre 38 "list" rfl
  have z_len := fre 39 "len" rfl
  have z_all := fre 40 "all" rfl
  have z_abs := fre 41 "abs" rfl
  have z_range := fre 42 "range" rfl
  have z_repr := fre 43 "repr" rfl
  have z_min := fre 44 "min" rfl
  have z_max := fre 45 "max" rfl
  have clGraph := cls_ok (cd.fact 46 (f := .cls "Graph") rfl)
  have mkGraph := mkr_ok (cd.fact 47 (f := .mkr "Graph") rfl)
  have nGraph_leaves := noat_ok (cd.fact 48 (f := .noat "Graph" "leaves") rfl)
  have nGraph_gates := noat_ok (cd.fact 49 (f := .noat "Graph" "gates") rfl)
  have clBuilder := cls_ok (cd.fact 50 (f := .cls "Builder") rfl)
  have mkBuilder := mkr_ok (cd.fact 51 (f := .mkr "Builder") rfl)
  have nBuilder_leaves := noat_ok (cd.fact 52 (f := .noat "Builder" "leaves") rfl)
  have nBuilder_gates := noat_ok (cd.fact 53 (f := .noat "Builder" "gates") rfl)
  have nBuilder_standing := noat_ok (cd.fact 54 (f := .noat "Builder" "standing") rfl)
  have meBuilder_and_of := meth_ok (cd.fact 55 (f := .meth "Builder" "and_of") rfl)
  have meBuilder_graph := meth_ok (cd.fact 56 (f := .meth "Builder" "graph") rfl)
  have r0 := c.more
  obtain ⟨q0, r1⟩ := and2 r0
  have e1 := of_decide_eq_true q0
  obtain ⟨q1, r2⟩ := and2 r1
  have e2 := of_decide_eq_true q1
  obtain ⟨q2, r3⟩ := and2 r2
  have e3 := of_decide_eq_true q2
  obtain ⟨q3, r4⟩ := and2 r3
  have e4 := of_decide_eq_true q3
  obtain ⟨q4, r5⟩ := and2 r4
  have e5 := of_decide_eq_true q4
  obtain ⟨q5, r6⟩ := and2 r5
  have e6 := of_decide_eq_true q5
  have ki : Ki.Tx mg := ⟨z_isinstance, z_int, z_bool, z_tuple, z_list, z_len, z_all⟩
  have pt : Pen.Txt mg := ⟨z_len, z_int, z_list⟩
  have lf : Lf.Tx mg := ⟨pt, z_abs, z_range, z_tuple⟩
  have tg : Gr.Tx K mg (cGraph K) := ⟨ki, clGraph, nGraph_leaves, nGraph_gates, gGraph, e1, e2, e3, fun e => .ins e clGraph e1 e2 e3 e4, e5, e6⟩
  have tB : Bd.Tx K mg (cBuilder K) := ⟨ki, clBuilder, nBuilder_leaves, nBuilder_gates, nBuilder_standing⟩
  have tY : Be.Ty K mg (cBuilder K) _ := ⟨tB, meBuilder_and_of⟩
  have tz : Bo.Tz mg := ⟨z_min, z_max, z_int⟩
  have tw : Bw.Tw K mg (cGraph K) (cBuilder K) _ _ := ⟨tg, lf, tY, meBuilder_graph, tz⟩
  have T : Bz.Tx K mg (cGraph K) (cBuilder K) _ _ := ⟨tw, z_repr⟩
  refine ⟨fd31, fun s v => b s [v] rfl, fun base _ _ => ?_⟩
  have G3 : FnOk P w K mg base CX0 _ _ _ _ _ := ok_rowB F3 ki F0 g0 F2 g2
  have G4 : FnOk P w K mg base CX0 _ _ _ _ _ := ok_need F4 ki F1 g1
  have G5 : FnOk P w K mg base CX0 _ _ _ _ _ := ok_gates F5 ki F2 g2 F3 g3 F0 g0
  have G32 : FnOk P w K mg base CX0 _ _ _ _ _ := ok_init F32 tg G4 g4 F4.kp b4 G5 g5 F5.kp b5
  have G33 : FnOk P w K mg base CX0 _ _ _ _ _ := ok_binit F33 tB G4 g4 F4.kp b4
  have G34 : FnOk P w K mg base CX0 _ _ _ _ _ := ok_bgraph F34 tB tg mkGraph G32 b32
  have G35 : FnOk P w K mg base CX0 _ _ _ _ _ := ok_and F35 tB
  have G6 : FnOk P w K mg base CX0 _ _ _ _ _ := ok_or F6 tY G35 b35
  have G7 : FnOk P w K mg base CX0 _ _ _ _ _ := ok_xorB F7 tY G35 b35
  have G8 : FnOk P w K mg base CX0 _ _ _ _ _ := ok_choice F8 tY G35 b35 F6 g6
  have G10 : FnOk P w K mg base CX0 _ _ _ _ _ := ok_put F10 tY tg G35 b35 F9 g9
  have G11 : FnOk P w K mg base CX0 _ _ _ _ _ := ok_pen F11 pt
  have G12 : FnOk P w K mg base CX0 _ _ _ _ _ := ok_draw F12 pt
  have G13 : FnOk P w K mg base CX0 _ _ _ _ _ := ok_pick F13 pt F12 g12
  have G14 : FnOk P w K mg base CX0 _ _ _ _ _ := ok_whole F14 ki
  have G15 : FnOk P w K mg base CX0 _ _ _ _ _ := ok_drawn F15 lf F12 g12
  have G16 : FnOk P w K mg base CX0 _ _ _ _ _ := ok_values F16 lf F17 g17
  have G17 : FnOk P w K mg base CX0 _ _ _ _ _ := ok_bit F17 lf
  have G18 : FnOk P w K mg base CX0 _ _ _ _ _ := ok_flip F18 tz
  have G20 : FnOk P w K mg base CX0 _ _ _ _ _ := ok_rows F20 lf F19 g19
  have G21 : FnOk P w K mg base CX0 _ _ _ _ _ := ok_gatesof F21 tg
  have G22 : FnOk P w K mg base CX0 _ _ _ _ _ := ok_told F22 tw G34 b34 G16 g16 F16.kp b16
  have G23 : FnOk P w K mg base CX0 _ _ _ _ _ := ok_arelits F23 ki G14 g14 F14.kp b14
  have G24 : FnOk P w K mg base CX0 _ _ _ _ _ := ok_own_and F24 tz F18 g18
  have G25 : FnOk P w K mg base CX0 _ _ _ _ _ := ok_led F25 tw G18 g18 F18.kp b18
  have G26 : FnOk P w K mg base CX0 _ _ _ _ _ := ok_ownput F26 tw G25 g25 F25.kp b25 G24 g24 F24.kp b24
  have G27 : FnOk P w K mg base CX0 _ _ _ _ _ := ok_lits F27 lf F12 g12
  have G28 : FnOk P w K mg base CX0 _ _ _ _ _ := ok_same F28 tw G34 b34 G21 g21 F21.kp b21
  have G29 : FnOk P w K mg base CX0 _ _ _ _ _ := ok_right F29 tw G20 g20 F20.kp b20 G22 g22 F22.kp b22 G23 g23 F23.kp b23 G17 g17 F17.kp b17
  have G30 : FnOk P w K mg base CX0 _ _ _ _ _ := ok_further F30 tw G34 b34 G27 g27 F27.kp b27 G13 g13 F13.kp b13 G18 g18 F18.kp b18 G6 g6 F6.kp b6 G7 g7 F7.kp b7 G8 g8 F8.kp b8
  exact ok_law F31 T G35 b35 G34 b34 G11 g11 F11.kp b11 G12 g12 F12.kp b12 G27 g27 F27.kp b27 G13 g13 F13.kp b13 G18 g18 F18.kp b18 G24 g24 F24.kp b24 G28 g28 F28.kp b28 G15 g15 F15.kp b15 G10 g10 F10.kp b10 G26 g26 F26.kp b26 G30 g30 F30.kp b30 G29 g29 F29.kp b29 mkBuilder G33 gBuilder b33 mkGraph G32 gGraph b32
end E16
open PySem PySem.W PySem.Calls PyProof.Rows
theorem PySem.Challenge.cw_everycycle_k16_whole_builders_holds : PySem.Challenge.rw_everycycle_k16_whole_builders.Holds := by
  w_on; o_law
  refine HandSHeadRun.head_any (r := OpenLaw.row PySem.Challenge.rw_everycycle_k16_whole_builders) (q := view (OpenLaw.row PySem.Challenge.rw_everycycle_k16_whole_builders).prog [40]) (H := E16.hk) (ob := E16.ob) (M := 4000) (loose := [("CycleError" : PySem.Str), ("BadNumber" : PySem.Str), ("BadRow" : PySem.Str), ("is_between" : PySem.Str), ("is_from" : PySem.Str), ("is_row" : PySem.Str), ("is_row_between" : PySem.Str), ("Graph" : PySem.Str), ("need_leaves" : PySem.Str), ("are_gates" : PySem.Str), ("Builder" : PySem.Str), ("or_of" : PySem.Str), ("xor_of" : PySem.Str), ("choice_of" : PySem.Str), ("literal_in" : PySem.Str), ("put_into" : PySem.Str), ("_law_pen" : PySem.Str), ("_law_draw" : PySem.Str), ("_law_pick" : PySem.Str), ("_law_is_whole" : PySem.Str), ("_law_drawn_gates" : PySem.Str), ("_law_values" : PySem.Str), ("_law_bit" : PySem.Str), ("_law_flip" : PySem.Str), ("_law_longer" : PySem.Str), ("_law_rows" : PySem.Str), ("_law_gates_of" : PySem.Str), ("_law_told_values" : PySem.Str), ("_law_are_literals" : PySem.Str), ("_law_own_and" : PySem.Str), ("_law_led" : PySem.Str), ("_law_own_put" : PySem.Str), ("_law_literals" : PySem.Str), ("_law_same" : PySem.Str), ("_law_valued_right" : PySem.Str), ("_law_further" : PySem.Str)]) (d := HandSHeadRun.topDef (OpenLaw.row PySem.Challenge.rw_everycycle_k16_whole_builders).prog 40) (kwd := []) E16.ob_eq
    (by kernel_rfl) (fun s => by kernel_rfl) E16.run (by kernel_rfl) (by kernel_rfl) (by kernel_rfl) (by rfl) (by first | assumption | decide +kernel) (by decide +kernel) ⟨rfl, rfl, rfl, rfl, rfl, by decide +kernel⟩ ?hw ?hc
  case hw => w_witness2
  case hc =>
    refine Gd.walk_go (l := PySem.Challenge.rw_everycycle_k16_whole_builders) (n := 63) (k := 9) (x := "_law_script") (CX := L2.CX0) rfl (by decide) (by kernel_rfl) ⟨rfl, by decide, by decide⟩ ?F (fun _ _ _ _ z => z)
    intro w mg fa h Y G hmg0
    obtain ⟨K, KX, c⟩ := Y
    have hmg : mg ("law" : PySem.Str) = some (.ref fa) := by
      have e : (HandSHeadRun.topDef (OpenLaw.row PySem.Challenge.rw_everycycle_k16_whole_builders).prog 40).name = ("law" : PySem.Str) := by kernel_rfl
      rw [← e]
      exact hmg0
    obtain ⟨fd, hb, hF⟩ := E16.facts (P := (PySem.Challenge.rw_everycycle_k16_whole_builders).prog) (w := w) KX G hmg c
    exact ⟨K, fd, Bz.spLaw K, KX, hb, fun H a ns hl _ hS => ⟨a, ns, rfl, hS, hl, fun _ => rfl⟩, hF⟩
