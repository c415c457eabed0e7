import PyProof.Rows.All
import Wide.All
import OpenK.AllK
import Wide.FinOn
import Lean
import HandS.ForMost
import HandS.Codes
import HandS.Defaults
import HandS.Wide
import HandS.DeepEq
import HandS.Exc
import HandS.ExcInit
import HandS.ExcValue
import HandS.IsInst
import HandS.TupAny
import HandS.OwnEq
import HandS.Star
import HandS.SortInts
import HandS.Conv
import HandS.Style
import HandS.Head0
import HandS.Head1
import HandS.Head2
import HandS.HeadEnd
import HandS.HeadHook1
import HandS.HeadHook2
import HandS.HeadHook3
import HandS.HeadHook4
import HandS.ExcIs
import HandS.ExcField
import KE.KExcIs
import KE.GoesEnum
import HandS.NoneIn
import PySem.Challenge.RW_everycycle_k44_whole_what_the_judge_make
import HandS.SortKw
import HandS.Set
import HandS.SetFor
import HandS.Strs
import KE.SortKeyHeap
import HandS.Deep
import HandS.More
import HandS.Walk
import HandS.EndTab
set_option Elab.async false
set_option linter.all false
set_option maxRecDepth 100000
set_option maxHeartbeats 4000000
namespace Gd
open PySem PySem.Spec PyProof.Rows L2
/-! ## What a def does where no repr is under way: the promise of FnOk, for such callers alone -/
structure FnG (P : Program) (w : World) (K : PySem.W.Frag) (mg : Str → Option Value) (base : Heap) (CX : CXT) (k : Nat) (f : Addr) (fd : FuncData) (ps : List Str) (sp : Sp) : Prop where
  many : ∀ vs H Q E, sp vs H Q E → vs.length = ps.length
  go : ∀ (A : Around) (fs : List Env) (s : Shared) (H : Hp) (ag : Args) (us : List Value) (vs : List V) (Q : VK) (E : XK), A.guards = some [] → Room k A → Env0 P w K mg base A fs s H →
    BindsTo s fd ag (ps.zip us) → Vals vs us → sp vs H Q E → codeAny (model P w) A (.call (.ref f) ag) (CR CX fs P w H s Q E) s
section
variable {P : Program} {w : World} {K : PySem.W.Frag} {mg : Str → Option Value} {base : Heap} {CX : CXT} {k : Nat} {f : Addr} {fd : FuncData} {ps : List Str} {sp : Sp}
theorem FnG.of (F : FnOk P w K mg base CX k f fd ps sp) : FnG P w K mg base CX k f fd ps sp := ⟨F.len, fun A fs s H ag us vs Q E _ => F.run A fs s H ag us vs Q E⟩
/-- from the def's body -/
theorem FnG.mk_of {x qual : Str} {params : Arguments} {body : List Stmt} {scope : Scope} {dvs : List V} {kws : List (Str × V)} {N : List Str}
    (F : FunD K x qual params body scope dvs kws f fd) (S : FnScope N ps scope) (many : ∀ vs H Q E, sp vs H Q E → vs.length = ps.length)
    (walk : ∀ (cv : Value) (A : Around) (fs : List Env) (s : Shared) (H : Hp) (vs : List V) (Q : VK) (E : XK), A.guards = some [] → Room k (A.deeper (envOfC qual scope s.heap.objs.size f cv)) → sp vs H Q E →
      ∃ t, PSs (cxOf CX P w K mg base N qual scope f cv A fs s H E) body t ∧ t { nx := fun _ H' => Q .non H', rt := Q } (start N vs) H) :
    FnG P w K mg base CX (k + 1) f fd ps sp := by
  obtain ⟨_, _, _, _, _, _, _, cv, _, _, rfl, look, code, _, _⟩ := F.ex
  refine ⟨many, fun A fs s H ag us vs Q E hg room e bind rel prom => ?_⟩
  have kin : K.In s.heap := e.mod.kin.keeps fun b u z => (e.bs b u z).1
  have kinds : ∀ y ∈ ps.zip us, scope.names.lookup y.1 = some .local ∨ (scope.names.lookup y.1 = some .cell ∧ ((cellsFrom (s.heap.objs.size + 1) scope.names []).lookup y.1).isSome = true) := by
    rintro ⟨y, u⟩ hy
    rcases S.par y (List.of_mem_zip hy).1 with q | q
    · exact Or.inl q
    · exact Or.inr ⟨q, PySem.W.cellsFrom_some _ _ _ (Or.inl q)⟩
  refine codeAny_call_function room.depth (kin _ _ look) rfl S.co S.gen rfl (PySem.W.codeRec_of kin code) (bind _ _ _ _ ?_)
  refine wpAny_newFunctionEnv_cells S.kind kinds ?_
  rintro env rfl s1 hs1
  refine ⟨(e.mod.nolimit.keeps fun b u z => (e.bs b u z).1).keeps hs1.toInCall.keep, codeAny_func ?_⟩
  obtain ⟨t, ht, q⟩ := walk cv A fs s H vs Q E hg (room.deeper _) prom
  have I := inv_start (CX := CX) (E := E) S room.hd e (many _ _ _ _ prom) rel hs1
  refine wpAny_mono (ht.run [] s1 (start N vs) H _ I q) (fun fl s2 z => ?_) (fun _ _ z => z)
  match fl, z with
  | .ret u, ⟨v, σ', H', J, rv, q⟩ => exact ⟨v, H', J.os, J.bare, J.base, J.hok, rv, q⟩
  | .next, ⟨σ', H', J, q⟩ => exact ⟨V.non, H', J.os, J.bare, J.base, J.hok, rfl, q⟩
  | .brk, ⟨_, _, _, q⟩ => exact q.elim
  | .cont, ⟨_, _, _, q⟩ => exact q.elim
end
/-- the script's object -/
abbrev scr (vs : List Value) : Obj := { cls := .type "list", data := .seq vs.toArray }
/-- the heap in which the script alone is tracked, if the top did not write it -/
def onlyScr (K : PySem.W.Frag) (a : Addr) (vs : List Value) (ns : List Int) : Hp := fun b => if b = a ∧ (K.lookup a).isNone = true then some (.frz (scr vs) (.lst (ns.map V.int))) else none
theorem onlyScr_get {K : PySem.W.Frag} {a b : Addr} {vs : List Value} {ns : List Int} {o : HO} (h : onlyScr K a vs ns b = some o) : b = a ∧ K.lookup a = none ∧ o = .frz (scr vs) (.lst (ns.map V.int)) := by
  unfold onlyScr at h
  split at h
  · rename_i c
    exact ⟨c.1, Option.isNone_iff_eq_none.mp c.2, (Option.some.inj h).symm⟩
  · cases h
/-- the law is called with its script -/
theorem law_go {P : Program} {w : World} {K : PySem.W.Frag} {mg mb : Str → Option Value} {CX : CXT} {k : Nat} {f a : Addr} {fd : FuncData} {x : Str} {sp : Sp} {s : Shared} {vs : List Value} {ns : List Int}
    (kin : K.In s.heap) (hm : s.heap.Ns mainGlobals mg) (hb : s.heap.Ns builtinsNs mb) (hbb : ∀ y : Str, y ≠ "__name__" → mb y = bootBuiltins y) (lim : s.heap.NoLimit) (hgen : s.gens = #[])
    (ha : s.heap.get? a = some (scr vs)) (hi : IntsAre vs ns) (hl : ns.length ≤ sizeLine) (hr : Room k callerA)
    (F : ∀ base : Heap, K.In base → base.Ns mainGlobals mg → FnG P w K mg base CX k f fd [x] sp) (bind : ∀ (s : Shared) (u : Value), BindsTo s fd ⟨[u], []⟩ [(x, u)])
    (prom : ∀ H : Hp, Only H → SqL K H a (ns.map V.int) → sp [.ref a] H (fun v _ => v = .bl true) fun _ _ _ => False)
    (none_out : ∀ H e s', CX [] H s (fun _ _ _ => False) e s' → False) :
    codeAny (model P w) callerA (.call (.ref f) ⟨[.ref a], []⟩) (fun r s' => r = .ok (.ret (.bool true)) ∧ OldK s.heap s'.heap ∧ s'.os = s.os ∧ AllBare s'.gens) s := by
  have hv := vals_ints hi
  have hlen := hi.length
  let H := onlyScr K a vs ns
  have gone : ∀ {b : Addr} {o : Obj}, K.lookup b = some o → H b = none := fun {b o} q => by
    cases e : H b with
    | none => rfl
    | some u =>
      obtain ⟨rfl, n, _⟩ := onlyScr_get e
      rw [n] at q
      cases q
  have ns_free : ∀ {b : Addr} {o : Obj} {es : Array DictEntry} {ep : Nat}, s.heap.get? b = some o → o.data = .dict es ep → H b = none := fun {b o es ep} q d => by
    cases e : H b with
    | none => rfl
    | some u =>
      obtain ⟨rfl, _, _⟩ := onlyScr_get e
      rw [ha] at q
      cases q
      cases d
  have stays : ∀ {b : Addr} {m : Str → Option Value}, s.heap.Ns b m → (hidT s.heap H).Ns b m := fun ⟨o, es, ep, q, d, r⟩ => ⟨o, es, ep, hidT_get q (ns_free q d), d, r⟩
  have kinT : K.In (hidT s.heap H) := fun b o q => hidT_get (kin b o q) (gone q)
  have hok : HOk P w H s.heap := fun b u q => by
    obtain ⟨rfl, _, rfl⟩ := onlyScr_get q
    exact ⟨ha, by rw [List.length_map]; exact hl, vs, _, hv, ha⟩
  have hO : Only H := fun b => by
    cases e : H b with
    | none => exact Or.inl rfl
    | some u =>
      obtain ⟨_, _, rfl⟩ := onlyScr_get e
      exact Or.inr ⟨_, _, rfl⟩
  have hS : SqL K H a (ns.map V.int) := by
    cases e : K.lookup a with
    | none => exact .inl (.inr ⟨scr vs, if_pos ⟨rfl, by rw [e]; rfl⟩⟩)
    | some o =>
      have q := kin a o e
      rw [ha] at q
      cases q
      exact .inr ⟨_, vs.toArray, _, e, rfl, rfl, rfl, by rw [List.size_toArray, hlen]; exact hl, by simpa using hv⟩
  obtain ⟨mc, l1, l2⟩ := lim
  have e0 : Env0 P w K mg (hidT s.heap H) callerA [] s H := by
    refine ⟨rfl, ⟨kinT, stays hm, ⟨mb, stays hb, hbb⟩, ⟨mc, stays l1, l2⟩⟩, fun b o q => of_hidT q, Nat.le_of_eq (hidT_size _ _), trivial, fun b q => ?_, hok, .of_eq hgen⟩
    cases q
  refine codeAny_mono ((F _ kinT (stays hm)).go callerA [] s H ⟨[.ref a], []⟩ [.ref a] [.ref a] _ _ rfl hr e0 (bind s (.ref a)) (.cons rfl .nil) (prom H hO hS)) fun r s' h => ?_
  match r, h with
  | .error e, h => exact (none_out H e s' h).elim
  | .ok .next, h => exact h.elim
  | .ok .brk, h => exact h.elim
  | .ok .cont, h => exact h.elim
  | .ok (.ret u), ⟨v, H', os, bare, un, hok', rv, q⟩ =>
    have q' : v = .bl true := q
    subst q'
    have hu : u = Value.bool true := rv
    subst hu
    refine ⟨rfl, OldK.of_keep fun b o z => ?_, os, bare⟩
    cases e : H b with
    | none => exact un.keep b o z e (by intro y; cases y) (by simp)
    | some t =>
      obtain ⟨rfl, _, rfl⟩ := onlyScr_get e
      rw [ha] at z
      cases z
      exact (hok' b _ (un.frzs b _ _ e)).1
/-- the end of a law -/
theorem walk_go {l : PySem.W.OpenLaw} {n k : Nat} {q : Program} {loose : List Str} {XP : (Str → Option Value) → Heap → Prop} {YP : World → Heap → Prop} {d : DefRec} {CX : CXT} {x : Str}
    (hn : l.most = some n) (hn2 : n ≤ sizeLine) (hdf : d.params.defaults = []) (hr : Room k callerA)
    (F : ∀ (w : World) (mg : Str → Option Value) (f : Addr) (h : Heap), YP w h → h.Ns mainGlobals mg → mg d.name = some (.ref f) → ∃ (K : PySem.W.Frag) (fd : FuncData) (sp : Sp), K.In h ∧ (∀ (s : Shared) (u : Value), BindsTo s fd ⟨[u], []⟩ [(x, u)]) ∧
      (∀ (H : Hp) (a : Addr) (ns : List Int), ns.length ≤ n → Only H → SqL K H a (ns.map V.int) → sp [.ref a] H (fun v _ => v = .bl true) fun _ _ _ => False) ∧ ∀ base : Heap, K.In base → base.Ns mainGlobals mg → FnG l.prog w K mg base CX k f fd [x] sp)
    (none_out : ∀ (H : Hp) (s : Shared) (e : Value) (s' : Shared), CX [] H s (fun _ _ _ => False) e s' → False) : PySem.W.WalkO q loose XP YP l.row.toRowW d [] (fun f vs => PySem.call f vs) :=
  Att.attach_call hn hdf fun w _ s _ _ f _ _ _ _ a _ ns G Y _ _ _ hmg hobj hints hlen hgen =>
    let ⟨_, _, _, kin, bind, prom, ok⟩ := F w _ f _ Y G.T.g hmg
    law_go kin G.T.g G.T.b G.T.builtins G.T.nolimit hgen hobj hints (Nat.le_trans hlen hn2) hr ok bind (fun H hO hS => prom H a ns hlen hO hS) fun H e s' => none_out H s e s'
/-! ## repr of data -/
section
variable {X : Cx}
/-- repr(x), x data of any depth but dicts -/
def rRepr (K : PySem.W.Frag) : List V → Hp → VK → Prop := fun xs H Q => ∃ (a : Addr) (d : PyData), xs = [.ref a] ∧ Dp K H (.ref a) d ∧ d.showable = true ∧ d.hasDict = false ∧ d.depth ≤ 60 ∧ d.shown.length ≤ sizeLine ∧ Q (.str d.shown) H
theorem call_repr {k : Nat} (hg : X.A.guards = some []) (hr : Room k X.A) : CallR X (.builtin "repr") (rRepr X.K) := by
  intro pins s σ H xs us Q I r h
  obtain ⟨a, d, rfl, hd, h1, h2, h3, h4, q⟩ := h
  obtain ⟨u, rfl, ru⟩ := vals1 r
  obtain ⟨as, rd⟩ := Dp.reads I d _ u hd ru
  have hu : u = Value.ref a := ru
  subst hu
  have room := hr.un
  refine repr_of_reads' rd h1 (fun z => by rw [h2] at z; cases z) hg (by omega) (fun _ _ e => e) (fun h' t tk hk => ?_) h4
  exact ⟨.str d.shown, H, I.kept hk, ⟨t, rfl⟩, q⟩
end
end Gd
namespace Gv
open PySem PySem.Spec PyProof.Rows L2
/-- repr(x), x any data but dicts -/
def rReprV (K : PySem.W.Frag) : List V → Hp → VK → Prop := fun xs H Q => ∃ (v : V) (d : PyData), xs = [v] ∧ Dp K H v d ∧ d.showable = true ∧ d.hasDict = false ∧ d.depth ≤ 60 ∧ d.shown.length ≤ sizeLine ∧ Q (.str d.shown) H
theorem call_reprV {X : Cx} {k : Nat} (hg : X.A.guards = some []) (hr : Room k X.A) : CallR X (.builtin "repr") (rReprV X.K) := by
  intro pins s σ H xs us Q I r h
  obtain ⟨v, d, rfl, hd, h1, h2, h3, h4, q⟩ := h
  cases hd with
  | lst a b => exact Gd.call_repr hg hr pins s σ H _ us Q I r ⟨_, _, rfl, .lst a b, h1, h2, h3, h4, q⟩
  | tup a b => exact Gd.call_repr hg hr pins s σ H _ us Q I r ⟨_, _, rfl, .tup a b, h1, h2, h3, h4, q⟩
  | non =>
    obtain ⟨u, rfl, ru⟩ := vals1 r
    have hu : u = Value.none := ru
    subst hu
    exact PySem.P.repr_of_none ⟨.str "None", H, I.tok _, ⟨_, rfl⟩, q⟩
  | bl b =>
    obtain ⟨u, rfl, ru⟩ := vals1 r
    have hu : u = Value.bool b := ru
    subst hu
    exact PySem.P.repr_of_bool ⟨.str _, H, I.tok _, ⟨_, rfl⟩, q⟩
  | int i =>
    obtain ⟨u, rfl, t, rfl⟩ := vals1 r
    exact PySem.P.repr_of_int (of_decide_eq_true h1) ⟨.str _, H, I.tok _, ⟨_, rfl⟩, q⟩
  | str x =>
    obtain ⟨u, rfl, t, rfl⟩ := vals1 r
    exact PySem.P.repr_of_str ⟨.str _, H, I.tok _, ⟨_, rfl⟩, q⟩ h4
end Gv
namespace Dat
open PySem PySem.Spec PyProof.Rows L2
/-! ## Data of any depth: its kind, and that it stays -/
def isIntD : PyData → Bool
  | .int _ => true
  | .bool _ => true
  | _ => false
def isBoolD : PyData → Bool
  | .bool _ => true
  | _ => false
def isRowD : PyData → Bool
  | .list _ => true
  | .tuple _ => true
  | _ => false
def clsD : PyData → String
  | .none => "NoneType"
  | .bool _ => "bool"
  | .int _ => "int"
  | .str _ => "str"
  | .list _ => "list"
  | .tuple _ => "tuple"
  | .dict _ => "dict"
section
variable {K : PySem.W.Frag} {H H' : Hp} {v : V} {d : PyData}
theorem ty_list {a : Addr} {xs : List V} (h : SqL K H a xs) : TyX K H (.ref a) (.type "list") := by
  rcases h with (h | ⟨o, h⟩) | ⟨o, its, n, h1, h2, _⟩
  · exact .base (.lst h)
  · exact .base (.frz h)
  · exact .kList h1 h2
theorem ty_tup {a : Addr} {xs : List V} (h : SqT K H a xs) : TyX K H (.ref a) (.type "tuple") := by
  rcases h with (h | ⟨o, h⟩) | ⟨o, its, n, h1, h2, _⟩
  · exact .base (.tup h)
  · exact .fTuple h
  · exact .kTuple h1 h2
theorem ty_of (h : Dp K H v d) : TyX K H v (.type (clsD d)) := by
  cases h with
  | non => exact .base .non
  | bl b => exact .base (.bl b)
  | int i => exact .base (.int i)
  | str x => exact .base (.str x)
  | lst hs _ => exact ty_list hs
  | tup hs _ => exact ty_tup hs
theorem kit_int (h : Dp K H v d) : PySem.W.kitOne K (.type (clsD d)) (.type "int") = some (isIntD d) := by
  cases h with
  | non => exact kit_ty (a := "NoneType") (b := "int") (r := false) (by decide +kernel)
  | bl _ => exact kit_ty (a := "bool") (b := "int") (r := true) (by decide +kernel)
  | int _ => exact kit_ty (a := "int") (b := "int") (r := true) (by decide +kernel)
  | str _ => exact kit_ty (a := "str") (b := "int") (r := false) (by decide +kernel)
  | lst _ _ => exact kit_ty (a := "list") (b := "int") (r := false) (by decide +kernel)
  | tup _ _ => exact kit_ty (a := "tuple") (b := "int") (r := false) (by decide +kernel)
theorem kit_bool (h : Dp K H v d) : PySem.W.kitOne K (.type (clsD d)) (.type "bool") = some (isBoolD d) := by
  cases h with
  | non => exact kit_ty (a := "NoneType") (b := "bool") (r := false) (by decide +kernel)
  | bl _ => exact kit_ty (a := "bool") (b := "bool") (r := true) (by decide +kernel)
  | int _ => exact kit_ty (a := "int") (b := "bool") (r := false) (by decide +kernel)
  | str _ => exact kit_ty (a := "str") (b := "bool") (r := false) (by decide +kernel)
  | lst _ _ => exact kit_ty (a := "list") (b := "bool") (r := false) (by decide +kernel)
  | tup _ _ => exact kit_ty (a := "tuple") (b := "bool") (r := false) (by decide +kernel)
theorem kit_row (h : Dp K H v d) : PySem.W.kitAny K (.type (clsD d)) [.type "tuple", .type "list"] = some (isRowD d) := by
  cases h with
  | non => exact kitAny_cons (b := false) (kit_ty (a := "NoneType") (b := "tuple") (r := false) (by decide +kernel)) (fun _ => kitAny_cons (b := false) (kit_ty (a := "NoneType") (b := "list") (r := false) (by decide +kernel)) (fun _ => rfl) (fun z => by cases z)) (fun z => by cases z)
  | bl _ => exact kitAny_cons (b := false) (kit_ty (a := "bool") (b := "tuple") (r := false) (by decide +kernel)) (fun _ => kitAny_cons (b := false) (kit_ty (a := "bool") (b := "list") (r := false) (by decide +kernel)) (fun _ => rfl) (fun z => by cases z)) (fun z => by cases z)
  | int _ => exact kitAny_cons (b := false) (kit_ty (a := "int") (b := "tuple") (r := false) (by decide +kernel)) (fun _ => kitAny_cons (b := false) (kit_ty (a := "int") (b := "list") (r := false) (by decide +kernel)) (fun _ => rfl) (fun z => by cases z)) (fun z => by cases z)
  | str _ => exact kitAny_cons (b := false) (kit_ty (a := "str") (b := "tuple") (r := false) (by decide +kernel)) (fun _ => kitAny_cons (b := false) (kit_ty (a := "str") (b := "list") (r := false) (by decide +kernel)) (fun _ => rfl) (fun z => by cases z)) (fun z => by cases z)
  | lst _ _ => exact kitAny_cons (b := false) (kit_ty (a := "list") (b := "tuple") (r := false) (by decide +kernel)) (fun _ => kitAny_cons (b := true) (kit_ty (a := "list") (b := "list") (r := true) (by decide +kernel)) (fun z => by cases z) (fun _ => rfl)) (fun z => by cases z)
  | tup _ _ => exact kitAny_cons (b := true) (kit_ty (a := "tuple") (b := "tuple") (r := true) (by decide +kernel)) (fun z => by cases z) (fun _ => rfl)
theorem seqT_same {a : Addr} {xs : List V} (s : Same H H') (h : SqT K H a xs) : SqT K H' a xs :=
  h.elim (fun h => .inl (h.elim (fun h => .inl (s _ _ h)) fun ⟨o, h⟩ => .inr ⟨o, s _ _ h⟩)) .inr
mutual
theorem dp_same (s : Same H H') : ∀ {d : PyData} {v : V}, Dp K H v d → Dp K H' v d
  | .none, _, h => by
    cases h
    exact .non
  | .bool b, _, h => by
    cases h
    exact .bl b
  | .int i, _, h => by
    cases h
    exact .int i
  | .str x, _, h => by
    cases h
    exact .str x
  | .list ds, _, h => by
    cases h with
    | lst hs ha => exact .lst (s.seq hs) (dps_same s ha)
  | .tuple ds, _, h => by
    cases h with
    | tup hs ha => exact .tup (seqT_same s hs) (dps_same s ha)
  | .dict _, _, h => by cases h
theorem dps_same (s : Same H H') : ∀ {ds : List PyData} {vs : List V}, DpAll K H vs ds → DpAll K H' vs ds
  | [], _, h => by
    cases h
    exact .nil
  | d :: ds, _, h => by
    cases h with
    | cons h1 h2 => exact .cons (dp_same s h1) (dps_same s h2)
end
theorem dps_len : ∀ {vs : List V} {ds : List PyData}, DpAll K H vs ds → vs.length = ds.length
  | _, [], h => by
    cases h
    rfl
  | _, _ :: _, h => by
    cases h with
    | cons _ h2 => exact congrArg Nat.succ (dps_len h2)
theorem dps_get : ∀ {vs : List V} {ds : List PyData}, DpAll K H vs ds → ∀ {i : Nat} {v : V}, vs[i]? = some v → ∃ d, ds[i]? = some d ∧ Dp K H v d
  | _, [], h, i, v, e => by
    cases h
    simp at e
  | _, d :: ds, h, i, v, e => by
    cases h with
    | cons h1 h2 =>
      cases i with
      | zero =>
        simp at e
        subst e
        exact ⟨d, rfl, h1⟩
      | succ i =>
        simp at e
        obtain ⟨d', q1, q2⟩ := dps_get h2 e
        exact ⟨d', by simpa using q1, q2⟩
end
end Dat
namespace En
open PySem PySem.Spec PyProof.Rows L2
/-! ## enumerate(t), t a tuple -/
set_option maxHeartbeats 1000000 in
theorem new_meets {v : Value} {o : Obj} {G : Heap → Prop} (B : Begins v o G) :
    Meets (Builtin.«enumerate.__new__» ⟨[.type "enumerate", v], []⟩) (fun _ R s => G s.heap ∧ R (.ok (.ret (.ref (s.heap.push o).objs.size))) { s with heap := (s.heap.push o).push { cls := .type "enumerate", data := .fields #[.none, .bool false, .ref s.heap.objs.size, rawInt 0, .none, .none] } }) :=
  .of_wp fun prog w A R s h => by
    obtain ⟨hp, gs, dr, tk, os⟩ := s
    obtain ⟨hG, hR⟩ := h
    have sub := sub_enumerate
    have it : ∀ {A' : Around} {E Q : Value → Shared → Prop}, Q (.ref hp.objs.size) ⟨hp.push o, gs, dr, tk, os⟩ → wpAny (model prog w) A' (pyIter v) Q E ⟨hp, gs, dr, tk, os⟩ := fun q => B.iter prog w _ _ ⟨hp, gs, dr, tk, os⟩ _ hG q
    wp_walk using it
    refine wpAny_stack_any fun st => wpAny_pure ?_
    split
    · rename_i cl _ _ _ _ _
      cases (cl == Value.type "enumerate")
      all_goals
        wp_walk using it
        exact ⟨_, rfl, hR⟩
    · wp_walk using it
      exact ⟨_, rfl, hR⟩
section
variable {prog : Program} {w : World} {A : Around} {E : Value → Shared → Prop} {s : Shared}
theorem call_new {v : Value} {o : Obj} {G : Heap → Prop} {Q : Value → Shared → Prop} (B : Begins v o G) (hG : G s.heap)
    (h : ∀ h', IsEnum h' (s.heap.objs.size + 1) s.heap.objs.size 0 .none → h'.get? s.heap.objs.size = some o → (∀ b u, s.heap.get? b = some u → h'.get? b = some u) → Q (.ref (s.heap.objs.size + 1)) { s with heap := h' }) :
    wpAny (model prog w) A (call (.type "enumerate") [v]) Q E s := by
  refine callType_new F.called_enumerate (by decide) (F.typeCall_enumerate_1 _) (F.newCall_enumerate_1 _) (fun obj => F.args_object_init_2 obj _) F.entry_enumerate_new (new_meets B) ⟨hG, ?_⟩
  have size : (s.heap.push o).objs.size = s.heap.objs.size + 1 := Heap.size_push ..
  show _ ∧ _
  rw [size]
  have made : IsEnum ((s.heap.push o).push { cls := .type "enumerate", data := .fields #[.none, .bool false, .ref s.heap.objs.size, rawInt 0, .none, .none] }) (s.heap.objs.size + 1) s.heap.objs.size 0 .none := by
    have z := Heap.get?_push_size (s.heap.push o) (o := { cls := .type "enumerate", data := .fields #[.none, .bool false, .ref s.heap.objs.size, rawInt 0, .none, .none] }) rfl
    rw [size] at z
    exact z
  exact ⟨⟨_, made, rfl⟩, h _ made (Heap.get?_push_of_some _ (Heap.get?_push_size _ B.free)) fun b u q => Heap.get?_push_of_some _ (Heap.get?_push_of_some _ q)⟩
end
section
variable {prog : Program} {w : World} {A : Around} {E : Value → Shared → Prop} {s : Shared}
theorem next_end {e it a : Addr} {i : Nat} {c : Int} {items : Array Value} {old : Value} {Q : Option Value → Shared → Prop} (calm : A.handled = none) (he : IsEnum s.heap e it c old) (hi : s.heap.IsTupleIter it a i) (ht : s.heap.IsTuple a items) (none_left : items[i]? = none)
    (h : ∀ h', Heap.ExtBut it s.heap h' → Q none { s with heap := h' }) : wpAny (model prog w) A (pyNext (.ref e)) Q E s := by
  have ty : s.TypeIs (.ref e) "enumerate" := ⟨_, he, rfl⟩
  unfold pyNext
  refine wpAny_bind (wpAny_attempt (wpAny_callSpecial?_slot (name := Str.ofString "__next__") ty F.slot_enumerate_next (wpAny_call_entry F.slot_enumerate_next ty F.entry_enumerate_next ?_ (F.args_enumerate_next_1 _))))
  show wpAny _ _ (field (.ref e) 2 >>= _) _ _ _
  refine wpAny_bind (wpAny_field he rfl (x := .ref it) rfl (wpAny_bind (wpAny_nextOf_tuple_end calm hi ht none_left fun h' x ext stop => ?_)))
  obtain ⟨o, ho, hc⟩ := stop
  exact wpAny_bind (wpAny_isInstance (T := "StopIteration") (b := true) ⟨o, ho, hc⟩ isSubtype_stop (wpAny_pure (h _ ext)))
end
/-- the tuple at a, each item in a new pair with its place -/
def Iet (K : PySem.W.Frag) (a : Addr) : It :=
  ⟨fun i H => ∃ (xs : List V) (x : V), SqT K H a xs ∧ xs[i]? = some x, fun i H v H' => ∃ T x, v = .ref T ∧ H T = none ∧ H' = upd H T (.tup [.int (i : Nat), x]) ∧ ∀ xs, SqT K H a xs → xs[i]? = some x, fun i H => ∃ xs : List V, SqT K H a xs ∧ xs.length ≤ i⟩
theorem apart {s : Shared} {e it a : Addr} {c : Int} {old : Value} {i : Nat} {items : Array Value} (he : IsEnum s.heap e it c old) (hi : s.heap.IsTupleIter it a i) (ht : s.heap.IsTuple a items) : e ≠ it ∧ e ≠ a ∧ a ≠ it := by
  obtain ⟨oi, h1, h2, _⟩ := hi
  obtain ⟨ot, h3, h4, _⟩ := ht
  refine ⟨fun z => ?_, fun z => ?_, fun z => ?_⟩
  · rw [← z, he] at h1
    rw [← Option.some.inj h1] at h2
    exact absurd (Value.type.inj h2) (by decide)
  · rw [← z, he] at h3
    rw [← Option.some.inj h3] at h4
    exact absurd (Value.type.inj h4) (by decide)
  · rw [z, h1] at h3
    rw [← Option.some.inj h3, h2] at h4
    exact absurd (Value.type.inj h4) (by decide)
theorem turn {P : Program} {w : World} {K : PySem.W.Frag} {es : List Expr} {k : Nat} {pos : Pos} (a e it : Addr) :
    Turn P w K (.Tuple es k pos) (Iet K a) [e, it] e (fun i h => (∃ old, IsEnum h e it ((i : Nat) : Int) old) ∧ h.IsTupleIter it a i) where
  mem := List.mem_cons_self
  obj := fun i h st b hb => by
    obtain ⟨⟨old, he⟩, ⟨o, ho, hc, hd⟩⟩ := st
    rcases List.mem_cons.mp hb with rfl | hb
    · exact ⟨_, he, fun v q => nomatch q⟩
    · rw [List.mem_singleton.mp hb]
      exact ⟨o, ho, fun v q => by rw [hd] at q; cases q⟩
  keep := fun i h h' st kp => by
    obtain ⟨⟨old, he⟩, hi⟩ := st
    exact ⟨⟨old, kp e List.mem_cons_self _ he⟩, hi.at fun o q => kp it (List.mem_cons_of_mem _ (List.mem_singleton.mpr rfl)) o q⟩
  item := by
    rintro X rfl rfl rfl calm i pins s σ H E I fp ⟨⟨old, he⟩, hi⟩ ⟨xs, x, hq, hx⟩
    obtain ⟨its, rv, ht, _⟩ := I.tuple hq
    obtain ⟨u, hu, ru⟩ := rv.get hx
    obtain ⟨n1, n2, n3⟩ := apart he hi ht
    have le : e < s.heap.objs.size := Heap.lt_size he
    have li : it < s.heap.objs.size := by
      obtain ⟨_, q, _⟩ := hi
      exact Heap.lt_size q
    have hlt : i < its.toArray.size := by
      have z := (List.getElem?_eq_some_iff.mp hu).1
      simpa using z
    refine wpAny_pyNext_enum_itemD (Draws.tuple (A := X.A.in1) (I.ok.hd calm) it a n3 its.toArray) he ⟨hi, ht⟩ hlt n1 (by simp [n1, n2]) fun y h' tk hy out st made _ same => ?_
    have ey : y = u := by
      have z : its[i]? = some y := by simpa using hy
      rw [hu] at z
      exact (Option.some.inj z).symm
    subst ey
    refine ⟨_, rfl, wpAny_letOwnedTupleGo_enum (s := { s with heap := h', toks := tk + 1 }) out fun h2 he2 sb => ?_⟩
    have made2 : h2.get? s.heap.objs.size = some { cls := .type "tuple", data := .seq #[.int i tk, y] } := (sb.2 _ (Nat.ne_of_gt le)).trans made
    have new : ObjOk X.prog X.w (upd H s.heap.objs.size (.tup [.int (i : Nat), x])) h2 s.heap.objs.size (.tup [.int (i : Nat), x]) := ⟨by show 2 ≤ sizeLine; decide, [.int i tk, y], .cons ⟨_, rfl⟩ (.cons ru .nil), ⟨_, made2, rfl, _, rfl⟩⟩
    have I1 := I.turnedNew (t' := tk + 1) (ch := [e, it]) (fun b ob hb q => (sb.2 b fun z => hb (by simp [z])).trans (same b ob (fun z => hb (by simp [z])) (fun z => hb (by simp [z])) q)) fp (Nat.le_refl _) new
    refine ⟨.ref s.heap.objs.size, _, I1, rfl, ⟨_, x, rfl, I.hok.fresh (Nat.le_refl _), rfl, fun ys hy => by rw [I.tuple_inj hy hq]; exact hx⟩, ⟨⟨y, ?_⟩, st.1.at fun o q => (sb.2 it n1.symm).trans q⟩, fun b hb => ?_⟩
    · rw [show ((i + 1 : Nat) : Int) = (i : Int) + 1 by omega]
      exact he2
    · have hb2 : b < s.heap.objs.size := by
        rcases List.mem_cons.mp hb with rfl | hb
        · exact le
        · rw [List.mem_singleton.mp hb]
          exact li
      rw [upd_ne (Nat.ne_of_lt hb2)]
      exact (fp b hb).1
  done := by
    rintro X rfl rfl rfl calm i pins s σ H E I fp ⟨⟨old, he⟩, hi⟩ ⟨xs, hq, hx⟩
    obtain ⟨its, rv, ht, _⟩ := I.tuple hq
    obtain ⟨n1, n2, n3⟩ := apart he hi ht
    obtain ⟨f0, f1, f2, f3, f4, f5⟩ := fp it (List.mem_cons_of_mem _ (List.mem_singleton.mpr rfl))
    have hl := rv.length
    refine next_end (I.ok.hd calm) he hi ht (by simp; omega) fun h' eb => ⟨rfl, I.turned (t' := s.toks) (fun b o hb q => eb b o hb q) f0 f1 f3 f4 f5⟩
  self := fun A i s Q E st h => let ⟨⟨_, he⟩, _⟩ := st; wpAny_pyIter_enum he h
/-- for i, x in enumerate(t) -/
def iEnT (K : PySem.W.Frag) (ta : TA) : TI := fun σ H R => ta σ H fun vs H1 => ∃ a xs, vs = [.ref a] ∧ SqT K H1 a xs ∧ R (Iet K a) H1
theorem pi_enT {X : Cx} {e : Expr} {ta : TA} {p pos tpos : Pos} {es : List Expr} {k : Nat} (hg : Gl X "enumerate") (hm : X.mg "enumerate" = none) (ha : PA X [e] ta) (hs : starEach [e] X.env = [(false, eval e X.env)] := by rfl) :
    PI X (.Tuple es k tpos) (.Call (.Name "enumerate" p) [e] [] pos) (iEnT X.K ta) := by
  refine ⟨fun pins s σ H R I h => Call_ (ld_blt I hg hm boot_enumerate (PyProof.Rows.callWith_type1 (thn (ha.run pos pins s σ H _ I h) fun us s1 z => ?_) hs rfl))⟩
  obtain ⟨vs, H1, I1, r1, a, xs, rfl, hq, q⟩ := z
  obtain ⟨u, rfl, ru⟩ := vals1 r1
  have hu : u = Value.ref a := ru
  subst hu
  obtain ⟨its, rv, ht, _⟩ := I1.tuple hq
  refine call_new (begins_tuple a its.toArray) ht fun h' he hit same => wpAny_pyIter_enum he ?_
  have I2 := I1.kept (t' := s1.toks) same
  refine ⟨s1.heap.objs.size + 1, [s1.heap.objs.size + 1, s1.heap.objs.size], _, _, H1, rfl, I2, turn a (s1.heap.objs.size + 1) s1.heap.objs.size, ⟨⟨.none, he⟩, ⟨_, hit, rfl, rfl⟩⟩, fun b hb => ?_, q⟩
  have low : s1.heap.objs.size ≤ b := by
    rcases List.mem_cons.mp hb with rfl | hb
    · exact Nat.le_succ _
    · rw [List.mem_singleton.mp hb]
      exact Nat.le_refl _
  exact I1.fpOk low (I1.hok.fresh low)
theorem for_enT {K : PySem.W.Frag} {a : Addr} {xs : List V} {g : TG} {tb : TS} {D : Ends} {σ : L2.St} {H : Hp} (Pv : Nat → L2.St → Hp → Prop) (h0 : Pv 0 σ H) (hl : ∀ i σ H, i ≤ xs.length → Pv i σ H → SqT K H a xs)
    (hs : ∀ i x σ H T, xs[i]? = some x → Pv i σ H → H T = none → g (.ref T) σ (upd H T (.tup [.int (i : Nat), x])) fun σ2 H2 => tb { D with nx := Pv (i + 1), ct := Pv (i + 1), bk := D.nx } σ2 H2) (hd : ∀ σ H, Pv xs.length σ H → D.nx σ H) :
    ∃ W : Nat → Nat → L2.St → Hp → Prop, (∃ m, W 0 m σ H) ∧ ∀ i m σ H, W i m σ H →
      ((Iet K a).stop i H ∧ D.nx σ H) ∨ ((Iet K a).go i H ∧ ∃ N : L2.St → Hp → Prop, (∀ σ' H', N σ' H' → ∃ m', m' < m ∧ W (i + 1) m' σ' H') ∧ ∀ x H', (Iet K a).yld i H x H' → g x σ H' fun σ2 H2 => tb { D with nx := N, ct := N, bk := D.nx } σ2 H2) := by
  refine ⟨fun i m σ H => m = xs.length - i ∧ i ≤ xs.length ∧ Pv i σ H, ⟨_, rfl, Nat.zero_le _, h0⟩, ?_⟩
  rintro i m σ H ⟨rfl, hi, p⟩
  have q := hl i σ H hi p
  rcases Nat.lt_or_ge i xs.length with lt | ge
  · have hx := List.getElem?_eq_getElem lt
    refine .inr ⟨⟨xs, _, q, hx⟩, Pv (i + 1), fun σ' H' p' => ⟨xs.length - (i + 1), by omega, rfl, lt, p'⟩, ?_⟩
    rintro x H' ⟨T, y, rfl, nT, rfl, hy⟩
    exact hs i y σ H T (hy xs q) p nT
  · have e : i = xs.length := Nat.le_antisymm hi ge
    exact .inl ⟨⟨xs, q, ge⟩, hd σ H (e ▸ p)⟩
end En
namespace Us
open PySem PySem.Spec PyProof.Rows L2
def rListOf (K : PySem.W.Frag) : List V → Hp → VK → Prop := fun xs H Q => ∃ p ys, xs = [V.ref p] ∧ (SqL K H p ys ∨ SqT K H p ys) ∧ ∀ l, H l = none → Q (.ref l) (upd H l (.lst ys))
/-- the block of a comprehension within a comprehension -/
theorem blkOk_in {N : List Str} {sc scopeO scope2 : Scope} {own : List (Str × Nat)} {cl : List (Str × Addr)} {C : Addr} {env : Env} (h : blkC N (relS scopeO sc) scope2 own = true) (e : env.scope = sc) : BlkOk N (compEnvC scopeO cl C env).scope scope2 own := by
  subst e
  exact blkOk_by h
section
variable {X : Cx} {K : PySem.W.Frag} {pos : Pos}
theorem pi_listK {tg l : Expr} {tl : TE} (hK : X.K = K) (hl : PE X l tl) : PI X tg l (iList K tl) := hK ▸ pi_list hl
theorem pi_tupK {tg l : Expr} {tl : TE} (hK : X.K = K) (hl : PE X l tl) : PI X tg l (iTup K tl) := hK ▸ pi_tup hl
theorem pg_tupK {es : List Expr} {k : Nat} {t : TGs} {n : Nat} (hK : X.K = K) (hc : X.calm = true) (h : PGs X es t)
    (hn : (assignEach es X.env).length = n := by rfl) (hst : (assignEach es X.env).findIdx? (·.1) = none := by rfl) : PG X (.Tuple es k pos) (gTup K n t) := hK ▸ pg_tup hc h hn hst
theorem pg_unlK {es : List Expr} {k : Nat} {t : TGs} {n : Nat} (hK : X.K = K) (hc : X.calm = true) (h : PGs X es t)
    (hn : (assignEach es X.env).length = n := by rfl) (hst : (assignEach es X.env).findIdx? (·.1) = none := by rfl) : PG X (.Tuple es k pos) (gUnl K n t) := hK ▸ pg_unl hc h hn hst
theorem pe_fldK {e : Expr} {f : Str} {ta : TE} (hK : X.K = K) (he : PE X e ta) (hb : attributeBase e f X.env (eval e X.env) = eval e X.env) : PE X (.Attribute e f pos) (tFld K ta f) := hK ▸ pe_fld he hb
end
end Us
namespace Pen
open PySem
def top (i : Nat) : Stmt := PySem.Challenge.pw_everycycle_k44_whole_what_the_judge_make.main.body.getD i (.Pass ⟨0, 0, 0, 0⟩)
abbrev cCyc : Stmt := top 1
abbrev cBadN : Stmt := top 2
abbrev cBadR : Stmt := top 3
abbrev sBetween : Stmt := top 5
abbrev sFrom : Stmt := top 6
abbrev sRow : Stmt := top 7
abbrev sRowB : Stmt := top 8
abbrev cGraph : Stmt := top 10
abbrev sNeed : Stmt := top 11
abbrev sGates : Stmt := top 12
abbrev cMach : Stmt := top 14
abbrev sCl : Stmt := top 15
abbrev sCls : Stmt := top 16
abbrev sNow : Stmt := top 17
abbrev sBehind : Stmt := top 18
abbrev sGivenOf : Stmt := top 20
abbrev sOppositesOf : Stmt := top 21
abbrev sAgainst : Stmt := top 22
abbrev sAgainstWish : Stmt := top 23
abbrev sPen : Stmt := top 25
abbrev sDraw : Stmt := top 26
abbrev sPick : Stmt := top 27
abbrev sDrawn : Stmt := top 28
abbrev sValues : Stmt := top 29
abbrev sBit : Stmt := top 30
abbrev sXor : Stmt := top 31
abbrev sFlip : Stmt := top 32
abbrev sMach : Stmt := top 33
abbrev sMade : Stmt := top 34
abbrev sTick : Stmt := top 35
abbrev sLonger : Stmt := top 36
abbrev sRows : Stmt := top 37
abbrev sLDrawnClause : Stmt := top 38
abbrev sLSorted : Stmt := top 39
abbrev sLFits : Stmt := top 40
abbrev sLGateClause : Stmt := top 41
abbrev sLGraphClauses : Stmt := top 42
abbrev sLGiven : Stmt := top 43
abbrev sLAgainst : Stmt := top 44
abbrev sLAgainstRow : Stmt := top 45
abbrev sLTasks : Stmt := top 46
abbrev sLInSet : Stmt := top 47
abbrev sLSmallMachine : Stmt := top 48
abbrev sLStateRow : Stmt := top 49
abbrev sLSpiced : Stmt := top 50
abbrev sLAllTrue : Stmt := top 51
abbrev sLaw : Stmt := top 52
end Pen
namespace Pen
open PySem PySem.Spec PyProof.Rows L2
/-! ## The pen: the source of all draws. Its three defs, once for each law -/
abbrev FnP (K : PySem.W.Frag) (x : Str) (st : Stmt) (f : Addr) (fd : FuncData) : Prop := FunD K x x (defArgs st) (defBody st) (defScope st) [] [] f fd
/-- the pen's pairs: cells, at, digits, count, fold -/
def cols (c : Addr) (a d n f : Int) : List (Key × V) := [(.inr "cells", .ref c), (.inr "at", .int a), (.inr "digits", .int d), (.inr "count", .int n), (.inr "fold", .int f)]
section
variable {c : Addr} {a d n f z : Int}
theorem get_cells : valV (cols c a d n f) (.inr "cells" : Key) = some (.ref c) := by rfl
theorem get_at : valV (cols c a d n f) (.inr "at" : Key) = some (.int a) := by rfl
theorem get_digits : valV (cols c a d n f) (.inr "digits" : Key) = some (.int d) := by rfl
theorem get_count : valV (cols c a d n f) (.inr "count" : Key) = some (.int n) := by rfl
theorem get_fold : valV (cols c a d n f) (.inr "fold" : Key) = some (.int f) := by rfl
theorem put_at : putK (cols c a d n f) (.inr "at" : Key) (.int z) = cols c z d n f := by rfl
theorem put_digits : putK (cols c a d n f) (.inr "digits" : Key) (.int z) = cols c a z n f := by rfl
theorem put_count : putK (cols c a d n f) (.inr "count" : Key) (.int z) = cols c a d z f := by rfl
theorem put_fold : putK (cols c a d n f) (.inr "fold" : Key) (.int z) = cols c a d n z := by rfl
variable {H : Hp} {p : Addr}
theorem dg_cells (h : H p = some (.dK (cols c a d n f))) : DGet H p (.str "cells") (some (.ref c)) := DGet.k (k := .inr "cells") h
theorem dg_at (h : H p = some (.dK (cols c a d n f))) : DGet H p (.str "at") (some (.int a)) := DGet.k (k := .inr "at") h
theorem dg_digits (h : H p = some (.dK (cols c a d n f))) : DGet H p (.str "digits") (some (.int d)) := DGet.k (k := .inr "digits") h
theorem dg_count (h : H p = some (.dK (cols c a d n f))) : DGet H p (.str "count") (some (.int n)) := DGet.k (k := .inr "count") h
theorem dg_fold (h : H p = some (.dK (cols c a d n f))) : DGet H p (.str "fold") (some (.int f)) := DGet.k (k := .inr "fold") h
theorem five : 5 < sizeLine := by decide
theorem dp_at (h : H p = some (.dK (cols c a d n f))) : DPut H p (.str "at") (.int z) (upd H p (.dK (cols c z d n f))) := DPut.k (k := .inr "at") h five
theorem dp_digits (h : H p = some (.dK (cols c a d n f))) : DPut H p (.str "digits") (.int z) (upd H p (.dK (cols c a z n f))) := DPut.k (k := .inr "digits") h five
theorem dp_count (h : H p = some (.dK (cols c a d n f))) : DPut H p (.str "count") (.int z) (upd H p (.dK (cols c a d z f))) := DPut.k (k := .inr "count") h five
theorem dp_fold (h : H p = some (.dK (cols c a d n f))) : DPut H p (.str "fold") (.int z) (upd H p (.dK (cols c a d n z))) := DPut.k (k := .inr "fold") h five
end
/-- a pen stands at p, its cells at c; so many draws were made at most -/
def PenC (H : Hp) (p c : Addr) (m : Nat) : Prop :=
  ∃ (ns : List Int) (a d n f : Int), H p = some (.dK (cols c a d n f)) ∧ H c = some (.lst (ns.map V.int)) ∧ ns.length ≤ 1000 ∧ 0 ≤ a ∧ 0 ≤ n ∧ n ≤ m ∧ 0 ≤ f ∧ f < 2147483648
/-- all but the object at p stands as it stood -/
def But (p : Addr) (H H' : Hp) : Prop := ∀ b o, H b = some o → b ≠ p → H' b = some o
theorem But.upd {p : Addr} {H : Hp} {o : HO} : But p H (upd H p o) := fun b o e h => by
  rw [upd_ne h]
  exact e
theorem But.trans {p : Addr} {H H1 H2 : Hp} (a : But p H H1) (b : But p H1 H2) : But p H H2 := fun c o e h => b c o (a c o e h) h
theorem But.refl {p : Addr} {H : Hp} : But p H H := fun _ _ e _ => e
theorem But.of_same {p : Addr} {H H' : Hp} (s : Same H H') : But p H H' := fun c o e _ => s c o e
theorem PenC.same {H H' : Hp} {p c : Addr} {m : Nat} (h : PenC H p c m) (s : Same H H') : PenC H' p c m := by
  obtain ⟨ns, a, d, n, f, h1, h2, r⟩ := h
  exact ⟨ns, a, d, n, f, s _ _ h1, s _ _ h2, r⟩
theorem PenC.more {H : Hp} {p c : Addr} {m m' : Nat} (h : PenC H p c m) (s : m ≤ m') : PenC H p c m' := by
  obtain ⟨ns, a, d, n, f, h1, h2, h3, ha, h4, h5, r⟩ := h
  exact ⟨ns, a, d, n, f, h1, h2, h3, ha, h4, by omega, r⟩
theorem PenC.upd {H : Hp} {p c q : Addr} {m : Nat} {o : HO} (h : PenC H p c m) (n1 : q ≠ p) (n2 : q ≠ c) : PenC (upd H q o) p c m := by
  obtain ⟨ns, a, d, n, f, h1, h2, r⟩ := h
  exact ⟨ns, a, d, n, f, by rw [upd_ne n1.symm]; exact h1, by rw [upd_ne n2.symm]; exact h2, r⟩
theorem PenC.free {H : Hp} {p c q : Addr} {m : Nat} (h : PenC H p c m) (e : H q = none) : q ≠ p ∧ q ≠ c := by
  obtain ⟨ns, a, d, n, f, h1, h2, r⟩ := h
  refine ⟨fun z => ?_, fun z => ?_⟩
  · rw [z, h1] at e
    cases e
  · rw [z, h2] at e
    cases e
/-- the script, as each def is handed it -/
def spPen (K : PySem.W.Frag) : Sp := fun vs H Q _ => ∃ (a : Addr) (ns : List Int), vs = [.ref a] ∧ SqL K H a (ns.map V.int) ∧ ns.length ≤ 63 ∧
  ∀ (p c : Addr) (H' : Hp), H p = none → Same H H' → PenC H' p c 0 → Q (.ref p) H'
def spDraw : Sp := fun vs H Q _ => ∃ (p c : Addr) (m : Nat) (many : Int), vs = [.ref p, .int many] ∧ PenC H p c m ∧ m ≤ 1000000000000 ∧ 0 < many ∧ many < 1073741824 ∧
  ∀ (r : Int) (H' : Hp), 0 ≤ r → r < many → PenC H' p c (m + 1) → But p H H' → Q (.int r) H'
def spPick (K : PySem.W.Frag) : Sp := fun vs H Q _ => ∃ (p c l : Addr) (m : Nat) (xs : List V), vs = [.ref p, .ref l] ∧ PenC H p c m ∧ m ≤ 1000000000000 ∧ l ≠ p ∧ SqL K H l xs ∧ 0 < xs.length ∧ xs.length ≤ 1000 ∧
  ∀ (v : V) (i : Nat) (H' : Hp), xs[i]? = some v → PenC H' p c (m + 1) → But p H H' → Q v H'
abbrev pN : List Str := ["_law_script", "_law_fold", "_law_cell"]
abbrev dN : List Str := ["_law_pen_here", "_law_many", "_law_cell", "_law_digit", "_law_blend"]
abbrev kN : List Str := ["_law_pen_here", "_law_some"]
theorem int_item {ns : List Int} {i : Nat} {y : V} (h : (ns.map V.int)[i]? = some y) : ∃ z, y = V.int z := by
  rw [List.getElem?_map] at h
  cases e : ns[i]? with
  | none =>
    rw [e] at h
    cases h
  | some u =>
    rw [e] at h
    exact ⟨u, (Option.some.inj h).symm⟩
structure Txt (mg : Str → Option Value) : Prop where
  len : mg "len" = none
  int : mg "int" = none
  list : mg "list" = none
section
variable {P : Program} {w : World} {K : PySem.W.Frag} {mg : Str → Option Value} {base : Heap} {f : Addr} {fd : FuncData}
theorem scPen : FnScope pN ["_law_script"] (defScope sPen) := ⟨rfl, rfl, rfl, by decide +kernel, rfl, by decide +kernel, by decide +kernel⟩
theorem scDraw : FnScope dN ["_law_pen_here", "_law_many"] (defScope sDraw) := ⟨rfl, rfl, rfl, by decide +kernel, rfl, by decide +kernel, by decide +kernel⟩
theorem scPick : FnScope kN ["_law_pen_here", "_law_some"] (defScope sPick) := ⟨rfl, rfl, rfl, by decide +kernel, rfl, by decide +kernel, by decide +kernel⟩
theorem ok_pen {CX : CXT} (F : FnP K "_law_pen" sPen f fd) (T : Txt mg) : FnOk P w K mg base CX 1 f fd ["_law_script"] (spPen K) := by
  refine F.ok scPen (fun vs H Q E h => ?_) (fun cdv A outer s H vs Q E hr h => ?_)
  · obtain ⟨a, ns, rfl, _⟩ := h
    rfl
  · obtain ⟨a, ns, rfl, hS, hl, k⟩ := h
    refine ⟨_, PSs.nox (pss_cons (ps_set (i := 1) scPen.nd rfl (Or.inl rfl) pe_int)
      (pss_cons (ps_for PassesOwn.never rfl (pi_list (pv 0)) (pg_name (i := 2) scPen.nd rfl (Or.inl rfl))
        (pss_one (ps_set (i := 1) scPen.nd rfl (Or.inl rfl) (pe_op op_mod (pe_callTy call_int1 (by rfl) T.int (by decide +kernel) (pa_cons (pe_op op_add (pe_op op_mul (pv 1) pe_int) (pv 2)) pa_nil)) pe_int))))
      (pss_one (ps_ret (pe_disp (pps_cons pe_str (pe_callTy call_list_of (by rfl) T.list (by decide +kernel) (pa_cons (pv 0) pa_nil)) (pps_cons pe_str pe_int (pps_cons pe_str pe_int (pps_cons pe_str pe_int (pps_cons pe_str (pv 1) pps_nil))))) (by rfl) (by rfl) (fun z => by cases z) (by decide)))))), ?_⟩
    refine ⟨_, rfl, a, rfl, ⟨_, hS⟩, for_list (K := K) (a := a) (xs := ns.map V.int) (fun i σ H2 => ∃ (z : Int) (v : Option V), σ = [some (.ref a), some (.int z), v] ∧ H2 = H ∧ 0 ≤ z ∧ z < 1000000007)
      ⟨0, none, rfl, rfl, by decide, by decide⟩ (fun i σ H2 _ ⟨_, _, _, e, _⟩ => by rw [e]; exact hS) ?_ ?_⟩
    · rintro i y σ H2 hi ⟨z, v, rfl, rfl, h0, h1⟩
      obtain ⟨u, rfl⟩ := int_item hi
      refine ⟨_, rfl, _, _, rfl, rfl, .inr ⟨by decide, by decide⟩, _, rfl, _, _, rfl, rfl, .inl ⟨_, rfl, _, _, rfl, rfl, (by show (0 : Int) < 1000000007; decide), ?_⟩⟩
      exact ⟨_, _, rfl, rfl, Int.emod_nonneg _ (by decide), Int.emod_lt_of_pos _ (by decide)⟩
    · rintro σ H2 ⟨z, v, rfl, rfl, h0, h1⟩
      intro p hp
      have sp : Same H2 (upd H2 p (.dK [])) := fun b o e => by
        rw [upd_ne (ne_of_none e hp)]
        exact e
      refine ⟨_, rfl, a, _, rfl, .inl (sp.seq hS), fun l hl0 => ?_⟩
      have npl : p ≠ l := fun q => by
        rw [← q, upd_same] at hl0
        cases hl0
      have hl1 : H2 l = none := by
        rw [upd_ne npl.symm] at hl0
        exact hl0
      refine ⟨_, rfl, by rw [upd_ne npl, upd_same], cols l 0 0 0 z, rfl, (by show 5 ≤ 15; decide), ?_⟩
      refine k p l _ hp (fun b o e => ?_) ⟨ns, 0, 0, 0, z, upd_same, ?_, by omega, by decide, by decide, by decide, h0, by omega⟩
      · rw [upd_ne (ne_of_none e hp), upd_ne (ne_of_none e hl1), upd_ne (ne_of_none e hp)]
        exact e
      · rw [upd_ne npl.symm, upd_same]
theorem ok_draw {CX : CXT} (F : FnP K "_law_draw" sDraw f fd) (T : Txt mg) : FnOk P w K mg base CX 1 f fd ["_law_pen_here", "_law_many"] spDraw := by
  refine F.ok scDraw (fun vs H Q E h => ?_) (fun cdv A outer s H vs Q E hr h => ?_)
  · obtain ⟨p, c, m, many, rfl, _⟩ := h
    rfl
  · obtain ⟨p, c, m, many, rfl, ⟨ns, a, d, n, fo, hp, hc, hz, a0, n0, nm, f0, f1⟩, hm, m0, m1, k⟩ := h
    have hu := hu_of hr
    have ncp : c ≠ p := ne_of hc hp (by intro z; cases z)
    refine ⟨_, PSs.nox (pss_cons (ps_dput hu (pv 0) pe_str (pe_op op_add (pe_dget hu (pv 0) pe_str (fun _ _ => rfl)) pe_int) rfl)
      (C8.pss_cut (ps_if (PW.pt (pw_and (pt_cmpR op_eq (pe_dget hu (pv 0) pe_str (fun _ _ => rfl)) pe_int (nomark _))
          (pw_and1 (pt_cmpR op_lt (pe_dget hu (pv 0) pe_str (fun _ _ => rfl)) (pe_callB call_len_seq (by rfl) T.len PySem.boot_len (pa_cons (pe_dget hu (pv 0) pe_str (fun _ _ => rfl)) pa_nil)) (nomark _)))))
        (pss_cons (ps_set (i := 2) scDraw.nd rfl (Or.inl rfl) (pe_ix ix_list (pe_dget hu (pv 0) pe_str (fun _ _ => rfl)) (pe_dget hu (pv 0) pe_str (fun _ _ => rfl)) (fun _ _ => rfl)))
        (pss_cons (ps_dput hu (pv 0) pe_str (pe_op op_add (pe_dget hu (pv 0) pe_str (fun _ _ => rfl)) pe_int) rfl)
        (pss_one (ps_if (pt_cmpR op_ge (pv 2) (pe_op op_pow pe_int pe_int) (nomark _))
          (pss_one (ps_dput hu (pv 0) pe_str (pe_op op_sub (pv 2) (pe_op op_pow pe_int pe_int)) rfl))
          (pss_one (ps_dput hu (pv 0) pe_str (pe_op op_mod (pe_callTy call_int1 (by rfl) T.int (by decide +kernel) (pa_cons (pe_op op_add (pe_op op_mul (pe_dget hu (pv 0) pe_str (fun _ _ => rfl)) pe_int) (pv 2)) pa_nil)) pe_int) rfl))))))
        pss_nil)
      (pss_cons (ps_if (pt_cmpR op_gt (pe_dget hu (pv 0) pe_str (fun _ _ => rfl)) pe_int (nomark _))
        (pss_cons (ps_set (i := 3) scDraw.nd rfl (Or.inl rfl) (pe_op op_mod (pe_callTy call_int1 (by rfl) T.int (by decide +kernel) (pa_cons (pe_dget hu (pv 0) pe_str (fun _ _ => rfl)) pa_nil)) (pv 1)))
        (pss_cons (ps_dput hu (pv 0) pe_str (pe_op op_fdiv (pe_dget hu (pv 0) pe_str (fun _ _ => rfl)) (pv 1)) rfl)
        (pss_one (ps_ret (pv 3)))))
        pss_nil)
      (pss_cons (ps_set (i := 4) scDraw.nd rfl (Or.inl rfl) (pe_op op_add (pe_op op_add (pe_dget hu (pv 0) pe_str (fun _ _ => rfl)) (pe_op op_mul (pe_dget hu (pv 0) pe_str (fun _ _ => rfl)) pe_int)) pe_int))
      (pss_one (ps_ret (pe_op op_mod (pe_op op_fdiv (pe_callTy call_int1 (by rfl) T.int (by decide +kernel) (pa_cons (pe_op op_mod (pe_op op_pow (pv 4) pe_int) pe_int) pa_nil)) pe_int) (pv 1)))))))), ?_⟩
    -- count
    refine ⟨_, rfl, _, _, rfl, dg_count hp, _, _, rfl, rfl, _, rfl, p, _, rfl, dp_count hp, ?_⟩
    have hp1 : ∀ {o : HO}, upd H p o p = some o := upd_same
    have hc1 : ∀ {o : HO}, upd H p o c = some (.lst (ns.map V.int)) := by
      intro o
      rw [upd_ne ncp]
      exact hc
    refine ⟨fun σ H2 => ∃ (a' d' fo' : Int) (cell : Option V), σ = [some (.ref p), some (.int many), cell, none, none] ∧ H2 = upd H p (.dK (cols c a' d' (n + 1) fo')) ∧ 0 ≤ a' ∧ 0 ≤ fo' ∧ fo' < 2147483648, ?_, ?_⟩
    · refine ⟨_, rfl, _, _, rfl, dg_digits hp1, rfl, _, rfl, ?_⟩
      refine ite2 (fun _ => ?_) (fun _ => ?_)
      · refine ⟨_, rfl, _, _, rfl, dg_at hp1, _, rfl, _, _, rfl, dg_cells hp1, _, _, rfl, .inl (SqL.of hc1), _, _, rfl, rfl, _, rfl, ?_⟩
        refine ite2 (fun hlt => ?_) (fun _ => ?_)
        · have hlt := of_decide_eq_true hlt
          have hj : a.toNat < (ns.map V.int).length := by omega
          obtain ⟨u, hu2⟩ := int_item (List.getElem?_eq_getElem hj)
          have hit : (ns.map V.int)[a.toNat]? = some (V.int u) := by
            rw [List.getElem?_eq_getElem hj, hu2]
          refine ⟨_, rfl, _, _, rfl, dg_cells hp1, _, rfl, _, _, rfl, dg_at hp1, _, _, _, _, rfl, rfl, SqL.of hc1, at_of (j := a.toNat) (by omega) hit, ?_⟩
          refine ⟨_, rfl, _, _, rfl, dg_at hp1, _, _, rfl, rfl, _, rfl, p, _, rfl, dp_at hp1, ?_⟩
          rw [upd_upd]
          refine ⟨_, rfl, _, _, rfl, rfl, ⟨by decide, by decide, by decide⟩, _, _, rfl, rfl, _, rfl, ?_⟩
          refine ite2 (fun _ => ?_) (fun _ => ?_)
          · refine ⟨_, rfl, _, _, rfl, rfl, ⟨by decide, by decide, by decide⟩, _, _, rfl, rfl, _, rfl, p, _, rfl, dp_digits hp1, ?_⟩
            rw [upd_upd]
            exact ⟨_, _, _, _, rfl, rfl, by omega, f0, f1⟩
          · refine ⟨_, rfl, _, _, rfl, dg_fold hp1, _, _, rfl, rfl, .inr ⟨by decide, by decide⟩, _, rfl, _, _, rfl, rfl, .inl ⟨_, rfl, _, _, rfl, rfl, (by show (0 : Int) < 2147483587; decide), ?_⟩⟩
            refine ⟨_, rfl, p, _, rfl, dp_fold hp1, ?_⟩
            rw [upd_upd]
            exact ⟨_, _, _, _, rfl, rfl, by omega, Int.emod_nonneg _ (by decide), Int.lt_trans (Int.emod_lt_of_pos _ (by decide)) (by decide)⟩
        · exact ⟨_, _, _, _, rfl, rfl, a0, f0, f1⟩
      · exact ⟨_, _, _, _, rfl, rfl, a0, f0, f1⟩
    · rintro σ H2 ⟨a', d', fo', cell, rfl, rfl, h0, g0, g1⟩
      refine ⟨_, rfl, _, _, rfl, dg_digits hp1, _, _, rfl, rfl, _, rfl, ?_⟩
      refine ite2 (fun _ => ?_) (fun _ => ?_)
      · refine ⟨_, rfl, _, _, rfl, dg_digits hp1, .inl ⟨_, rfl, _, rfl, _, _, rfl, rfl, m0, ?_⟩⟩
        refine ⟨_, rfl, _, _, rfl, dg_digits hp1, _, rfl, _, _, rfl, rfl, ⟨m0, m1⟩, _, rfl, p, _, rfl, dp_digits hp1, ?_⟩
        rw [upd_upd]
        refine ⟨_, rfl, k _ _ (Int.emod_nonneg _ (by omega)) (Int.emod_lt_of_pos _ m0) ⟨ns, _, _, _, _, hp1, hc1, hz, h0, by omega, by omega, g0, g1⟩ But.upd⟩
      · refine ⟨_, rfl, _, _, rfl, dg_fold hp1, _, rfl, _, _, rfl, dg_count hp1, _, _, rfl, rfl, .inr ⟨by decide, by decide⟩, _, _, rfl, rfl, _, _, rfl, rfl, ?_⟩
        refine ⟨_, rfl, _, _, rfl, rfl, ⟨by decide, by decide, ?_⟩, _, _, rfl, rfl, (by show (0 : Int) < 2305843009213693951; decide), .inl ⟨_, rfl, _, _, rfl, rfl, ⟨by decide, by decide⟩, _, rfl, _, _, rfl, rfl, m0, ?_⟩⟩
        · omega
        · exact k _ _ (Int.emod_nonneg _ (by omega)) (Int.emod_lt_of_pos _ m0) ⟨ns, _, _, _, _, hp1, hc1, hz, h0, by omega, by omega, g0, g1⟩ But.upd
theorem ok_pick {CX : CXT} {fD : Addr} {fdD : FuncData} (F : FnP K "_law_pick" sPick f fd) (T : Txt mg) (FD : FnP K "_law_draw" sDraw fD fdD) (gD : mg "_law_draw" = some (.ref fD)) (hCX : ∀ X, Passes CX X E0 := by exact fun X => pass0) : FnOk P w K mg base CX 2 f fd ["_law_pen_here", "_law_some"] (spPick K) := by
  have GD : FnOk P w K mg base CX0 1 fD fdD ["_law_pen_here", "_law_many"] spDraw := ok_draw FD T
  have bD : Binds K fdD ["_law_pen_here", "_law_many"] [] := FD.bindsN fun _ _ _ _ _ _ us hl => match us, hl with | [_, _], _ => rfl
  refine F.ok scPick (fun vs H Q E h => ?_) (fun cdv A outer s H vs Q E hr h => ?_)
  · obtain ⟨p, c, l, m, xs, rfl, _⟩ := h
    rfl
  · obtain ⟨p, c, l, m, xs, rfl, hP, hm, hlp, hS, h0, h1, k⟩ := h
    refine ⟨_, PSs.nox (pss_one (ps_ret (pe_ix ix_list (pv 1) (pe_call GD hr rfl gD FD.kp bD .nil pass0 (pa_cons (pv 0) (pa_cons (pe_callB call_len_seq (by rfl) T.len PySem.boot_len (pa_cons (pv 1) pa_nil)) pa_nil))) (fun _ _ => rfl)))), ?_⟩
    refine ⟨_, rfl, _, rfl, _, rfl, _, _, rfl, .inl hS, p, c, m, _, rfl, hP, hm, by omega, by omega, fun r H' r0 r1 hP' hB => ?_⟩
    have hj : r.toNat < xs.length := by omega
    have hS' : SqL K H' l xs := by
      rcases hS with (h | ⟨o, h⟩) | h
      · exact .inl (.inl (hB _ _ h hlp))
      · exact .inl (.inr ⟨o, hB _ _ h hlp⟩)
      · exact .inr h
    exact ⟨_, _, _, _, rfl, rfl, hS', at_of (j := r.toNat) (by omega) (List.getElem?_eq_getElem hj), k _ _ _ (List.getElem?_eq_getElem hj) hP' hB⟩
end
end Pen
namespace Ki
open PySem PySem.Spec PyProof.Rows L2 Pen Dat
/-! ## Of which kind a value is -/
structure Tx (mg : Str → Option Value) : Prop where
  isi : mg "isinstance" = none
  int : mg "int" = none
  bool : mg "bool" = none
  tuple : mg "tuple" = none
  list : mg "list" = none
  len : mg "len" = none
  all : mg "all" = none
def betD (d : PyData) (lo hi : Int) : Bool :=
  match d with
  | .int i => decide (lo ≤ i) && decide (i ≤ hi)
  | _ => false
def fromD (d : PyData) (lo : Int) : Bool :=
  match d with
  | .int i => decide (i ≥ lo)
  | _ => false
def rowsD (d : PyData) : List PyData :=
  match d with
  | .list ds => ds
  | .tuple ds => ds
  | _ => []
def rowB (d : PyData) (many lo hi : Int) : Bool := isRowD d && (decide (((rowsD d).length : Int) = many) && (rowsD d).all fun e => betD e lo hi)
def spBetween (K : PySem.W.Frag) : Sp := fun vs H Q _ => ∃ (v : V) (lo hi : Int) (d : PyData), vs = [v, .int lo, .int hi] ∧ Dp K H v d ∧ Q (.bl (betD d lo hi)) H
def spFrom (K : PySem.W.Frag) : Sp := fun vs H Q _ => ∃ (v : V) (lo : Int) (d : PyData), vs = [v, .int lo] ∧ Dp K H v d ∧ Q (.bl (fromD d lo)) H
def spRow (K : PySem.W.Frag) : Sp := fun vs H Q _ => ∃ (v : V) (d : PyData), vs = [v] ∧ Dp K H v d ∧ ∀ H', Same H H' → Q (.bl (isRowD d)) H'
def spRowB (K : PySem.W.Frag) : Sp := fun vs H Q _ => ∃ (v : V) (many lo hi : Int) (d : PyData), vs = [v, .int many, .int lo, .int hi] ∧ Dp K H v d ∧ (rowsD d).length ≤ 1000 ∧ ∀ H', Same H H' → Q (.bl (rowB d many lo hi)) H'
section
variable {P : Program} {w : World} {K : PySem.W.Frag} {mg : Str → Option Value} {base : Heap} {f : Addr} {fd : FuncData}
theorem same_new {H : Hp} {p : Addr} {u : HO} (np : H p = none) : Same H (upd H p u) := fun b o e => by
  rw [upd_ne (ne_of_none e np)]
  exact e
theorem scBetween : FnScope ["value", "least", "most"] ["value", "least", "most"] (defScope sBetween) := ⟨rfl, rfl, rfl, by decide +kernel, rfl, by decide +kernel, by decide +kernel⟩
theorem scFrom : FnScope ["value", "least"] ["value", "least"] (defScope sFrom) := ⟨rfl, rfl, rfl, by decide +kernel, rfl, by decide +kernel, by decide +kernel⟩
theorem scRow : FnScope ["value"] ["value"] (defScope sRow) := ⟨rfl, rfl, rfl, by decide +kernel, rfl, by decide +kernel, by decide +kernel⟩
abbrev rbN : List Str := ["value", "many", "least", "most", "part"]
theorem scRowB : FnScope rbN ["value", "many", "least", "most"] (defScope sRowB) := ⟨rfl, rfl, rfl, by decide +kernel, rfl, by decide +kernel, by decide +kernel⟩
theorem ok_between (F : FnP K "is_between" sBetween f fd) (T : Tx mg) : FnOk P w K mg base CX0 1 f fd ["value", "least", "most"] (spBetween K) := by
  refine F.ok scBetween (fun vs H Q E h => ?_) (fun cdv A outer s H vs Q E hr h => ?_)
  · obtain ⟨v, lo, hi, d, rfl, _⟩ := h
    rfl
  · obtain ⟨v, lo, hi, d, rfl, hd, q⟩ := h
    refine ⟨_, PSs.nox (pss_one (ps_ret (pe_and (pe_callB call_isi (by rfl) T.isi (by decide +kernel) (pa_cons (pv 0) (pa_cons (pe_bltn (v := .ty "int") (by rfl) T.int (by decide +kernel) rfl) pa_nil)))
      (pe_and (pe_not (pe_callB call_isi (by rfl) T.isi (by decide +kernel) (pa_cons (pv 0) (pa_cons (pe_bltn (v := .ty "bool") (by rfl) T.bool (by decide +kernel) rfl) pa_nil))))
      (pe_one (pe_chain op_le op_le (pv 1) (pv 0) (pv 2))))))), ?_⟩
    refine ⟨_, rfl, _, _, _, _, _, rfl, .ty _, ty_of hd, kit_int hd, _, rfl, ?_⟩
    have kb := kit_bool hd
    have tb := ty_of hd
    cases hd with
    | non => exact iteF q
    | str x => exact iteF q
    | lst _ _ => exact iteF q
    | tup _ _ => exact iteF q
    | bl b => exact iteT ⟨_, rfl, _, _, _, _, _, rfl, .ty _, tb, kb, _, rfl, _, rfl, iteF q⟩
    | int i =>
      refine iteT ⟨_, rfl, _, _, _, _, _, rfl, .ty _, tb, kb, _, rfl, _, rfl, iteT ?_⟩
      refine ⟨_, rfl, _, rfl, _, _, rfl, rfl, _, rfl, ite2 (fun h1 => ?_) (fun h1 => ?_)⟩
      · refine ⟨_, rfl, _, _, rfl, rfl, ?_⟩
        have e : (decide (lo ≤ i) && decide (i ≤ hi)) = decide (i ≤ hi) := by
          rw [h1]
          rfl
        show Q (V.bl (decide (i ≤ hi))) H
        rw [← e]
        exact q
      · have e : (decide (lo ≤ i) && decide (i ≤ hi)) = false := by
          rw [Bool.eq_false_iff.mpr h1]
          rfl
        show Q (V.bl false) H
        rw [← e]
        exact q
theorem ok_from (F : FnP K "is_from" sFrom f fd) (T : Tx mg) : FnOk P w K mg base CX0 1 f fd ["value", "least"] (spFrom K) := by
  refine F.ok scFrom (fun vs H Q E h => ?_) (fun cdv A outer s H vs Q E hr h => ?_)
  · obtain ⟨v, lo, d, rfl, _⟩ := h
    rfl
  · obtain ⟨v, lo, d, rfl, hd, q⟩ := h
    refine ⟨_, PSs.nox (pss_one (ps_ret (pe_and (pe_callB call_isi (by rfl) T.isi (by decide +kernel) (pa_cons (pv 0) (pa_cons (pe_bltn (v := .ty "int") (by rfl) T.int (by decide +kernel) rfl) pa_nil)))
      (pe_and (pe_not (pe_callB call_isi (by rfl) T.isi (by decide +kernel) (pa_cons (pv 0) (pa_cons (pe_bltn (v := .ty "bool") (by rfl) T.bool (by decide +kernel) rfl) pa_nil))))
      (pe_one (pe_cmpR op_ge (pv 0) (pv 1) (nomark _))))))), ?_⟩
    refine ⟨_, rfl, _, _, _, _, _, rfl, .ty _, ty_of hd, kit_int hd, _, rfl, ?_⟩
    have kb := kit_bool hd
    have tb := ty_of hd
    cases hd with
    | non => exact iteF q
    | str x => exact iteF q
    | lst _ _ => exact iteF q
    | tup _ _ => exact iteF q
    | bl b => exact iteT ⟨_, rfl, _, _, _, _, _, rfl, .ty _, tb, kb, _, rfl, _, rfl, iteF q⟩
    | int i =>
      refine iteT ⟨_, rfl, _, _, _, _, _, rfl, .ty _, tb, kb, _, rfl, _, rfl, iteT ?_⟩
      exact ⟨_, rfl, _, rfl, _, _, rfl, rfl, q⟩
theorem ok_row (F : FnP K "is_row" sRow f fd) (T : Tx mg) : FnOk P w K mg base CX0 1 f fd ["value"] (spRow K) := by
  refine F.ok scRow (fun vs H Q E h => ?_) (fun cdv A outer s H vs Q E hr h => ?_)
  · obtain ⟨v, d, rfl, _⟩ := h
    rfl
  · obtain ⟨v, d, rfl, hd, q⟩ := h
    refine ⟨_, PSs.nox (pss_one (ps_ret (pe_callB call_isiT (by rfl) T.isi (by decide +kernel) (pa_cons (pv 0) (pa_cons (pe_tup (pa_cons (pe_bltn (v := .ty "tuple") (by rfl) T.tuple (by decide +kernel) rfl) (pa_cons (pe_bltn (v := .ty "list") (by rfl) T.list (by decide +kernel) rfl) pa_nil))) pa_nil))))), ?_⟩
    refine ⟨_, rfl, (by show 2 ≤ sizeLine; decide), fun p np => ?_⟩
    exact ⟨_, _, _, _, _, _, rfl, upd_same, .cons (.ty _) (.cons (.ty _) .nil), ty_of (dp_same (same_new np) hd), kit_row hd, q _ (same_new np)⟩
theorem take_more {α : Type} {xs : List α} {i : Nat} {x : α} (h : xs[i]? = some x) : xs.take (i + 1) = xs.take i ++ [x] := by
  rw [List.take_succ, h]
  rfl
theorem yes_of {σ : L2.St} {H : Hp} {A B : Hp → Prop} (h : A H) : tYes σ H fun b H3 => if b = true then A H3 else B H3 := by
  show if true = true then A H else B H
  exact iteT h
theorem ok_rowB {fB fR : Addr} {fdB fdR : FuncData} (F : FnP K "is_row_between" sRowB f fd) (T : Tx mg) (FB : FnP K "is_between" sBetween fB fdB) (gB : mg "is_between" = some (.ref fB)) (FR : FnP K "is_row" sRow fR fdR) (gR : mg "is_row" = some (.ref fR)) :
    FnOk P w K mg base CX0 2 f fd ["value", "many", "least", "most"] (spRowB K) := by
  have GB : FnOk P w K mg base CX0 1 fB fdB ["value", "least", "most"] (spBetween K) := ok_between FB T
  have GR : FnOk P w K mg base CX0 1 fR fdR ["value"] (spRow K) := ok_row FR T
  have bB : Binds K fdB ["value", "least", "most"] [] := FB.bindsN fun _ _ _ _ _ _ us hl => match us, hl with | [_, _, _], _ => rfl
  have bR : Binds K fdR ["value"] [] := FR.bindsN fun _ _ _ _ _ _ us hl => match us, hl with | [_], _ => rfl
  refine F.ok scRowB (fun vs H Q E h => ?_) (fun cdv A outer s H vs Q E hr h => ?_)
  · obtain ⟨v, many, lo, hi, d, rfl, _⟩ := h
    rfl
  · obtain ⟨v, many, lo, hi, d, rfl, hd, hz, q⟩ := h
    cases hd with
    | lst hs ha =>
      rename_i a vs ds
      have hlen := dps_len ha
      have hz' : ds.length ≤ 1000 := hz
      refine ⟨_, PSs.nox (pss_one (ps_ret (pe_and (pe_call GR hr (by rfl) gR FR.kp bR .nil pass0 (pa_cons (pv 0) pa_nil))
        (pe_and (pe_cmpR op_eq (pe_callB call_len_seq (by rfl) T.len PySem.boot_len (pa_cons (pv 0) pa_nil)) (pv 1) (nomark _))
        (pe_one (pe_callB (cr_all rfl) (by rfl) T.all (by decide +kernel) (pa_cons
          (pe_lc (own := [("part", 4)]) (g := gName 4) (tt := tYes) rfl scRowB.nd (pi_list (pv 0)) (blkOk_by (N := rbN) (sc := defScope sRowB) (by decide +kernel)) (fun _ _ _ _ _ => pg_name (i := 4) scRowB.nd rfl (Or.inl rfl)) (fun _ _ _ _ _ => pts_nil)
            (fun _ _ _ _ _ => pe_call GB hr (by rfl) gB FB.kp bB .nil pass0 (pa_cons (pv 4) (pa_cons (pv 2) (pa_cons (pv 3) pa_nil))))) pa_nil))))))), ?_⟩
      refine ⟨_, rfl, _, _, rfl, .lst hs ha, fun H1 s1 => ⟨_, rfl, iteT ?_⟩⟩
      refine ⟨_, rfl, _, _, rfl, .inl (s1.seq hs), _, rfl, rfl, _, rfl, ite2 (fun e1 => ?_) (fun e1 => ?_)⟩
      · have e2 : (ds.length : Int) = many := by
          rw [← hlen]
          exact V.int.inj (of_decide_eq_true e1)
        refine ⟨_, rfl, a, rfl, ⟨_, s1.seq hs⟩, fun D nD => ?_⟩
        have sD : Same H1 (upd H1 D (.lst [])) := same_new nD
        refine lc_list (K := K) (a := a) (xs := vs) (fun i H2 => Same H1 H2 ∧ H2 D = some (.lst ((ds.take i).map fun e => V.bl (betD e lo hi)))) ⟨sD, by rw [upd_same]; rfl⟩ (fun i H2 _ ⟨s2, _⟩ => s2.seq (s1.seq hs)) ?_ ?_
        · rintro i v H2 hi ⟨s2, h2⟩
          obtain ⟨e, he, hv⟩ := dps_get ha hi
          refine ⟨rfl, yes_of ?_⟩
          refine ⟨_, rfl, _, rfl, _, rfl, _, _, _, e, rfl, dp_same (s1.trans s2) hv, _, h2, ?_, fun b o z => ?_, ?_⟩
          · rw [List.length_map, List.length_take]
            exact Nat.lt_of_le_of_lt (Nat.min_le_right _ _) (Nat.lt_of_le_of_lt hz' (by decide))
          · rw [upd_ne (ne_of_none z nD)]
            exact s2 _ _ z
          · rw [upd_same, take_more he, List.map_append]
            rfl
        · rintro H2 ⟨s2, h2⟩
          rw [hlen, List.take_length] at h2
          refine ⟨D, ds.map fun e => betD e lo hi, rfl, SqL.of ?_, ?_⟩
          · rw [h2, List.map_map]
            rfl
          · have e3 : rowB (.list ds) many lo hi = (ds.map fun e => betD e lo hi).all id := by
              show (true && (decide ((ds.length : Int) = many) && ds.all fun e => betD e lo hi)) = _
              rw [decide_eq_true e2, List.all_map]
              rfl
            rw [← e3]
            exact q _ (s1.trans s2)
      · have e2 : ¬ (ds.length : Int) = many := fun z => e1 (decide_eq_true (by rw [hlen, z]))
        have e3 : rowB (.list ds) many lo hi = false := by
          show (true && (decide ((ds.length : Int) = many) && ds.all fun e => betD e lo hi)) = false
          rw [decide_eq_false e2]
          rfl
        rw [← e3]
        exact q _ s1
    | tup hs ha =>
      rename_i a vs ds
      have hlen := dps_len ha
      have hz' : ds.length ≤ 1000 := hz
      refine ⟨_, PSs.nox (pss_one (ps_ret (pe_and (pe_call GR hr (by rfl) gR FR.kp bR .nil pass0 (pa_cons (pv 0) pa_nil))
        (pe_and (pe_cmpR op_eq (pe_callB call_len_seq (by rfl) T.len PySem.boot_len (pa_cons (pv 0) pa_nil)) (pv 1) (nomark _))
        (pe_one (pe_callB (cr_all rfl) (by rfl) T.all (by decide +kernel) (pa_cons
          (pe_lc (own := [("part", 4)]) (g := gName 4) (tt := tYes) rfl scRowB.nd (pi_tup (pv 0)) (blkOk_by (N := rbN) (sc := defScope sRowB) (by decide +kernel)) (fun _ _ _ _ _ => pg_name (i := 4) scRowB.nd rfl (Or.inl rfl)) (fun _ _ _ _ _ => pts_nil)
            (fun _ _ _ _ _ => pe_call GB hr (by rfl) gB FB.kp bB .nil pass0 (pa_cons (pv 4) (pa_cons (pv 2) (pa_cons (pv 3) pa_nil))))) pa_nil))))))), ?_⟩
      refine ⟨_, rfl, _, _, rfl, .tup hs ha, fun H1 s1 => ⟨_, rfl, iteT ?_⟩⟩
      refine ⟨_, rfl, _, _, rfl, .inr (seqT_same s1 hs), _, rfl, rfl, _, rfl, ite2 (fun e1 => ?_) (fun e1 => ?_)⟩
      · have e2 : (ds.length : Int) = many := by
          rw [← hlen]
          exact V.int.inj (of_decide_eq_true e1)
        refine ⟨_, rfl, a, rfl, ⟨_, seqT_same s1 hs⟩, fun D nD => ?_⟩
        have sD : Same H1 (upd H1 D (.lst [])) := same_new nD
        refine lc_tup (K := K) (a := a) (xs := vs) (fun i H2 => Same H1 H2 ∧ H2 D = some (.lst ((ds.take i).map fun e => V.bl (betD e lo hi)))) ⟨sD, by rw [upd_same]; rfl⟩ (fun i H2 _ ⟨s2, _⟩ => seqT_same s2 (seqT_same s1 hs)) ?_ ?_
        · rintro i v H2 hi ⟨s2, h2⟩
          obtain ⟨e, he, hv⟩ := dps_get ha hi
          refine ⟨rfl, yes_of ?_⟩
          refine ⟨_, rfl, _, rfl, _, rfl, _, _, _, e, rfl, dp_same (s1.trans s2) hv, _, h2, ?_, fun b o z => ?_, ?_⟩
          · rw [List.length_map, List.length_take]
            exact Nat.lt_of_le_of_lt (Nat.min_le_right _ _) (Nat.lt_of_le_of_lt hz' (by decide))
          · rw [upd_ne (ne_of_none z nD)]
            exact s2 _ _ z
          · rw [upd_same, take_more he, List.map_append]
            rfl
        · rintro H2 ⟨s2, h2⟩
          rw [hlen, List.take_length] at h2
          refine ⟨D, ds.map fun e => betD e lo hi, rfl, SqL.of ?_, ?_⟩
          · rw [h2, List.map_map]
            rfl
          · have e3 : rowB (.tuple ds) many lo hi = (ds.map fun e => betD e lo hi).all id := by
              show (true && (decide ((ds.length : Int) = many) && ds.all fun e => betD e lo hi)) = _
              rw [decide_eq_true e2, List.all_map]
              rfl
            rw [← e3]
            exact q _ (s1.trans s2)
      · have e2 : ¬ (ds.length : Int) = many := fun z => e1 (decide_eq_true (by rw [hlen, z]))
        have e3 : rowB (.tuple ds) many lo hi = false := by
          show (true && (decide ((ds.length : Int) = many) && ds.all fun e => betD e lo hi)) = false
          rw [decide_eq_false e2]
          rfl
        rw [← e3]
        exact q _ s1
    | non =>
      refine ⟨_, PSs.nox (pss_one (ps_ret (pe_and (pe_call GR hr (by rfl) gR FR.kp bR .nil pass0 (pa_cons (pv 0) pa_nil))
        (pe_and (pe_cmpR op_eq (pe_callB call_len_seq (by rfl) T.len PySem.boot_len (pa_cons (pv 0) pa_nil)) (pv 1) (nomark _))
        (pe_one (pe_callB (cr_all rfl) (by rfl) T.all (by decide +kernel) (pa_cons
          (pe_lc (own := [("part", 4)]) (g := gName 4) (tt := tYes) rfl scRowB.nd (pi_list (pv 0)) (blkOk_by (N := rbN) (sc := defScope sRowB) (by decide +kernel)) (fun _ _ _ _ _ => pg_name (i := 4) scRowB.nd rfl (Or.inl rfl)) (fun _ _ _ _ _ => pts_nil)
            (fun _ _ _ _ _ => pe_call GB hr (by rfl) gB FB.kp bB .nil pass0 (pa_cons (pv 4) (pa_cons (pv 2) (pa_cons (pv 3) pa_nil))))) pa_nil))))))), ?_⟩
      exact ⟨_, rfl, _, _, rfl, .non, fun H1 s1 => ⟨_, rfl, iteF (q _ s1)⟩⟩
    | bl b =>
      refine ⟨_, PSs.nox (pss_one (ps_ret (pe_and (pe_call GR hr (by rfl) gR FR.kp bR .nil pass0 (pa_cons (pv 0) pa_nil))
        (pe_and (pe_cmpR op_eq (pe_callB call_len_seq (by rfl) T.len PySem.boot_len (pa_cons (pv 0) pa_nil)) (pv 1) (nomark _))
        (pe_one (pe_callB (cr_all rfl) (by rfl) T.all (by decide +kernel) (pa_cons
          (pe_lc (own := [("part", 4)]) (g := gName 4) (tt := tYes) rfl scRowB.nd (pi_list (pv 0)) (blkOk_by (N := rbN) (sc := defScope sRowB) (by decide +kernel)) (fun _ _ _ _ _ => pg_name (i := 4) scRowB.nd rfl (Or.inl rfl)) (fun _ _ _ _ _ => pts_nil)
            (fun _ _ _ _ _ => pe_call GB hr (by rfl) gB FB.kp bB .nil pass0 (pa_cons (pv 4) (pa_cons (pv 2) (pa_cons (pv 3) pa_nil))))) pa_nil))))))), ?_⟩
      exact ⟨_, rfl, _, _, rfl, .bl b, fun H1 s1 => ⟨_, rfl, iteF (q _ s1)⟩⟩
    | int i =>
      refine ⟨_, PSs.nox (pss_one (ps_ret (pe_and (pe_call GR hr (by rfl) gR FR.kp bR .nil pass0 (pa_cons (pv 0) pa_nil))
        (pe_and (pe_cmpR op_eq (pe_callB call_len_seq (by rfl) T.len PySem.boot_len (pa_cons (pv 0) pa_nil)) (pv 1) (nomark _))
        (pe_one (pe_callB (cr_all rfl) (by rfl) T.all (by decide +kernel) (pa_cons
          (pe_lc (own := [("part", 4)]) (g := gName 4) (tt := tYes) rfl scRowB.nd (pi_list (pv 0)) (blkOk_by (N := rbN) (sc := defScope sRowB) (by decide +kernel)) (fun _ _ _ _ _ => pg_name (i := 4) scRowB.nd rfl (Or.inl rfl)) (fun _ _ _ _ _ => pts_nil)
            (fun _ _ _ _ _ => pe_call GB hr (by rfl) gB FB.kp bB .nil pass0 (pa_cons (pv 4) (pa_cons (pv 2) (pa_cons (pv 3) pa_nil))))) pa_nil))))))), ?_⟩
      exact ⟨_, rfl, _, _, rfl, .int i, fun H1 s1 => ⟨_, rfl, iteF (q _ s1)⟩⟩
    | str x =>
      refine ⟨_, PSs.nox (pss_one (ps_ret (pe_and (pe_call GR hr (by rfl) gR FR.kp bR .nil pass0 (pa_cons (pv 0) pa_nil))
        (pe_and (pe_cmpR op_eq (pe_callB call_len_seq (by rfl) T.len PySem.boot_len (pa_cons (pv 0) pa_nil)) (pv 1) (nomark _))
        (pe_one (pe_callB (cr_all rfl) (by rfl) T.all (by decide +kernel) (pa_cons
          (pe_lc (own := [("part", 4)]) (g := gName 4) (tt := tYes) rfl scRowB.nd (pi_list (pv 0)) (blkOk_by (N := rbN) (sc := defScope sRowB) (by decide +kernel)) (fun _ _ _ _ _ => pg_name (i := 4) scRowB.nd rfl (Or.inl rfl)) (fun _ _ _ _ _ => pts_nil)
            (fun _ _ _ _ _ => pe_call GB hr (by rfl) gB FB.kp bB .nil pass0 (pa_cons (pv 4) (pa_cons (pv 2) (pa_cons (pv 3) pa_nil))))) pa_nil))))))), ?_⟩
      exact ⟨_, rfl, _, _, rfl, .str x, fun H1 s1 => ⟨_, rfl, iteF (q _ s1)⟩⟩
end
end Ki
namespace Fi
open PySem PySem.Spec PyProof.Rows L2 Pen Dat
/-! ## What never changes: tuples, locked things, instances -/
def firm : HO → Bool
  | .tup _ => true
  | .frz _ _ => true
  | .ins _ _ _ => true
  | _ => false
def Firm (H H' : Hp) : Prop := ∀ b o, H b = some o → firm o = true → H' b = some o
theorem Firm.refl (H : Hp) : Firm H H := fun _ _ e _ => e
theorem Firm.trans {H H1 H2 : Hp} (a : Firm H H1) (b : Firm H1 H2) : Firm H H2 := fun c o e h => b c o (a c o e h) h
theorem Firm.of {H H' : Hp} (s : Same H H') : Firm H H' := fun b o e _ => s b o e
theorem Firm.upd {H : Hp} {a : Addr} {u o : HO} (h : H a = some u) (hu : firm u = false) : Firm H (upd H a o) := fun b z e hz => by
  rw [upd_ne (fun q => by rw [q, h] at e; cases e; rw [hu] at hz; cases hz)]
  exact e
theorem Firm.but {H H' : Hp} {p : Addr} {u : HO} (c : But p H H') (h : H p = some u) (hu : firm u = false) : Firm H H' := fun b z e hz =>
  c b z e fun q => by
    rw [q, h] at e
    cases e
    rw [hu] at hz
    cases hz
theorem Firm.pen {H H' : Hp} {p c : Addr} {m : Nat} (b : But p H H') (h : PenC H p c m) : Firm H H' := by
  obtain ⟨_, _, _, _, _, h1, _⟩ := h
  exact Firm.but b h1 rfl
/-! ### two lists, item by item -/
inductive All2 {α : Type} (R : V → α → Prop) : List V → List α → Prop
  | nil : All2 R [] []
  | cons {v : V} {x : α} {vs : List V} {xs : List α} : R v x → All2 R vs xs → All2 R (v :: vs) (x :: xs)
section
variable {α : Type} {R R' : V → α → Prop}
theorem All2.len : ∀ {vs : List V} {xs : List α}, All2 R vs xs → vs.length = xs.length
  | _, _, .nil => rfl
  | _, _, .cons _ h => congrArg Nat.succ h.len
theorem All2.imp (f : ∀ v x, R v x → R' v x) : ∀ {vs : List V} {xs : List α}, All2 R vs xs → All2 R' vs xs
  | _, _, .nil => .nil
  | _, _, .cons h t => .cons (f _ _ h) (t.imp f)
theorem All2.get : ∀ {vs : List V} {xs : List α}, All2 R vs xs → ∀ {i : Nat} {v : V}, vs[i]? = some v → ∃ x, xs[i]? = some x ∧ R v x
  | _, _, .nil, i, v, e => by simp at e
  | _, _, .cons (v := v0) (x := x0) h t, 0, v, e => by
    simp at e
    subst e
    exact ⟨x0, rfl, h⟩
  | _, _, .cons h t, i + 1, v, e => by
    simp at e
    obtain ⟨x, q1, q2⟩ := t.get e
    exact ⟨x, by simpa using q1, q2⟩
theorem All2.get' : ∀ {vs : List V} {xs : List α}, All2 R vs xs → ∀ {i : Nat} {x : α}, xs[i]? = some x → ∃ v, vs[i]? = some v ∧ R v x
  | _, _, .nil, i, v, e => by simp at e
  | _, _, .cons (v := v0) (x := x0) h t, 0, v, e => by
    simp at e
    subst e
    exact ⟨v0, rfl, h⟩
  | _, _, .cons h t, i + 1, v, e => by
    simp at e
    obtain ⟨x, q1, q2⟩ := t.get' e
    exact ⟨x, by simpa using q1, q2⟩
theorem All2.snoc {v : V} {x : α} (h : R v x) : ∀ {vs : List V} {xs : List α}, All2 R vs xs → All2 R (vs ++ [v]) (xs ++ [x])
  | _, _, .nil => .cons h .nil
  | _, _, .cons h1 t => .cons h1 (t.snoc h)
theorem All2.append : ∀ {vs ws : List V} {xs ys : List α}, All2 R vs xs → All2 R ws ys → All2 R (vs ++ ws) (xs ++ ys)
  | _, _, _, _, .nil, h => h
  | _, _, _, _, .cons h1 t, h => .cons h1 (t.append h)
theorem All2.take : ∀ {vs : List V} {xs : List α} (n : Nat), All2 R vs xs → All2 R (vs.take n) (xs.take n)
  | _, _, 0, _ => by
    rw [List.take_zero, List.take_zero]
    exact .nil
  | _, _, _ + 1, .nil => .nil
  | _, _, n + 1, .cons h t => .cons h (t.take n)
end
/-! ### pairs, rows of pairs, rows of ints -/
def Pt (K : PySem.W.Frag) (H : Hp) (v : V) (p : Int × Int) : Prop := ∃ q, v = .ref q ∧ SqT K H q [.int p.1, .int p.2]
def Pr (K : PySem.W.Frag) (H : Hp) (v : V) (p : Int × Int) : Prop := ∃ q, v = .ref q ∧ (SqL K H q [.int p.1, .int p.2] ∨ SqT K H q [.int p.1, .int p.2])
def Tu (K : PySem.W.Frag) (H : Hp) (v : V) (r : List Int) : Prop := ∃ q, v = .ref q ∧ H q = some (.tup (r.map V.int))
def GT (K : PySem.W.Frag) (H : Hp) (g : Addr) (gs : List (Int × Int)) : Prop := ∃ vs, SqT K H g vs ∧ All2 (Pt K H) vs gs
def RowG (K : PySem.W.Frag) (H : Hp) (v : V) (gs : List (Int × Int)) : Prop := ∃ r vs, v = .ref r ∧ (SqL K H r vs ∨ SqT K H r vs) ∧ All2 (Pr K H) vs gs
section
variable {K : PySem.W.Frag} {H H' : Hp}
theorem firm_seq {a : Addr} {xs : List V} (s : Firm H H') (h : SqT K H a xs) : SqT K H' a xs :=
  h.elim (fun h => .inl (h.elim (fun h => .inl (s _ _ h rfl)) fun ⟨o, h⟩ => .inr ⟨o, s _ _ h rfl⟩)) .inr
theorem Pt.firm {v : V} {p : Int × Int} (s : Firm H H') (h : Pt K H v p) : Pt K H' v p := by
  obtain ⟨q, e, h⟩ := h
  exact ⟨q, e, firm_seq s h⟩
theorem Tu.firm {v : V} {r : List Int} (s : Firm H H') (h : Tu K H v r) : Tu K H' v r := by
  obtain ⟨q, e, h⟩ := h
  exact ⟨q, e, s _ _ h rfl⟩
theorem GT.firm {g : Addr} {gs : List (Int × Int)} (s : Firm H H') (h : GT K H g gs) : GT K H' g gs := by
  obtain ⟨vs, h1, h2⟩ := h
  exact ⟨vs, firm_seq s h1, h2.imp fun _ _ q => q.firm s⟩
theorem Pr.same {v : V} {p : Int × Int} (s : Same H H') (h : Pr K H v p) : Pr K H' v p := by
  obtain ⟨q, e, h⟩ := h
  exact ⟨q, e, h.elim (fun h => .inl (s.seq h)) fun h => .inr (seqT_same s h)⟩
theorem RowG.same {v : V} {gs : List (Int × Int)} (s : Same H H') (h : RowG K H v gs) : RowG K H' v gs := by
  obtain ⟨r, vs, e, h1, h2⟩ := h
  exact ⟨r, vs, e, h1.elim (fun h => .inl (s.seq h)) fun h => .inr (seqT_same s h), h2.imp fun _ _ q => q.same s⟩
theorem Pt.pr {v : V} {p : Int × Int} (h : Pt K H v p) : Pr K H v p := by
  obtain ⟨q, e, h⟩ := h
  exact ⟨q, e, .inr h⟩
theorem GT.row {g : Addr} {gs : List (Int × Int)} (h : GT K H g gs) : RowG K H (.ref g) gs := by
  obtain ⟨vs, h1, h2⟩ := h
  exact ⟨g, vs, rfl, .inr h1, h2.imp fun _ _ q => q.pr⟩
/-- a row of pairs, as data -/
def pD (p : Int × Int) : PyData := .tuple [.int p.1, .int p.2]
def gD (gs : List (Int × Int)) : PyData := .tuple (gs.map pD)
theorem pt_dp {v : V} {p : Int × Int} (h : Pt K H v p) : Dp K H v (pD p) := by
  obtain ⟨q, rfl, h⟩ := h
  exact .tup h (.cons (.int _) (.cons (.int _) .nil))
theorem pts_dp : ∀ {vs : List V} {gs : List (Int × Int)}, All2 (Pt K H) vs gs → DpAll K H vs (gs.map pD)
  | _, _, .nil => .nil
  | _, _, .cons h t => .cons (pt_dp h) (pts_dp t)
theorem GT.dp {g : Addr} {gs : List (Int × Int)} (h : GT K H g gs) : Dp K H (.ref g) (gD gs) := by
  obtain ⟨vs, h1, h2⟩ := h
  exact .tup h1 (pts_dp h2)
theorem ints_dp : ∀ (r : List Int), DpAll K H (r.map V.int) (r.map PyData.int)
  | [] => .nil
  | _ :: r => .cons (.int _) (ints_dp r)
end
end Fi
namespace Gr
open PySem PySem.Spec PyProof.Rows L2 Pen Dat Ki Fi
/-! ## Graphs -/
structure Tx (K : PySem.W.Frag) (mg : Str → Option Value) (C : Addr) : Prop where
  ki : Ki.Tx mg
  cl : Cls K C
  nL : NoAttr K C "leaves"
  nG : NoAttr K C "gates"
  mgC : mg "Graph" = some (.ref C)
  cls : PySem.W.findIn K (.ref C) "__class__" = some (some (.builtin "object.__class__"))
  spc : PySem.W.specialIn K (.builtin "object.__class__") "__get__" = some (some (.builtin "getset_descriptor.__get__"))
  tak : PySem.W.takesIn K (.builtin "object.__class__") = some true
  met : ∀ {H : Hp} {a dx : Addr} {fs : List (Str × V)}, H a = some (.ins C dx fs) → TyOf K H (.ref a) (.ref C)
  own : PySem.W.kitOne K (.ref C) (.ref C) = some true
  tup : PySem.W.kitOne K (.type "tuple") (.ref C) = some false
def flds (n : Int) (g : Addr) : List (Str × V) := putF "gates" (.ref g) (putF "leaves" (.int n) [])
theorem kLG : ¬ (("leaves" : Str) = "gates") := by decide +kernel
theorem flds_eq (n : Int) (g : Addr) : flds n g = ([("leaves", V.int n), ("gates", V.ref g)] : List (Str × V)) := by
  show (if ("leaves" : Str) = "gates" then [(("leaves" : Str), V.ref g)] else (("leaves" : Str), V.int n) :: putF "gates" (V.ref g) []) = ([("leaves", V.int n), ("gates", V.ref g)] : List (Str × V))
  rw [if_neg kLG]
  all_goals rfl
theorem flds_L (n : Int) (g : Addr) : (flds n g).lookup ("leaves" : Str) = some (.int n) := by
  unfold flds
  rw [lookup_putF, if_neg kLG, lookup_putF, if_pos rfl]
theorem flds_G (n : Int) (g : Addr) : (flds n g).lookup ("gates" : Str) = some (.ref g) := by
  unfold flds
  rw [lookup_putF, if_pos rfl]
def GraphAt (K : PySem.W.Frag) (C : Addr) (H : Hp) (p : Addr) (n : Int) (gs : List (Int × Int)) : Prop := ∃ dx g, H p = some (.ins C dx (flds n g)) ∧ GT K H g gs
theorem GraphAt.firm {K : PySem.W.Frag} {C p : Addr} {H H' : Hp} {n : Int} {gs : List (Int × Int)} (s : Firm H H') (h : GraphAt K C H p n gs) : GraphAt K C H' p n gs := by
  obtain ⟨dx, g, h1, h2⟩ := h
  exact ⟨dx, g, s _ _ h1 rfl, h2.firm s⟩
def goB : Int → List PyData → Bool
  | _, [] => true
  | m, e :: r => rowB e 2 0 m && goB (m + 2) r
def gatesB (n : Int) (d : PyData) : Bool := isRowD d && goB (2 * n + 1) (rowsD d)
def within (a m : Int) : Bool := decide (0 ≤ a) && decide (a ≤ m)
def okG : Int → List (Int × Int) → Bool
  | _, [] => true
  | m, p :: r => (within p.1 m && within p.2 m) && okG (m + 2) r
theorem pr_dp {K : PySem.W.Frag} {H : Hp} {v : V} {p : Int × Int} (h : Pr K H v p) : ∃ e, Dp K H v e ∧ (rowsD e).length ≤ 1000 ∧ ∀ m, rowB e 2 0 m = (within p.1 m && within p.2 m) := by
  obtain ⟨q, rfl, h | h⟩ := h
  · exact ⟨_, .lst h (.cons (.int _) (.cons (.int _) .nil)), by show 2 ≤ 1000; decide, fun m => by show (true && (decide (((2 : Nat) : Int) = 2) && (within p.1 m && (within p.2 m && true)))) = _; rw [decide_eq_true (by rfl), Bool.and_true]; rfl⟩
  · exact ⟨_, .tup h (.cons (.int _) (.cons (.int _) .nil)), by show 2 ≤ 1000; decide, fun m => by show (true && (decide (((2 : Nat) : Int) = 2) && (within p.1 m && (within p.2 m && true)))) = _; rw [decide_eq_true (by rfl), Bool.and_true]; rfl⟩
theorem prs_dp {K : PySem.W.Frag} {H : Hp} : ∀ {vs : List V} {gs : List (Int × Int)}, All2 (Pr K H) vs gs → ∃ ds, DpAll K H vs ds ∧ ds.length = gs.length ∧ (∀ e ∈ ds, (rowsD e).length ≤ 1000) ∧ ∀ m, goB m ds = okG m gs
  | _, _, .nil => ⟨[], .nil, rfl, (fun e z => absurd z List.not_mem_nil), fun m => rfl⟩
  | _, _, .cons h t => by
    obtain ⟨e, e1, e2, e3⟩ := pr_dp h
    obtain ⟨ds, d1, d2, d3, d4⟩ := prs_dp t
    refine ⟨e :: ds, .cons e1 d1, congrArg Nat.succ d2, fun z hz => ?_, fun m => ?_⟩
    · rcases List.mem_cons.mp hz with rfl | hz
      · exact e2
      · exact d3 z hz
    · show (rowB e 2 0 m && goB (m + 2) ds) = _
      rw [e3, d4]
      rfl
theorem row_dp {K : PySem.W.Frag} {H : Hp} {v : V} {gs : List (Int × Int)} (h : RowG K H v gs) : ∃ d, Dp K H v d ∧ (rowsD d).length = gs.length ∧ (∀ e ∈ rowsD d, (rowsD e).length ≤ 1000) ∧ ∀ n, gatesB n d = okG (2 * n + 1) gs := by
  obtain ⟨r, vs, rfl, h1, h2⟩ := h
  obtain ⟨ds, d1, d2, d3, d4⟩ := prs_dp h2
  rcases h1 with h1 | h1
  · exact ⟨.list ds, .lst h1 d1, d2, d3, fun n => d4 _⟩
  · exact ⟨.tuple ds, .tup h1 d1, d2, d3, fun n => d4 _⟩
def spNeed : Sp := fun vs H Q _ => ∃ n : Int, vs = [.int n] ∧ n ≥ 0 ∧ Q .non H
def spGates (K : PySem.W.Frag) : Sp := fun vs H Q _ => ∃ (n : Int) (v : V) (d : PyData), vs = [.int n, v] ∧ Dp K H v d ∧ (rowsD d).length ≤ 1000 ∧ (∀ e ∈ rowsD d, (rowsD e).length ≤ 1000) ∧ ∀ H', Same H H' → Q (.bl (gatesB n d)) H'
def spInit (K : PySem.W.Frag) (C : Addr) : Sp := fun vs H Q _ => ∃ (p dx : Addr) (n : Int) (v : V) (gs : List (Int × Int)), vs = [.ref p, .int n, v] ∧ H p = some (.ins C dx []) ∧ n ≥ 0 ∧ RowG K H v gs ∧ gs.length ≤ 1000 ∧ okG (2 * n + 1) gs = true ∧
  ∀ H', (∀ b o, H b = some o → b ≠ p → H' b = some o) → GraphAt K C H' p n gs → Q .non H'
def spEqG (K : PySem.W.Frag) (C : Addr) : Sp := fun vs H Q _ => ∃ (p : Addr) (v : V) (n : Int) (gs : List (Int × Int)), vs = [.ref p, v] ∧ GraphAt K C H p n gs ∧
  ((∃ (q : Addr) (n' : Int) (gs' : List (Int × Int)), v = .ref q ∧ GraphAt K C H q n' gs' ∧ Q (.bl (decide (n = n') && PyData.eqv (gD gs) (gD gs'))) H) ∨ ∃ (t : Addr) (xs : List V), v = .ref t ∧ SqT K H t xs ∧ Q (.bl false) H)
theorem can_pD : ∀ gs : List (Int × Int), PyData.canLayAll0 (gs.map pD) = true
  | [] => rfl
  | _ :: r => can_pD r
theorem deep_pD : ∀ gs : List (Int × Int), PyData.depthAll (gs.map pD) ≤ 1
  | [] => Nat.zero_le _
  | p :: r => Nat.max_le.mpr ⟨Nat.le_refl _, deep_pD r⟩
theorem shaped_gD (gs : List (Int × Int)) : SeqAt.shaped (gD gs) = true := by
  have h1 := can_pD gs
  have h2 := deep_pD gs
  unfold SeqAt.shaped
  rw [Bool.and_eq_true]
  exact ⟨h1, decide_eq_true (by show PyData.depthAll (gs.map pD) + 1 ≤ 64; omega)⟩
def rTupOf (K : PySem.W.Frag) : List V → Hp → VK → Prop := fun xs H Q => ∃ p ys, xs = [V.ref p] ∧ ((SqL K H p ys ∧ ∀ l, H l = none → Q (.ref l) (upd H l (.tup ys))) ∨ (SqT K H p ys ∧ Q (.ref p) H))
section
variable {P : Program} {w : World} {K : PySem.W.Frag} {mg : Str → Option Value} {base : Heap} {f C : Addr} {fd : FuncData}
theorem start_int (n : Int) : 2 * n + 1 = 2 * n + 1 + 2 * ((0 : Nat) : Int) := by omega
theorem start_eq (n : Int) (a : Addr) : ([some (.int n), some (.ref a), some (.int (2 * n + 1)), none] : List (Option V)) = [some (.int n), some (.ref a), some (.int (2 * n + 1 + 2 * ((0 : Nat) : Int))), none] := by
  rw [← start_int]
theorem scNeed : FnScope ["leaves"] ["leaves"] (defScope sNeed) := ⟨rfl, rfl, rfl, by decide +kernel, rfl, by decide +kernel, by decide +kernel⟩
theorem scGates : FnScope ["leaves", "value", "most", "pair"] ["leaves", "value"] (defScope sGates) := ⟨rfl, rfl, rfl, by decide +kernel, rfl, by decide +kernel, by decide +kernel⟩
abbrev sInit : Stmt := inClass cGraph 0
abbrev sEq : Stmt := inClass cGraph 1
abbrev inN : List Str := ["self", "leaves", "gates", "pair"]
theorem scInit : FnScope inN ["self", "leaves", "gates"] (defScope sInit) := ⟨rfl, rfl, rfl, by decide +kernel, rfl, by decide +kernel, by decide +kernel⟩
theorem scEq : FnScope ["self", "other"] ["self", "other"] (defScope sEq) := ⟨rfl, rfl, rfl, by decide +kernel, rfl, by decide +kernel, by decide +kernel⟩
abbrev FnI (K : PySem.W.Frag) (f : Addr) (fd : FuncData) : Prop := FunD K "__init__" "Graph.__init__" (defArgs sInit) (defBody sInit) (defScope sInit) [] [] f fd
abbrev FnE (K : PySem.W.Frag) (f : Addr) (fd : FuncData) : Prop := FunD K "__eq__" "Graph.__eq__" (defArgs sEq) (defBody sEq) (defScope sEq) [] [] f fd
theorem ok_need {fF : Addr} {fdF : FuncData} (F : FnP K "need_leaves" sNeed f fd) (T : Ki.Tx mg) (FF : FnP K "is_from" sFrom fF fdF) (gF : mg "is_from" = some (.ref fF)) : FnOk P w K mg base CX0 2 f fd ["leaves"] spNeed := by
  have GF : FnOk P w K mg base CX0 1 fF fdF ["value", "least"] (spFrom K) := ok_from FF T
  have bF : Binds K fdF ["value", "least"] [] := FF.bindsN fun _ _ _ _ _ _ us hl => match us, hl with | [_, _], _ => rfl
  refine F.ok scNeed (fun vs H Q E h => ?_) (fun cdv A outer s H vs Q E hr h => ?_)
  · obtain ⟨n, rfl, _⟩ := h
    rfl
  · obtain ⟨n, rfl, hn, q⟩ := h
    refine ⟨_, PSs.nox (pss_one (ps_if (pt_not (pt_val (pe_call GF hr (by rfl) gF FF.kp bF .nil pass0 (pa_cons (pv 0) (pa_cons pe_int pa_nil))))) (pss_one ps_never) pss_nil)), ?_⟩
    refine ⟨_, rfl, _, _, .int n, rfl, .int n, _, rfl, ?_⟩
    exact iteNS hn q
theorem ok_gates {fR fB : Addr} {fdR fdB : FuncData} (F : FnP K "are_gates" sGates f fd) (T : Ki.Tx mg) (FR : FnP K "is_row" sRow fR fdR) (gR : mg "is_row" = some (.ref fR)) (FB : FnP K "is_row_between" sRowB fB fdB) (gB : mg "is_row_between" = some (.ref fB))
    {fW : Addr} {fdW : FuncData} (FW : FnP K "is_between" sBetween fW fdW) (gW : mg "is_between" = some (.ref fW)) : FnOk P w K mg base CX0 3 f fd ["leaves", "value"] (spGates K) := by
  have GR : FnOk P w K mg base CX0 1 fR fdR ["value"] (spRow K) := ok_row FR T
  have GB : FnOk P w K mg base CX0 2 fB fdB ["value", "many", "least", "most"] (spRowB K) := ok_rowB FB T FW gW FR gR
  have bR : Binds K fdR ["value"] [] := FR.bindsN fun _ _ _ _ _ _ us hl => match us, hl with | [_], _ => rfl
  have bB : Binds K fdB ["value", "many", "least", "most"] [] := FB.bindsN fun _ _ _ _ _ _ us hl => match us, hl with | [_, _, _, _], _ => rfl
  refine F.ok scGates (fun vs H Q E h => ?_) (fun cdv A outer s H vs Q E hr h => ?_)
  · obtain ⟨n, v, d, rfl, _⟩ := h
    rfl
  · obtain ⟨n, v, d, rfl, hd, hz, hzz, q⟩ := h
    have hr1 := hr.mono (j := 1) (by decide)
    cases hd with
    | lst hs ha =>
      rename_i a vs ds
      have hlen := dps_len ha
      refine ⟨_, PSs.nox (pss_cons (ps_if (pt_not (pt_val (pe_call GR hr1 (by rfl) gR FR.kp bR .nil pass0 (pa_cons (pv 1) pa_nil)))) (pss_one (ps_ret pe_bl)) pss_nil)
        (pss_cons (ps_set (i := 2) scGates.nd rfl (Or.inl rfl) (pe_op op_add (pe_op op_mul pe_int (pv 0)) pe_int))
        (pss_cons (ps_for PassesOwn.never rfl (pi_list (pv 1)) (pg_name (i := 3) scGates.nd rfl (Or.inl rfl))
          (pss_cons (ps_if (pt_not (pt_val (pe_call GB hr (by rfl) gB FB.kp bB .nil pass0 (pa_cons (pv 3) (pa_cons pe_int (pa_cons pe_int (pa_cons (pv 2) pa_nil))))))) (pss_one (ps_ret pe_bl)) pss_nil)
          (pss_one (ps_aug (i := 2) scGates.nd rfl (Or.inl rfl) pe_int ip_add))))
        (pss_one (ps_ret pe_bl))))), ?_⟩
      refine ⟨_, rfl, _, _, rfl, .lst hs ha, fun H1 s1 => ⟨_, rfl, iteF ?_⟩⟩
      refine ⟨_, rfl, _, _, rfl, rfl, .inl ⟨by decide, by decide⟩, _, _, rfl, rfl, ?_⟩
      refine ⟨_, rfl, a, rfl, ⟨_, s1.seq hs⟩, for_list (K := K) (a := a) (xs := vs) (fun i σ H2 => ∃ v : Option V, σ = [some (.int n), some (.ref a), some (.int (2 * n + 1 + 2 * i)), v] ∧ Same H1 H2 ∧ goB (2 * n + 1) ds = goB (2 * n + 1 + 2 * i) (ds.drop i))
        ⟨none, start_eq n a, Same.refl _, by rw [List.drop_zero]; exact congrArg (fun z => goB z ds) (start_int n)⟩ (fun i σ H2 _ ⟨_, _, s2, _⟩ => s2.seq (s1.seq hs)) ?_ ?_⟩
      · rintro i v σ H2 hi ⟨w0, rfl, s2, e2⟩
        obtain ⟨e, he, hv⟩ := dps_get ha hi
        have hm : e ∈ ds := List.mem_of_getElem? he
        have hdrop : ds.drop i = e :: ds.drop (i + 1) := by
          obtain ⟨hlt, e5⟩ := List.getElem?_eq_some_iff.mp he
          rw [← e5]
          exact List.drop_eq_getElem_cons hlt
        rw [hdrop] at e2
        refine ⟨_, rfl, _, rfl, _, _, _, _, e, rfl, dp_same (s1.trans s2) hv, hzz e hm, fun H3 s3 => ⟨_, rfl, ?_⟩⟩
        cases er : rowB e 2 0 (2 * n + 1 + 2 * i) with
        | false =>
          refine iteT ?_
          have e4 : gatesB n (.list ds) = false := by
            show (true && goB (2 * n + 1) ds) = false
            rw [e2]
            show (rowB e 2 0 (2 * n + 1 + 2 * i) && goB _ _) = false
            rw [er]
            rfl
          show Q (V.bl false) H3
          rw [← e4]
          exact q _ ((s1.trans s2).trans s3)
        | true =>
          refine iteF ?_
          refine ⟨_, rfl, _, _, rfl, rfl, some v, ?_, s2.trans s3, ?_⟩
          · show _ = _
            have e5 : 2 * n + 1 + 2 * (i : Int) + 2 = 2 * n + 1 + 2 * ((i + 1 : Nat) : Int) := by omega
            rw [← e5]
            rfl
          · rw [e2]
            show (rowB e 2 0 (2 * n + 1 + 2 * i) && goB _ _) = _
            rw [er]
            have e5 : 2 * n + 1 + 2 * (i : Int) + 2 = 2 * n + 1 + 2 * ((i + 1 : Nat) : Int) := by omega
            rw [← e5]
            rfl
      · rintro σ H2 ⟨w0, rfl, s2, e2⟩
        rw [hlen, List.drop_length] at e2
        have e4 : gatesB n (.list ds) = true := by
          show (true && goB (2 * n + 1) ds) = true
          rw [e2]
          rfl
        show Q (V.bl true) H2
        rw [← e4]
        exact q _ (s1.trans s2)
    | tup hs ha =>
      rename_i a vs ds
      have hlen := dps_len ha
      refine ⟨_, PSs.nox (pss_cons (ps_if (pt_not (pt_val (pe_call GR hr1 (by rfl) gR FR.kp bR .nil pass0 (pa_cons (pv 1) pa_nil)))) (pss_one (ps_ret pe_bl)) pss_nil)
        (pss_cons (ps_set (i := 2) scGates.nd rfl (Or.inl rfl) (pe_op op_add (pe_op op_mul pe_int (pv 0)) pe_int))
        (pss_cons (ps_for PassesOwn.never rfl (pi_tup (pv 1)) (pg_name (i := 3) scGates.nd rfl (Or.inl rfl))
          (pss_cons (ps_if (pt_not (pt_val (pe_call GB hr (by rfl) gB FB.kp bB .nil pass0 (pa_cons (pv 3) (pa_cons pe_int (pa_cons pe_int (pa_cons (pv 2) pa_nil))))))) (pss_one (ps_ret pe_bl)) pss_nil)
          (pss_one (ps_aug (i := 2) scGates.nd rfl (Or.inl rfl) pe_int ip_add))))
        (pss_one (ps_ret pe_bl))))), ?_⟩
      refine ⟨_, rfl, _, _, rfl, .tup hs ha, fun H1 s1 => ⟨_, rfl, iteF ?_⟩⟩
      refine ⟨_, rfl, _, _, rfl, rfl, .inl ⟨by decide, by decide⟩, _, _, rfl, rfl, ?_⟩
      refine ⟨_, rfl, a, rfl, ⟨_, seqT_same s1 hs⟩, for_tup (K := K) (a := a) (xs := vs) (fun i σ H2 => ∃ v : Option V, σ = [some (.int n), some (.ref a), some (.int (2 * n + 1 + 2 * i)), v] ∧ Same H1 H2 ∧ goB (2 * n + 1) ds = goB (2 * n + 1 + 2 * i) (ds.drop i))
        ⟨none, start_eq n a, Same.refl _, by rw [List.drop_zero]; exact congrArg (fun z => goB z ds) (start_int n)⟩ (fun i σ H2 _ ⟨_, _, s2, _⟩ => seqT_same s2 (seqT_same s1 hs)) ?_ ?_⟩
      · rintro i v σ H2 hi ⟨w0, rfl, s2, e2⟩
        obtain ⟨e, he, hv⟩ := dps_get ha hi
        have hm : e ∈ ds := List.mem_of_getElem? he
        have hdrop : ds.drop i = e :: ds.drop (i + 1) := by
          obtain ⟨hlt, e5⟩ := List.getElem?_eq_some_iff.mp he
          rw [← e5]
          exact List.drop_eq_getElem_cons hlt
        rw [hdrop] at e2
        refine ⟨_, rfl, _, rfl, _, _, _, _, e, rfl, dp_same (s1.trans s2) hv, hzz e hm, fun H3 s3 => ⟨_, rfl, ?_⟩⟩
        cases er : rowB e 2 0 (2 * n + 1 + 2 * i) with
        | false =>
          refine iteT ?_
          have e4 : gatesB n (.tuple ds) = false := by
            show (true && goB (2 * n + 1) ds) = false
            rw [e2]
            show (rowB e 2 0 (2 * n + 1 + 2 * i) && goB _ _) = false
            rw [er]
            rfl
          show Q (V.bl false) H3
          rw [← e4]
          exact q _ ((s1.trans s2).trans s3)
        | true =>
          refine iteF ?_
          refine ⟨_, rfl, _, _, rfl, rfl, some v, ?_, s2.trans s3, ?_⟩
          · show _ = _
            have e5 : 2 * n + 1 + 2 * (i : Int) + 2 = 2 * n + 1 + 2 * ((i + 1 : Nat) : Int) := by omega
            rw [← e5]
            rfl
          · rw [e2]
            show (rowB e 2 0 (2 * n + 1 + 2 * i) && goB _ _) = _
            rw [er]
            have e5 : 2 * n + 1 + 2 * (i : Int) + 2 = 2 * n + 1 + 2 * ((i + 1 : Nat) : Int) := by omega
            rw [← e5]
            rfl
      · rintro σ H2 ⟨w0, rfl, s2, e2⟩
        rw [hlen, List.drop_length] at e2
        have e4 : gatesB n (.tuple ds) = true := by
          show (true && goB (2 * n + 1) ds) = true
          rw [e2]
          rfl
        show Q (V.bl true) H2
        rw [← e4]
        exact q _ (s1.trans s2)
    | non =>
      refine ⟨_, PSs.nox (pss_cons (ps_if (pt_not (pt_val (pe_call GR hr1 (by rfl) gR FR.kp bR .nil pass0 (pa_cons (pv 1) pa_nil)))) (pss_one (ps_ret pe_bl)) pss_nil)
        (pss_cons (ps_set (i := 2) scGates.nd rfl (Or.inl rfl) (pe_op op_add (pe_op op_mul pe_int (pv 0)) pe_int))
        (pss_cons (ps_for PassesOwn.never rfl (pi_list (pv 1)) (pg_name (i := 3) scGates.nd rfl (Or.inl rfl))
          (pss_cons (ps_if (pt_not (pt_val (pe_call GB hr (by rfl) gB FB.kp bB .nil pass0 (pa_cons (pv 3) (pa_cons pe_int (pa_cons pe_int (pa_cons (pv 2) pa_nil))))))) (pss_one (ps_ret pe_bl)) pss_nil)
          (pss_one (ps_aug (i := 2) scGates.nd rfl (Or.inl rfl) pe_int ip_add))))
        (pss_one (ps_ret pe_bl))))), ?_⟩
      exact ⟨_, rfl, _, _, rfl, .non, fun H1 s1 => ⟨_, rfl, iteT (q _ s1)⟩⟩
    | bl b =>
      refine ⟨_, PSs.nox (pss_cons (ps_if (pt_not (pt_val (pe_call GR hr1 (by rfl) gR FR.kp bR .nil pass0 (pa_cons (pv 1) pa_nil)))) (pss_one (ps_ret pe_bl)) pss_nil)
        (pss_cons (ps_set (i := 2) scGates.nd rfl (Or.inl rfl) (pe_op op_add (pe_op op_mul pe_int (pv 0)) pe_int))
        (pss_cons (ps_for PassesOwn.never rfl (pi_list (pv 1)) (pg_name (i := 3) scGates.nd rfl (Or.inl rfl))
          (pss_cons (ps_if (pt_not (pt_val (pe_call GB hr (by rfl) gB FB.kp bB .nil pass0 (pa_cons (pv 3) (pa_cons pe_int (pa_cons pe_int (pa_cons (pv 2) pa_nil))))))) (pss_one (ps_ret pe_bl)) pss_nil)
          (pss_one (ps_aug (i := 2) scGates.nd rfl (Or.inl rfl) pe_int ip_add))))
        (pss_one (ps_ret pe_bl))))), ?_⟩
      exact ⟨_, rfl, _, _, rfl, .bl b, fun H1 s1 => ⟨_, rfl, iteT (q _ s1)⟩⟩
    | int i =>
      refine ⟨_, PSs.nox (pss_cons (ps_if (pt_not (pt_val (pe_call GR hr1 (by rfl) gR FR.kp bR .nil pass0 (pa_cons (pv 1) pa_nil)))) (pss_one (ps_ret pe_bl)) pss_nil)
        (pss_cons (ps_set (i := 2) scGates.nd rfl (Or.inl rfl) (pe_op op_add (pe_op op_mul pe_int (pv 0)) pe_int))
        (pss_cons (ps_for PassesOwn.never rfl (pi_list (pv 1)) (pg_name (i := 3) scGates.nd rfl (Or.inl rfl))
          (pss_cons (ps_if (pt_not (pt_val (pe_call GB hr (by rfl) gB FB.kp bB .nil pass0 (pa_cons (pv 3) (pa_cons pe_int (pa_cons pe_int (pa_cons (pv 2) pa_nil))))))) (pss_one (ps_ret pe_bl)) pss_nil)
          (pss_one (ps_aug (i := 2) scGates.nd rfl (Or.inl rfl) pe_int ip_add))))
        (pss_one (ps_ret pe_bl))))), ?_⟩
      exact ⟨_, rfl, _, _, rfl, .int i, fun H1 s1 => ⟨_, rfl, iteT (q _ s1)⟩⟩
    | str x =>
      refine ⟨_, PSs.nox (pss_cons (ps_if (pt_not (pt_val (pe_call GR hr1 (by rfl) gR FR.kp bR .nil pass0 (pa_cons (pv 1) pa_nil)))) (pss_one (ps_ret pe_bl)) pss_nil)
        (pss_cons (ps_set (i := 2) scGates.nd rfl (Or.inl rfl) (pe_op op_add (pe_op op_mul pe_int (pv 0)) pe_int))
        (pss_cons (ps_for PassesOwn.never rfl (pi_list (pv 1)) (pg_name (i := 3) scGates.nd rfl (Or.inl rfl))
          (pss_cons (ps_if (pt_not (pt_val (pe_call GB hr (by rfl) gB FB.kp bB .nil pass0 (pa_cons (pv 3) (pa_cons pe_int (pa_cons pe_int (pa_cons (pv 2) pa_nil))))))) (pss_one (ps_ret pe_bl)) pss_nil)
          (pss_one (ps_aug (i := 2) scGates.nd rfl (Or.inl rfl) pe_int ip_add))))
        (pss_one (ps_ret pe_bl))))), ?_⟩
      exact ⟨_, rfl, _, _, rfl, .str x, fun H1 s1 => ⟨_, rfl, iteT (q _ s1)⟩⟩
theorem ok_init {fN fA : Addr} {fdN fdA : FuncData} (F : FnI K f fd) (T : Tx K mg C) (GN : FnOk P w K mg base CX0 2 fN fdN ["leaves"] spNeed) (gN : mg "need_leaves" = some (.ref fN)) (kN : PySem.W.keepIn K (.ref fN) = true) (bN : Binds K fdN ["leaves"] [])
    (GA : FnOk P w K mg base CX0 3 fA fdA ["leaves", "value"] (spGates K)) (gA : mg "are_gates" = some (.ref fA)) (kA : PySem.W.keepIn K (.ref fA) = true) (bA : Binds K fdA ["leaves", "value"] []) : FnOk P w K mg base CX0 4 f fd ["self", "leaves", "gates"] (spInit K C) := by
  refine F.ok scInit (fun vs H Q E h => ?_) (fun cdv A outer s H vs Q E hr h => ?_)
  · obtain ⟨p, dx, n, v, gs, rfl, _⟩ := h
    rfl
  · obtain ⟨p, dx, n, v, gs, rfl, hp, hn, hv, hz, hok, q⟩ := h
    have hr2 := hr.mono (j := 2) (by decide)
    obtain ⟨d, d1, d2, d3, d4⟩ := row_dp hv
    obtain ⟨r, vs, rfl, hs, ha⟩ := id hv
    rcases hs with hs | hs
    · refine ⟨_, PSs.nox (pss_cons (ps_expr (pe_call GN hr2 (by rfl) gN kN bN .nil pass0 (pa_cons (pv 1) pa_nil)))
        (pss_cons (ps_if (pt_not (pt_val (pe_call GA hr (by rfl) gA kA bA .nil pass0 (pa_cons (pv 1) (pa_cons (pv 2) pa_nil))))) (pss_one ps_never) pss_nil)
        (pss_cons (ps_fld (pv 0) (pv 1) rfl)
        (pss_one (ps_fld (pv 0) (pe_callTy call_tuple_of (by rfl) T.ki.tuple (by decide +kernel) (pa_cons
          (pe_lc (own := [("pair", 3)]) (g := gName 3) (tt := tYes) rfl scInit.nd (pi_list (pv 2)) (blkOk_by (N := inN) (sc := defScope sInit) (by decide +kernel)) (fun _ _ _ _ _ => pg_name (i := 3) scInit.nd rfl (Or.inl rfl)) (fun _ _ _ _ _ => pts_nil)
            (fun _ _ _ _ _ => pe_callTy (T := "tuple") (r := rTupOf K) (by exact call_tuple_of) (by rfl) T.ki.tuple (by decide +kernel) (pa_cons (pv 3) pa_nil))) pa_nil)) rfl))))), ?_⟩
      refine ⟨_, rfl, n, rfl, hn, ?_⟩
      refine ⟨_, rfl, _, rfl, n, _, d, rfl, d1, by omega, d3, fun H1 s1 => ⟨_, rfl, ?_⟩⟩
      rw [d4, hok]
      refine iteF ?_
      have hp1 := s1 _ _ hp
      refine ⟨_, rfl, _, rfl, p, C, dx, _, rfl, hp1, T.cl, T.nL, (by show 0 < 1000; decide), ?_⟩
      have hrp : ∀ {b : Addr} {u : HO}, H b = some u → (∀ C dx fs, u ≠ .ins C dx fs) → (upd H1 p (.ins C dx (putF "leaves" (.int n) []))) b = some u := fun {b u} e ne => by
        rw [upd_ne (fun z => by rw [z, hp] at e; cases e; exact ne _ _ _ rfl)]
        exact s1 _ _ e
      have hs3 : SqL K (upd H1 p (.ins C dx (putF "leaves" (.int n) []))) r vs := by
        rcases hs with (h | ⟨o, h⟩) | h
        · exact .inl (.inl (hrp h (by intro C dx fs z; cases z)))
        · exact .inl (.inr ⟨o, hrp h (by intro C dx fs z; cases z)⟩)
        · exact .inr h
      have pr3 : ∀ {v : V} {z : Int × Int}, Pr K H v z → Pr K (upd H1 p (.ins C dx (putF "leaves" (.int n) []))) v z := by
        rintro v z ⟨q, e, h⟩
        refine ⟨q, e, ?_⟩
        rcases h with ((h | ⟨o, h⟩) | h) | ((h | ⟨o, h⟩) | h)
        · exact .inl (.inl (.inl (hrp h (by intro C dx fs z; cases z))))
        · exact .inl (.inl (.inr ⟨o, hrp h (by intro C dx fs z; cases z)⟩))
        · exact .inl (.inr h)
        · exact .inr (.inl (.inl (hrp h (by intro C dx fs z; cases z))))
        · exact .inr (.inl (.inr ⟨o, hrp h (by intro C dx fs z; cases z)⟩))
        · exact .inr (.inr h)
      have hp3 : (upd H1 p (.ins C dx (putF "leaves" (.int n) []))) p = some (.ins C dx (putF "leaves" (.int n) [])) := upd_same
      have out3 : ∀ b o, H b = some o → b ≠ p → (upd H1 p (.ins C dx (putF "leaves" (.int n) []))) b = some o := fun b o e ne => by
        rw [upd_ne ne]
        exact s1 _ _ e
      generalize (upd H1 p (.ins C dx (putF "leaves" (.int n) []))) = H3 at hs3 pr3 hp3 out3 ⊢
      refine ⟨_, rfl, r, rfl, ⟨_, hs3⟩, fun D nD => ?_⟩
      refine lc_list (K := K) (a := r) (xs := vs) (fun i H4 => Same H3 H4 ∧ ∃ ys, H4 D = some (.lst ys) ∧ All2 (Pt K H4) ys (gs.take i)) ⟨same_new nD, [], upd_same, .nil⟩ (fun i H4 _ ⟨s4, _⟩ => s4.seq hs3) ?_ ?_
      · rintro i v H4 hi ⟨s4, ys, h4, a4⟩
        obtain ⟨z, hz1, hz2⟩ := ha.get hi
        obtain ⟨q0, rfl, hq⟩ := (pr3 hz2).same s4
        have lys : ys.length < sizeLine := by
          rw [a4.len, List.length_take]
          exact Nat.lt_of_le_of_lt (Nat.min_le_right _ _) (Nat.lt_of_le_of_lt hz (by decide))
        have keep : ∀ {H5 : Hp} {zs : List V}, Same H4 H5 → Same H3 (upd H5 D (.lst zs)) := fun {H5 zs} s5 b o e => by
          rw [upd_ne (ne_of_none e nD)]
          exact s5 _ _ (s4 _ _ e)
        refine ⟨rfl, yes_of ?_⟩
        rcases hq with hq | hq
        · refine ⟨_, rfl, q0, _, rfl, .inl ⟨hq, fun l nl => ?_⟩⟩
          have s5 : Same H4 (upd H4 l (.tup [.int z.1, .int z.2])) := same_new nl
          refine ⟨_, s5 _ _ h4, lys, keep s5, _, upd_same, ?_⟩
          rw [take_more hz1]
          have fi : Firm (upd H4 l (.tup [.int z.1, .int z.2])) (upd (upd H4 l (.tup [.int z.1, .int z.2])) D (.lst (ys ++ [.ref l]))) := Firm.upd (s5 _ _ h4) rfl
          exact (a4.imp fun _ _ h => (h.firm (Firm.of s5)).firm fi).snoc ⟨l, rfl, firm_seq fi (SqT.of upd_same)⟩
        · refine ⟨_, rfl, q0, _, rfl, .inr ⟨hq, ?_⟩⟩
          refine ⟨_, h4, lys, keep (Same.refl _), _, upd_same, ?_⟩
          rw [take_more hz1]
          have fi : Firm H4 (upd H4 D (.lst (ys ++ [.ref q0]))) := Firm.upd h4 rfl
          exact (a4.imp fun _ _ h => h.firm fi).snoc ⟨q0, rfl, firm_seq fi hq⟩
      · rintro H4 ⟨s4, ys, h4, a4⟩
        rw [ha.len, List.take_length] at a4
        refine ⟨D, ys, rfl, .inl ⟨SqL.of h4, fun g ng => ?_⟩⟩
        have hp4 := s4 _ _ hp3
        have s5 : Same H4 (upd H4 g (.tup ys)) := same_new ng
        refine ⟨_, rfl, p, C, dx, _, rfl, s5 _ _ hp4, T.cl, T.nG, (by show 1 < 1000; decide), ?_⟩
        refine q _ (fun b o e ne => ?_) ⟨dx, g, upd_same, ys, ?_, ?_⟩
        · rw [upd_ne ne]
          exact s5 _ _ (s4 _ _ (out3 b o e ne))
        · have ngp : g ≠ p := fun e => by
            rw [e, hp4] at ng
            cases ng
          exact SqT.of (by rw [upd_ne ngp, upd_same])
        · refine a4.imp fun _ _ h => ?_
          obtain ⟨q1, e1, h1⟩ := h.firm (Firm.of s5)
          refine ⟨q1, e1, ?_⟩
          rcases h1 with (h | ⟨o, h⟩) | h
          · exact .inl (.inl (by rw [upd_ne (fun e => by rw [e, s5 _ _ hp4] at h; cases h)]; exact h))
          · exact .inl (.inr ⟨o, by rw [upd_ne (fun e => by rw [e, s5 _ _ hp4] at h; cases h)]; exact h⟩)
          · exact .inr h
    · refine ⟨_, PSs.nox (pss_cons (ps_expr (pe_call GN hr2 (by rfl) gN kN bN .nil pass0 (pa_cons (pv 1) pa_nil)))
        (pss_cons (ps_if (pt_not (pt_val (pe_call GA hr (by rfl) gA kA bA .nil pass0 (pa_cons (pv 1) (pa_cons (pv 2) pa_nil))))) (pss_one ps_never) pss_nil)
        (pss_cons (ps_fld (pv 0) (pv 1) rfl)
        (pss_one (ps_fld (pv 0) (pe_callTy call_tuple_of (by rfl) T.ki.tuple (by decide +kernel) (pa_cons
          (pe_lc (own := [("pair", 3)]) (g := gName 3) (tt := tYes) rfl scInit.nd (pi_tup (pv 2)) (blkOk_by (N := inN) (sc := defScope sInit) (by decide +kernel)) (fun _ _ _ _ _ => pg_name (i := 3) scInit.nd rfl (Or.inl rfl)) (fun _ _ _ _ _ => pts_nil)
            (fun _ _ _ _ _ => pe_callTy (T := "tuple") (r := rTupOf K) (by exact call_tuple_of) (by rfl) T.ki.tuple (by decide +kernel) (pa_cons (pv 3) pa_nil))) pa_nil)) rfl))))), ?_⟩
      refine ⟨_, rfl, n, rfl, hn, ?_⟩
      refine ⟨_, rfl, _, rfl, n, _, d, rfl, d1, by omega, d3, fun H1 s1 => ⟨_, rfl, ?_⟩⟩
      rw [d4, hok]
      refine iteF ?_
      have hp1 := s1 _ _ hp
      refine ⟨_, rfl, _, rfl, p, C, dx, _, rfl, hp1, T.cl, T.nL, (by show 0 < 1000; decide), ?_⟩
      have hrp : ∀ {b : Addr} {u : HO}, H b = some u → (∀ C dx fs, u ≠ .ins C dx fs) → (upd H1 p (.ins C dx (putF "leaves" (.int n) []))) b = some u := fun {b u} e ne => by
        rw [upd_ne (fun z => by rw [z, hp] at e; cases e; exact ne _ _ _ rfl)]
        exact s1 _ _ e
      have hs3 : SqT K (upd H1 p (.ins C dx (putF "leaves" (.int n) []))) r vs := by
        rcases hs with (h | ⟨o, h⟩) | h
        · exact .inl (.inl (hrp h (by intro C dx fs z; cases z)))
        · exact .inl (.inr ⟨o, hrp h (by intro C dx fs z; cases z)⟩)
        · exact .inr h
      have pr3 : ∀ {v : V} {z : Int × Int}, Pr K H v z → Pr K (upd H1 p (.ins C dx (putF "leaves" (.int n) []))) v z := by
        rintro v z ⟨q, e, h⟩
        refine ⟨q, e, ?_⟩
        rcases h with ((h | ⟨o, h⟩) | h) | ((h | ⟨o, h⟩) | h)
        · exact .inl (.inl (.inl (hrp h (by intro C dx fs z; cases z))))
        · exact .inl (.inl (.inr ⟨o, hrp h (by intro C dx fs z; cases z)⟩))
        · exact .inl (.inr h)
        · exact .inr (.inl (.inl (hrp h (by intro C dx fs z; cases z))))
        · exact .inr (.inl (.inr ⟨o, hrp h (by intro C dx fs z; cases z)⟩))
        · exact .inr (.inr h)
      have hp3 : (upd H1 p (.ins C dx (putF "leaves" (.int n) []))) p = some (.ins C dx (putF "leaves" (.int n) [])) := upd_same
      have out3 : ∀ b o, H b = some o → b ≠ p → (upd H1 p (.ins C dx (putF "leaves" (.int n) []))) b = some o := fun b o e ne => by
        rw [upd_ne ne]
        exact s1 _ _ e
      generalize (upd H1 p (.ins C dx (putF "leaves" (.int n) []))) = H3 at hs3 pr3 hp3 out3 ⊢
      refine ⟨_, rfl, r, rfl, ⟨_, hs3⟩, fun D nD => ?_⟩
      refine lc_tup (K := K) (a := r) (xs := vs) (fun i H4 => Same H3 H4 ∧ ∃ ys, H4 D = some (.lst ys) ∧ All2 (Pt K H4) ys (gs.take i)) ⟨same_new nD, [], upd_same, .nil⟩ (fun i H4 _ ⟨s4, _⟩ => seqT_same s4 hs3) ?_ ?_
      · rintro i v H4 hi ⟨s4, ys, h4, a4⟩
        obtain ⟨z, hz1, hz2⟩ := ha.get hi
        obtain ⟨q0, rfl, hq⟩ := (pr3 hz2).same s4
        have lys : ys.length < sizeLine := by
          rw [a4.len, List.length_take]
          exact Nat.lt_of_le_of_lt (Nat.min_le_right _ _) (Nat.lt_of_le_of_lt hz (by decide))
        have keep : ∀ {H5 : Hp} {zs : List V}, Same H4 H5 → Same H3 (upd H5 D (.lst zs)) := fun {H5 zs} s5 b o e => by
          rw [upd_ne (ne_of_none e nD)]
          exact s5 _ _ (s4 _ _ e)
        refine ⟨rfl, yes_of ?_⟩
        rcases hq with hq | hq
        · refine ⟨_, rfl, q0, _, rfl, .inl ⟨hq, fun l nl => ?_⟩⟩
          have s5 : Same H4 (upd H4 l (.tup [.int z.1, .int z.2])) := same_new nl
          refine ⟨_, s5 _ _ h4, lys, keep s5, _, upd_same, ?_⟩
          rw [take_more hz1]
          have fi : Firm (upd H4 l (.tup [.int z.1, .int z.2])) (upd (upd H4 l (.tup [.int z.1, .int z.2])) D (.lst (ys ++ [.ref l]))) := Firm.upd (s5 _ _ h4) rfl
          exact (a4.imp fun _ _ h => (h.firm (Firm.of s5)).firm fi).snoc ⟨l, rfl, firm_seq fi (SqT.of upd_same)⟩
        · refine ⟨_, rfl, q0, _, rfl, .inr ⟨hq, ?_⟩⟩
          refine ⟨_, h4, lys, keep (Same.refl _), _, upd_same, ?_⟩
          rw [take_more hz1]
          have fi : Firm H4 (upd H4 D (.lst (ys ++ [.ref q0]))) := Firm.upd h4 rfl
          exact (a4.imp fun _ _ h => h.firm fi).snoc ⟨q0, rfl, firm_seq fi hq⟩
      · rintro H4 ⟨s4, ys, h4, a4⟩
        rw [ha.len, List.take_length] at a4
        refine ⟨D, ys, rfl, .inl ⟨SqL.of h4, fun g ng => ?_⟩⟩
        have hp4 := s4 _ _ hp3
        have s5 : Same H4 (upd H4 g (.tup ys)) := same_new ng
        refine ⟨_, rfl, p, C, dx, _, rfl, s5 _ _ hp4, T.cl, T.nG, (by show 1 < 1000; decide), ?_⟩
        refine q _ (fun b o e ne => ?_) ⟨dx, g, upd_same, ys, ?_, ?_⟩
        · rw [upd_ne ne]
          exact s5 _ _ (s4 _ _ (out3 b o e ne))
        · have ngp : g ≠ p := fun e => by
            rw [e, hp4] at ng
            cases ng
          exact SqT.of (by rw [upd_ne ngp, upd_same])
        · refine a4.imp fun _ _ h => ?_
          obtain ⟨q1, e1, h1⟩ := h.firm (Firm.of s5)
          refine ⟨q1, e1, ?_⟩
          rcases h1 with (h | ⟨o, h⟩) | h
          · exact .inl (.inl (by rw [upd_ne (fun e => by rw [e, s5 _ _ hp4] at h; cases h)]; exact h))
          · exact .inl (.inr ⟨o, by rw [upd_ne (fun e => by rw [e, s5 _ _ hp4] at h; cases h)]; exact h⟩)
          · exact .inr h
theorem ok_eq (F : FnE K f fd) (T : Tx K mg C) : FnOk P w K mg base CX0 1 f fd ["self", "other"] (spEqG K C) := by
  refine F.ok scEq (fun vs H Q E h => ?_) (fun cdv A outer s H vs Q E hr h => ?_)
  · obtain ⟨p, v, n, gs, rfl, _⟩ := h
    rfl
  · obtain ⟨p, v, n, gs, rfl, hp, q⟩ := h
    obtain ⟨dx, g, h1, h2⟩ := hp
    refine ⟨_, PSs.nox (pss_one (ps_ret (pe_and (pe_callB call_isi (by rfl) T.ki.isi (by decide +kernel) (pa_cons (pv 1) (pa_cons (pe_glob (v := V.ref C) (by rfl) T.mgC rfl) pa_nil)))
      (pe_and (pe_cmpR op_eq (pe_fld (pv 0) rfl) (pe_fld (pv 1) rfl) (nomark _)) (pe_one (pe_cmpR (op_eqD hr.units) (pe_fld (pv 0) rfl) (pe_fld (pv 1) rfl) (nomark _))))))), ?_⟩
    rcases q with ⟨q, n', gs', rfl, hq, k⟩ | ⟨t, xs, rfl, ht, k⟩
    · obtain ⟨dy, g', e1, e2⟩ := hq
      refine ⟨_, rfl, _, _, _, _, _, rfl, .own _, .base (T.met e1), T.own, _, rfl, iteT ?_⟩
      refine ⟨_, rfl, p, C, dx, _, _, rfl, h1, T.cl, T.nL, flds_L _ _, _, rfl, q, C, dy, _, _, rfl, e1, T.cl, T.nL, flds_L _ _, rfl, _, rfl, ite2 (fun c => ?_) (fun c => ?_)⟩
      · refine ⟨_, rfl, p, C, dx, _, _, rfl, h1, T.cl, T.nG, flds_G _ _, _, rfl, q, C, dy, _, _, rfl, e1, T.cl, T.nG, flds_G _ _, _, _, h2.dp, e2.dp, ?_, ?_, ?_⟩
        · exact shaped_gD gs
        · exact shaped_gD gs'
        · have e : n = n' := V.int.inj (of_decide_eq_true c)
          rw [decide_eq_true e] at k
          exact k
      · have e : ¬ n = n' := fun z => c (decide_eq_true (congrArg V.int z))
        rw [decide_eq_false e] at k
        exact k
    · exact ⟨_, rfl, _, _, _, _, _, rfl, .own _, ty_tup ht, T.tup, _, rfl, iteF k⟩
end
end Gr
namespace No
open PySem PySem.Spec PyProof.Rows L2 Pen Dat Ki Fi Gr
/-! ## Values of nodes and literals -/
/-- abs, as its rule tells it -/
def ab (z : Int) : Int := if z < 0 then -z else z
def lit (f : List Int) (a : Int) : Int := ab (f.getD (a / 2).toNat 0 - a % 2)
def step (f : List Int) (p : Int × Int) : List Int := f ++ [lit f p.1 * lit f p.2]
def vals (bs : List Int) (gs : List (Int × Int)) : List Int := gs.foldl step (0 :: bs)
def B01 (f : List Int) : Prop := ∀ z ∈ f, z = 0 ∨ z = 1
theorem getD_01 {f : List Int} (h : B01 f) (j : Nat) : f.getD j 0 = 0 ∨ f.getD j 0 = 1 := by
  rw [List.getD_eq_getElem?_getD]
  cases e : f[j]? with
  | none => exact .inl rfl
  | some z => exact h z (List.mem_of_getElem? e)
theorem lit_01 {f : List Int} (h : B01 f) (a : Int) : lit f a = 0 ∨ lit f a = 1 := by
  have h1 := getD_01 h (a / 2).toNat
  have h2 : a % 2 = 0 ∨ a % 2 = 1 := by omega
  unfold lit ab
  rcases h1 with e1 | e1 <;> rcases h2 with e2 | e2 <;> rw [e1, e2] <;> decide
theorem mul_01 {x y : Int} (hx : x = 0 ∨ x = 1) (hy : y = 0 ∨ y = 1) : x * y = 0 ∨ x * y = 1 := by
  rcases hx with rfl | rfl <;> rcases hy with rfl | rfl <;> decide
theorem step_01 {f : List Int} (h : B01 f) (p : Int × Int) : B01 (step f p) := fun z hz => by
  rcases List.mem_append.mp hz with q | q
  · exact h z q
  · rw [List.mem_singleton.mp q]
    exact mul_01 (lit_01 h _) (lit_01 h _)
theorem foldl_len : ∀ (gs : List (Int × Int)) (f : List Int), (gs.foldl step f).length = f.length + gs.length
  | [], f => rfl
  | p :: r, f => by
    show (r.foldl step (step f p)).length = _
    rw [foldl_len r]
    unfold step
    rw [List.length_append]
    show f.length + 1 + r.length = f.length + (r.length + 1)
    omega
theorem foldl_01 : ∀ (gs : List (Int × Int)) {f : List Int}, B01 f → B01 (gs.foldl step f)
  | [], _, h => h
  | p :: r, _, h => foldl_01 r (step_01 h p)
theorem vals_take (bs : List Int) {gs : List (Int × Int)} {i : Nat} {p : Int × Int} (h : gs[i]? = some p) : vals bs (gs.take (i + 1)) = step (vals bs (gs.take i)) p := by
  unfold vals
  rw [take_more h, List.foldl_append]
  rfl
theorem vals_len (bs : List Int) (gs : List (Int × Int)) : (vals bs gs).length = bs.length + 1 + gs.length := by
  unfold vals
  rw [foldl_len]
  rfl
theorem vals_01 {bs : List Int} (gs : List (Int × Int)) (h : B01 bs) : B01 (vals bs gs) :=
  foldl_01 gs fun z hz => by
    rcases List.mem_cons.mp hz with rfl | hz
    · exact .inl rfl
    · exact h z hz
/-- the literals of gate i are of nodes ahead -/
theorem okG_at : ∀ {gs : List (Int × Int)} {m : Int} {i : Nat} {p : Int × Int}, okG m gs = true → gs[i]? = some p → (0 ≤ p.1 ∧ p.1 ≤ m + 2 * i) ∧ 0 ≤ p.2 ∧ p.2 ≤ m + 2 * i
  | [], _, _, _, _, e => by simp at e
  | q :: r, m, 0, p, h, e => by
    simp at e
    subst e
    unfold okG within at h
    simp only [Bool.and_eq_true, decide_eq_true_eq] at h
    obtain ⟨⟨⟨a, b⟩, c, d⟩, _⟩ := h
    exact ⟨⟨a, by omega⟩, c, by omega⟩
  | q :: r, m, i + 1, p, h, e => by
    simp at e
    unfold okG at h
    rw [Bool.and_eq_true] at h
    obtain ⟨⟨a, b⟩, c, d⟩ := okG_at h.2 e
    exact ⟨⟨a, by omega⟩, c, by omega⟩
theorem half_lt {a m : Int} (h0 : 0 ≤ a) (h : a ≤ 2 * m + 1) : (a / 2).toNat < (m + 1).toNat := by omega
/-- x ^ (a & 1), x a bit -/
theorem flip_bit {x a : Int} (hx : x = 0 ∨ x = 1) : Builtin.bitXor x (Builtin.bitAnd a 1) = ab (x - a % 2) := by
  have e := bitAnd_m1 a
  rw [e]
  have h2 : a % 2 = 0 ∨ a % 2 = 1 := by omega
  rcases hx with rfl | rfl <;> rcases h2 with e2 | e2 <;> rw [e2] <;> decide
theorem and_bits {x y : Int} (hx : x = 0 ∨ x = 1) (hy : y = 0 ∨ y = 1) : Builtin.bitAnd x y = x * y := by
  rcases hx with rfl | rfl <;> rcases hy with rfl | rfl <;> decide
theorem getD_of {f : List Int} {j : Nat} (h : j < f.length) : (f.map V.int)[j]? = some (.int (f.getD j 0)) := by
  rw [List.getElem?_map, List.getD_eq_getElem?_getD, List.getElem?_eq_getElem h]
  rfl
/-- a row of ints, list or tuple -/
def SeqI (K : PySem.W.Frag) (H : Hp) (v : V) (bs : List Int) : Prop := ∃ r, v = .ref r ∧ (SqL K H r (bs.map V.int) ∨ SqT K H r (bs.map V.int))
theorem SeqI.same {K : PySem.W.Frag} {H H' : Hp} {v : V} {bs : List Int} (s : Same H H') (h : SeqI K H v bs) : SeqI K H' v bs := by
  obtain ⟨r, e, h⟩ := h
  exact ⟨r, e, h.elim (fun h => .inl (s.seq h)) fun h => .inr (seqT_same s h)⟩
theorem bet_all {bs : List Int} (h : B01 bs) : ((bs.map PyData.int).all fun e => betD e 0 1) = true := by
  rw [List.all_map, List.all_eq_true]
  intro z hz
  rcases h z hz with rfl | rfl <;> rfl
theorem seqI_dp {K : PySem.W.Frag} {H : Hp} {v : V} {bs : List Int} (h : SeqI K H v bs) (hb : B01 bs) : ∃ d, Dp K H v d ∧ (rowsD d).length = bs.length ∧ rowB d (bs.length : Int) 0 1 = true := by
  have e : ∀ l : List PyData, l = bs.map PyData.int → (true && (decide (((l.length : Nat) : Int) = bs.length) && l.all fun e => betD e 0 1)) = true := by
    rintro l rfl
    rw [bet_all hb, List.length_map, decide_eq_true rfl]
    rfl
  obtain ⟨r, rfl, h | h⟩ := h
  · exact ⟨_, .lst h (ints_dp bs), List.length_map .., e _ rfl⟩
  · exact ⟨_, .tup h (ints_dp bs), List.length_map .., e _ rfl⟩
end No
namespace Lf
open PySem PySem.Spec PyProof.Rows L2 Pen Dat Ki Fi Gr No
/-! ## The law's own functions -/
structure Tx (mg : Str → Option Value) : Prop where
  pen : Pen.Txt mg
  abs : mg "abs" = none
  range : mg "range" = none
  tuple : mg "tuple" = none
def longer (rs : List (List Int)) : List (List Int) := rs.flatMap fun r => [r ++ [0], r ++ [1]]
def rowsM : Nat → List (List Int)
  | 0 => [[]]
  | n + 1 => longer (rowsM n)
theorem longer_cons (r : List Int) (rs : List (List Int)) : longer (r :: rs) = (r ++ [0]) :: (r ++ [1]) :: longer rs := rfl
theorem longer_app (rs ts : List (List Int)) : longer (rs ++ ts) = longer rs ++ longer ts := List.flatMap_append
theorem longer_len : ∀ rs : List (List Int), (longer rs).length = 2 * rs.length
  | [] => rfl
  | r :: rs => by
    rw [longer_cons, List.length_cons, List.length_cons, longer_len rs, List.length_cons]
    omega
theorem longer_mem : ∀ {rs : List (List Int)} {n : Nat}, (∀ r ∈ rs, r.length = n ∧ B01 r) → ∀ r ∈ longer rs, r.length = n + 1 ∧ B01 r
  | [], _, _, r, h => by cases h
  | t :: rs, n, hr, r, h => by
    have ht := hr t List.mem_cons_self
    rw [longer_cons] at h
    have one : ∀ z : Int, (z = 0 ∨ z = 1) → (t ++ [z]).length = n + 1 ∧ B01 (t ++ [z]) := fun z hz => ⟨by rw [List.length_append, ht.1]; rfl, fun y hy => by
      rcases List.mem_append.mp hy with q | q
      · exact ht.2 y q
      · rw [List.mem_singleton.mp q]
        exact hz⟩
    rcases List.mem_cons.mp h with rfl | h
    · exact one 0 (.inl rfl)
    · rcases List.mem_cons.mp h with rfl | h
      · exact one 1 (.inr rfl)
      · exact longer_mem (fun r hr2 => hr r (List.mem_cons_of_mem _ hr2)) r h
theorem rowsM_mem : ∀ (n : Nat), ∀ r ∈ rowsM n, r.length = n ∧ B01 r
  | 0, r, h => by
    rw [List.mem_singleton.mp h]
    exact ⟨rfl, fun z hz => by cases hz⟩
  | n + 1, r, h => longer_mem (rowsM_mem n) r h
theorem rowsM_len : ∀ n : Nat, (rowsM n).length = 2 ^ n
  | 0 => rfl
  | n + 1 => by
    show (longer (rowsM n)).length = _
    rw [longer_len, rowsM_len n, Nat.pow_succ, Nat.mul_comm]
theorem okG_snoc : ∀ {gs : List (Int × Int)} {m : Int} {p : Int × Int}, okG m gs = true → 0 ≤ p.1 → p.1 ≤ m + 2 * gs.length → 0 ≤ p.2 → p.2 ≤ m + 2 * gs.length → okG m (gs ++ [p]) = true
  | [], m, p, _, a, b, c, d => by
    show ((within p.1 m && within p.2 m) && true) = true
    unfold within
    have b' : p.1 ≤ m := by simpa using b
    have d' : p.2 ≤ m := by simpa using d
    rw [decide_eq_true a, decide_eq_true b', decide_eq_true c, decide_eq_true d']
    rfl
  | q :: r, m, p, h, a, b, c, d => by
    unfold okG at h
    rw [Bool.and_eq_true] at h
    show ((within q.1 m && within q.2 m) && okG (m + 2) (r ++ [p])) = true
    rw [h.1, okG_snoc h.2 a (by rw [List.length_cons] at b; omega) c (by rw [List.length_cons] at d; omega)]
    rfl
def spBit (K : PySem.W.Frag) : Sp := fun vs H Q _ => ∃ (l : Addr) (xs : List Int) (a : Int), vs = [.ref l, .int a] ∧ SqL K H l (xs.map V.int) ∧ 0 ≤ a ∧ (a / 2).toNat < xs.length ∧ Q (.int (lit xs a)) H
def spValues (K : PySem.W.Frag) : Sp := fun vs H Q _ => ∃ (u : V) (g r : Addr) (gs : List (Int × Int)) (bs : List Int), vs = [u, .ref g, .ref r] ∧ GT K H g gs ∧ SqT K H r (bs.map V.int) ∧ B01 bs ∧ okG (2 * bs.length + 1) gs = true ∧ bs.length ≤ 500 ∧ gs.length ≤ 500 ∧
  ∀ (H' : Hp) (l : Addr), Same H H' → H l = none → H' l = some (.lst ((vals bs gs).map V.int)) → Q (.ref l) H'
def spDrawn (K : PySem.W.Frag) : Sp := fun vs H Q _ => ∃ (p c : Addr) (k : Nat) (n m : Int), vs = [.ref p, .int n, .int m] ∧ PenC H p c k ∧ k ≤ 100000000000 ∧ 0 ≤ n ∧ n ≤ 100 ∧ 0 ≤ m ∧ m ≤ 100 ∧
  ∀ (H' : Hp) (g : Addr) (gs : List (Int × Int)), PenC H' p c (k + 2 * m.toNat) → But p H H' → GT K H' g gs → okG (2 * n + 1) gs = true → gs.length = m.toNat → Q (.ref g) H'
def spLonger (K : PySem.W.Frag) : Sp := fun vs H Q _ => ∃ (l : Addr) (ws : List V) (rs : List (List Int)), vs = [.ref l, .int 2] ∧ SqL K H l ws ∧ All2 (Tu K H) ws rs ∧ rs.length ≤ 2100 ∧ (∀ r ∈ rs, r.length ≤ 100) ∧
  ∀ (H' : Hp) (l' : Addr) (zs : List V), Same H H' → H' l' = some (.lst zs) → All2 (Tu K H') zs (longer rs) → Q (.ref l') H'
def spRows (K : PySem.W.Frag) : Sp := fun vs H Q _ => ∃ (m : Int), vs = [.int m] ∧ 0 ≤ m ∧ m ≤ 11 ∧
  ∀ (H' : Hp) (l : Addr) (ws : List V), Same H H' → H' l = some (.lst ws) → All2 (Tu K H') ws (rowsM m.toNat) → Q (.ref l) H'
section
variable {P : Program} {w : World} {K : PySem.W.Frag} {mg : Str → Option Value} {base : Heap} {f C : Addr} {fd : FuncData}
abbrev vaN : List Str := ["_law_leaves", "_law_gates", "_law_bits", "_law_found", "_law_one", "_law_two"]
abbrev drN : List Str := ["_law_pen_here", "_law_leaves", "_law_many", "_law_gates", "_law_k", "_law_ahead"]
abbrev loN : List Str := ["_law_rows_here", "_law_many", "_law_found", "_law_row", "_law_number"]
theorem scBit : FnScope ["_law_found", "_law_literal"] ["_law_found", "_law_literal"] (defScope sBit) := ⟨rfl, rfl, rfl, by decide +kernel, rfl, by decide +kernel, by decide +kernel⟩
theorem scValues : FnScope vaN ["_law_leaves", "_law_gates", "_law_bits"] (defScope sValues) := ⟨rfl, rfl, rfl, by decide +kernel, rfl, by decide +kernel, by decide +kernel⟩
theorem scDrawn : FnScope drN ["_law_pen_here", "_law_leaves", "_law_many"] (defScope sDrawn) := ⟨rfl, rfl, rfl, by decide +kernel, rfl, by decide +kernel, by decide +kernel⟩
theorem scLonger : FnScope loN ["_law_rows_here", "_law_many"] (defScope sLonger) := ⟨rfl, rfl, rfl, by decide +kernel, rfl, by decide +kernel, by decide +kernel⟩
theorem scRows : FnScope ["_law_many", "_law_rows_here", "_law_k"] ["_law_many"] (defScope sRows) := ⟨rfl, rfl, rfl, by decide +kernel, rfl, by decide +kernel, by decide +kernel⟩
theorem ok_bit (F : FnP K "_law_bit" sBit f fd) (T : Tx mg) : FnOk P w K mg base CX0 1 f fd ["_law_found", "_law_literal"] (spBit K) := by
  refine F.ok scBit (fun vs H Q E h => ?_) (fun cdv A outer s H vs Q E hr h => ?_)
  · obtain ⟨l, xs, a, rfl, _⟩ := h
    rfl
  · obtain ⟨l, xs, a, rfl, hl, ha, hz, q⟩ := h
    refine ⟨_, PSs.nox (pss_one (ps_ret (pe_callB call_abs (by rfl) T.abs (by decide +kernel) (pa_cons (pe_op op_sub (pe_ix ix_list (pv 0) (pe_op op_fdiv (pv 1) pe_int) (fun _ _ => rfl))
      (pe_op op_mod (pe_callTy call_int1 (by rfl) T.pen.int (by decide +kernel) (pa_cons (pv 1) pa_nil)) pe_int)) pa_nil)))), ?_⟩
    have e : a / 2 = (((a / 2).toNat : Nat) : Int) := by omega
    exact ⟨_, rfl, _, rfl, _, _, rfl, rfl, ⟨by decide, by decide⟩, l, _, _, _, rfl, rfl, hl, at_of e (getD_of hz), _, rfl, .inl ⟨_, rfl, _, _, rfl, rfl, (by show (0 : Int) < 2; decide), _, _, rfl, rfl, _, rfl, q⟩⟩
theorem ok_values {fB : Addr} {fdB : FuncData} (F : FnP K "_law_values" sValues f fd) (T : Tx mg) (FB : FnP K "_law_bit" sBit fB fdB) (gB : mg "_law_bit" = some (.ref fB)) : FnOk P w K mg base CX0 2 f fd ["_law_leaves", "_law_gates", "_law_bits"] (spValues K) := by
  have GB : FnOk P w K mg base CX0 1 fB fdB ["_law_found", "_law_literal"] (spBit K) := ok_bit FB T
  have bB : Binds K fdB ["_law_found", "_law_literal"] [] := FB.bindsN fun _ _ _ _ _ _ us hl => match us, hl with | [_, _], _ => rfl
  refine F.ok scValues (fun vs H Q E h => ?_) (fun cdv A outer s H vs Q E hr h => ?_)
  · obtain ⟨u, g, r, gs, bs, rfl, _⟩ := h
    rfl
  · obtain ⟨u, g, r, gs, bs, rfl, hG, hB, hb, hok, hz1, hz2, q⟩ := h
    obtain ⟨ps, hg, ha⟩ := id hG
    refine ⟨_, PSs.nox (pss_cons (ps_set (i := 3) scValues.nd rfl (Or.inl rfl) (pe_op op_cat (pe_lst (pa_cons pe_int pa_nil)) (pe_callTy call_list_of (by rfl) T.pen.list (by decide +kernel) (pa_cons (pv 2) pa_nil))))
      (pss_cons (ps_for PassesOwn.never rfl (pi_tup (pv 1)) (pg_tup rfl (pgs_cons (pg_name (i := 4) scValues.nd rfl (Or.inl rfl)) (pgs_cons (pg_name (i := 5) scValues.nd rfl (Or.inl rfl)) pgs_nil)))
        (pss_one (ps_expr (pe_bm PySem.F.plainAttrs_list PySem.F.slot_list_append PySem.F.type_list_append mt_append (pv 3) (pa_cons (pe_op op_mul
          (pe_call GB hr (by rfl) gB FB.kp bB .nil pass0 (pa_cons (pv 3) (pa_cons (pv 4) pa_nil)))
          (pe_call GB hr (by rfl) gB FB.kp bB .nil pass0 (pa_cons (pv 3) (pa_cons (pv 5) pa_nil)))) pa_nil)))))
      (pss_one (ps_ret (pv 3))))), ?_⟩
    refine ⟨(by show 1 ≤ sizeLine; decide), fun l1 n1 => ?_⟩
    have s1 : Same H (upd H l1 (.lst [.int 0])) := same_new n1
    refine ⟨_, rfl, r, _, rfl, .inr (seqT_same s1 hB), fun l2 n2 => ?_⟩
    have s2 := same_new (u := .lst (bs.map V.int)) n2
    refine ⟨_, _, _, _, rfl, rfl, s2 _ _ upd_same, upd_same, ?_, fun l n3 => ?_⟩
    · rw [List.length_map]
      show 1 + bs.length ≤ sizeLine
      exact Nat.le_trans (by omega : 1 + bs.length ≤ 501) (by decide)
    have s3 := same_new (u := .lst ([V.int 0] ++ bs.map V.int)) n3
    have s123 := s1.trans (s2.trans s3)
    have nl : H l = none := (s1.trans s2).free n3
    generalize hH : upd _ l _ = H1 at s123
    have h1 : H1 l = some (.lst ((vals bs []).map V.int)) := by
      rw [← hH, upd_same]
      rfl
    clear hH s3 n3
    refine ⟨_, rfl, g, rfl, ⟨_, seqT_same s123 hg⟩, for_tup (K := K) (a := g) (xs := ps)
      (fun i σ H2 => ∃ x y : Option V, σ = [some u, some (.ref g), some (.ref r), some (.ref l), x, y] ∧ Same H H2 ∧ H2 l = some (.lst ((vals bs (gs.take i)).map V.int)))
      ⟨none, none, rfl, s123, h1⟩ (fun i σ H2 _ ⟨_, _, _, z, _⟩ => seqT_same z hg) ?_ ?_⟩
    · rintro i x σ H2 hi ⟨y, y', rfl, z2, h2⟩
      obtain ⟨z, hz, hx⟩ := ha.get hi
      obtain ⟨q0, rfl, hq⟩ := hx
      have hi2 : i < gs.length := (List.getElem?_eq_some_iff.mp hz).1
      obtain ⟨⟨a0, a1⟩, b0, b1⟩ := okG_at hok hz
      have lv : (vals bs (gs.take i)).length = bs.length + 1 + i := by
        rw [vals_len, List.length_take, Nat.min_eq_left (Nat.le_of_lt hi2)]
      have v01 := vals_01 (gs.take i) hb
      have f1 := lit_01 v01 z.1
      refine ⟨q0, _, rfl, seqT_same z2 hq, rfl, _, _, rfl, _, _, rfl, rfl, ?_⟩
      refine ⟨_, rfl, .inl ⟨rfl, _, SqL.of h2⟩, _, rfl, _, rfl, l, _, z.1, rfl, SqL.of h2, a0, by omega, _, rfl, _, rfl, l, _, z.2, rfl, SqL.of h2, b0, by omega, _, _, rfl, rfl, .inl ?_, l, _, _, rfl, rfl, h2, ?_, ?_⟩
      · rcases f1 with e | e <;> rw [e] <;> exact ⟨by decide, by decide⟩
      · rw [List.length_map, lv]
        exact Nat.lt_of_lt_of_le (by omega : bs.length + 1 + i < 1002) (by decide)
      · refine ⟨_, _, rfl, fun b o e => ?_, ?_⟩
        · rw [upd_ne (ne_of_none e nl)]
          exact z2 _ _ e
        · rw [upd_same, vals_take bs hz]
          unfold No.step
          rw [List.map_append]
          rfl
    · rintro σ H2 ⟨y, y', rfl, z2, h2⟩
      rw [ha.len, List.take_length] at h2
      exact ⟨_, rfl, q _ l z2 nl h2⟩
theorem ok_drawn {fD : Addr} {fdD : FuncData} (F : FnP K "_law_drawn_gates" sDrawn f fd) (T : Tx mg) (FD : FnP K "_law_draw" sDraw fD fdD) (gD : mg "_law_draw" = some (.ref fD)) : FnOk P w K mg base CX0 2 f fd ["_law_pen_here", "_law_leaves", "_law_many"] (spDrawn K) := by
  have GD : FnOk P w K mg base CX0 1 fD fdD ["_law_pen_here", "_law_many"] spDraw := ok_draw FD T.pen
  have bD : Binds K fdD ["_law_pen_here", "_law_many"] [] := FD.bindsN fun _ _ _ _ _ _ us hl => match us, hl with | [_, _], _ => rfl
  refine F.ok scDrawn (fun vs H Q E h => ?_) (fun cdv A outer s H vs Q E hr h => ?_)
  · obtain ⟨p, c, k, n, m, rfl, _⟩ := h
    rfl
  · obtain ⟨p, c, k, n, m, rfl, hP, hk, n0, n1, m0, m1, q⟩ := h
    refine ⟨_, PSs.nox (pss_cons (ps_set (i := 3) scDrawn.nd rfl (Or.inl rfl) (pe_lst pa_nil))
      (pss_cons (ps_for PassesOwn.never rfl (pi_range1 (by rfl) T.range (pa_cons (pv 2) pa_nil)) (pg_name (i := 4) scDrawn.nd rfl (Or.inl rfl))
        (pss_cons (ps_set (i := 5) scDrawn.nd rfl (Or.inl rfl) (pe_op op_mul pe_int (pe_op op_add (pe_op op_add pe_int (pv 1)) (pv 4))))
        (pss_one (ps_expr (pe_bm PySem.F.plainAttrs_list PySem.F.slot_list_append PySem.F.type_list_append mt_append (pv 3) (pa_cons (pe_tup (pa_cons
          (pe_call GD hr (by rfl) gD FD.kp bD .nil pass0 (pa_cons (pv 0) (pa_cons (pv 5) pa_nil))) (pa_cons
          (pe_call GD hr (by rfl) gD FD.kp bD .nil pass0 (pa_cons (pv 0) (pa_cons (pv 5) pa_nil))) pa_nil))) pa_nil))))))
      (pss_one (ps_ret (pe_callTy call_tuple_of (by rfl) T.tuple (by decide +kernel) (pa_cons (pv 3) pa_nil)))))), ?_⟩
    refine ⟨(by show 0 ≤ sizeLine; decide), fun l nl => ?_⟩
    obtain ⟨lp, lc⟩ := hP.free nl
    have sl := same_new (u := .lst []) nl
    refine ⟨_, rfl, m, rfl, ?_, ?_, for_range (lo := 0) (n := m.toNat)
      (fun i σ H2 => ∃ (x y : Option V) (ys : List V) (gs : List (Int × Int)), σ = [some (.ref p), some (.int n), some (.int m), some (.ref l), x, y] ∧ PenC H2 p c (k + 2 * i) ∧ (∀ b o, H b = some o → b ≠ p → H2 b = some o) ∧
        H2 l = some (.lst ys) ∧ All2 (Pt K H2) ys gs ∧ okG (2 * n + 1) gs = true ∧ gs.length = i)
      ⟨none, none, [], [], rfl, hP.same sl, fun b o e _ => sl _ _ e, upd_same, .nil, rfl, rfl⟩ ?_ ?_⟩
    · omega
    · omega
    · rintro i σ H2 hi ⟨x, y, ys, gs, rfl, hP2, keep, h2, ha, hok, hlen⟩
      have him : (i : Int) < m := by omega
      refine ⟨_, rfl, _, _, rfl, rfl, _, rfl, _, _, rfl, rfl, _, _, rfl, rfl, .inl ⟨by decide, by decide⟩, ?_⟩
      refine ⟨_, rfl, .inl ⟨rfl, _, SqL.of h2⟩, _, rfl, _, rfl, p, c, k + 2 * i, _, rfl, hP2, by omega, by omega, by omega, fun r1 H3 r10 r11 P3 B3 => ?_⟩
      refine ⟨_, rfl, _, rfl, p, c, k + 2 * i + 1, _, rfl, P3, by omega, by omega, by omega, fun r2 H4 r20 r21 P4 B4 => ?_⟩
      refine ⟨(by show 2 ≤ sizeLine; decide), fun t nt => ?_⟩
      have st := same_new (u := .tup [V.int r1, V.int r2]) nt
      have h4 : H4 l = some (.lst ys) := B4 _ _ (B3 _ _ h2 lp) lp
      have f34 : Firm H2 H4 := (Firm.pen B3 hP2).trans (Firm.pen B4 P3)
      refine ⟨l, _, _, rfl, rfl, st _ _ h4, ?_, ?_⟩
      · rw [ha.len, hlen]
        exact Nat.lt_of_lt_of_le (by omega : i < 101) (by decide)
      · have fl : Firm (upd H4 t (.tup [V.int r1, V.int r2])) (upd (upd H4 t (.tup [V.int r1, V.int r2])) l (.lst (ys ++ [.ref t]))) := Firm.upd (st _ _ h4) rfl
        refine ⟨_, _, ys ++ [.ref t], gs ++ [(r1, r2)], rfl, ?_, fun b o e ne => ?_, upd_same, ?_, ?_, ?_⟩
        · have z := (P4.same st).upd (o := .lst (ys ++ [.ref t])) lp lc
          rw [show k + 2 * (i + 1) = k + 2 * i + 1 + 1 by omega]
          exact z
        · rw [upd_ne (ne_of_none e nl)]
          exact st _ _ (B4 _ _ (B3 _ _ (keep b o e ne) ne) ne)
        · exact (ha.imp fun _ _ h => ((h.firm f34).firm (Firm.of st)).firm fl).snoc ⟨t, rfl, firm_seq fl (SqT.of upd_same)⟩
        · exact okG_snoc hok r10 (by show r1 ≤ _; rw [hlen]; omega) r20 (by show r2 ≤ _; rw [hlen]; omega)
        · rw [List.length_append, hlen]
          rfl
    · rintro σ H2 ⟨x, y, ys, gs, rfl, hP2, keep, h2, ha, hok, hlen⟩
      refine ⟨_, rfl, l, _, rfl, .inl ⟨SqL.of h2, fun g ng => ?_⟩⟩
      have sg := same_new (u := .tup ys) ng
      exact q _ g gs (hP2.same sg) (fun b o e ne => sg _ _ (keep b o e ne)) ⟨ys, SqT.of upd_same, ha.imp fun _ _ h => h.firm (Firm.of sg)⟩ hok hlen
theorem ok_longer (F : FnP K "_law_longer" sLonger f fd) (T : Tx mg) : FnOk P w K mg base CX0 1 f fd ["_law_rows_here", "_law_many"] (spLonger K) := by
  refine F.ok scLonger (fun vs H Q E h => ?_) (fun cdv A outer s H vs Q E hr h => ?_)
  · obtain ⟨l, ws, rs, rfl, _⟩ := h
    rfl
  · obtain ⟨l, ws, rs, rfl, hl, ha, hzn, hz2, q⟩ := h
    refine ⟨_, PSs.nox (pss_cons (ps_set (i := 2) scLonger.nd rfl (Or.inl rfl) (pe_lst pa_nil))
      (pss_cons (ps_for PassesOwn.never rfl (pi_list (pv 0)) (pg_name (i := 3) scLonger.nd rfl (Or.inr rfl))
        (pss_one (ps_set (i := 2) scLonger.nd rfl (Or.inl rfl) (pe_op op_cat (pv 2) (pe_lc (own := [("_law_number", 4)]) (g := gName 4) (tt := tYes) rfl scLonger.nd (pi_range1 (by rfl) T.range (pa_cons (pv 1) pa_nil)) (blkOk_by (N := loN) (sc := defScope sLonger) (by decide +kernel))
          (fun _ _ _ _ _ => pg_name (i := 4) scLonger.nd rfl (Or.inl rfl)) (fun _ _ _ _ _ => pts_nil) (fun _ _ _ _ _ => pe_op (r := rCatA K) (by exact op_catA) (pv 3) (pe_tup (pa_cons (pv 4) pa_nil))))))))
      (pss_one (ps_ret (pv 2))))), ?_⟩
    refine ⟨(by show 0 ≤ sizeLine; decide), fun l0 n0 => ?_⟩
    have s0 := same_new (u := .lst []) n0
    refine ⟨_, rfl, l, rfl, ⟨_, s0.seq hl⟩, for_list (K := K) (a := l) (xs := ws)
      (fun i σ H2 => ∃ (x : Option V) (t : Addr) (zs : List V), σ = [some (.ref l), some (.int 2), some (.ref t), x, none] ∧ Same H H2 ∧ H2 t = some (.lst zs) ∧ All2 (Tu K H2) zs (longer (rs.take i)))
      ⟨none, l0, [], rfl, s0, upd_same, .nil⟩ (fun i σ H2 _ ⟨_, _, _, _, z, _⟩ => z.seq hl) ?_ ?_⟩
    · rintro i x σ H2 hi ⟨y, t, zs, rfl, s2, h2, hz⟩
      obtain ⟨r, hr1, hr2⟩ := ha.get hi
      obtain ⟨q0, rfl, hq⟩ := hr2
      have hq2 : SqT K H2 q0 (r.map V.int) := SqT.of (s2 _ _ hq)
      refine ⟨_, rfl, _, rfl, 2, rfl, by decide, by decide, fun D nD => ?_⟩
      refine lc_range (lo := 0) (n := 2) (fun j H3 => Same H2 H3 ∧ ∃ us, H3 D = some (.lst us) ∧ All2 (Tu K H3) us ((List.range j).map fun (k : Nat) => r ++ [0 + (k : Int)])) ⟨same_new nD, [], upd_same, .nil⟩ ?_ ?_
      · rintro j H3 hj ⟨s3, us, h3, h3a⟩
        have ul : us.length < sizeLine := by
          rw [h3a.len, List.length_map, List.length_range]
          exact Nat.lt_trans hj (by decide)
        have fin : ∀ (t2 : Addr) (H4 : Hp), Same H3 H4 → H4 t2 = some (.tup ((r ++ [0 + (j : Int)]).map V.int)) → ∃ acc, H4 D = some (.lst acc) ∧ acc.length < sizeLine ∧ Same H2 (upd H4 D (.lst (acc ++ [.ref t2]))) ∧
            ∃ us, (upd H4 D (.lst (acc ++ [.ref t2]))) D = some (.lst us) ∧ All2 (Tu K (upd H4 D (.lst (acc ++ [.ref t2])))) us ((List.range (j + 1)).map fun (k : Nat) => r ++ [0 + (k : Int)]) := fun t2 H4 s4 ht => by
          have fi : Firm H4 (upd H4 D (.lst (us ++ [.ref t2]))) := Firm.upd (s4 _ _ h3) rfl
          refine ⟨us, s4 _ _ h3, ul, fun b o e => ?_, us ++ [.ref t2], upd_same, ?_⟩
          · rw [upd_ne (ne_of_none e nD)]
            exact s4 _ _ (s3 _ _ e)
          · rw [List.range_succ, List.map_append]
            exact (h3a.imp fun _ _ h => (h.firm (Firm.of s4)).firm fi).snoc ⟨t2, rfl, fi _ _ ht rfl⟩
        refine ⟨rfl, yes_of ?_⟩
        refine ⟨_, rfl, _, rfl, (by show 1 ≤ sizeLine; decide), fun t1 nt1 => ?_⟩
        have s1 := same_new (u := .tup [V.int (0 + (j : Int))]) nt1
        have hr3 := hz2 r (List.mem_of_getElem? hr1)
        refine ⟨q0, t1, _, _, rfl, rfl, seqT_same (s3.trans s1) hq2, SqT.of upd_same, ?_, fun e => ?_, fun _ e => ?_, fun e _ t2 nt2 => ?_⟩
        · rw [List.length_map]
          exact Nat.le_trans (by show r.length + 1 ≤ 101; omega) (by decide)
        · have er : r = [] := List.map_eq_nil_iff.mp e
          exact fin t1 _ s1 (by rw [er]; exact upd_same)
        · cases e
        · have s2' := same_new (u := .tup (r.map V.int ++ [V.int (0 + (j : Int))])) nt2
          exact fin t2 _ (s1.trans s2') (by rw [List.map_append]; exact upd_same)
      · rintro H3 ⟨s3, us, h3, h3a⟩
        have hu2 : us.length = 2 := by
          rw [h3a.len]
          rfl
        have hzl := hz.len
        have tl : (rs.take i).length ≤ 2100 := by
          rw [List.length_take]
          exact Nat.le_trans (Nat.min_le_right _ _) hzn
        refine ⟨t, D, zs, us, rfl, rfl, s3 _ _ h2, h3, ?_, fun t2 nt2 => ?_⟩
        · rw [hzl, longer_len, hu2]
          exact Nat.le_trans (by omega : 2 * (rs.take i).length + 2 ≤ 4202) (by decide)
        · have s4 := same_new (u := .lst (zs ++ us)) nt2
          refine ⟨_, t2, zs ++ us, rfl, s2.trans (s3.trans s4), upd_same, ?_⟩
          rw [take_more hr1, longer_app]
          exact (hz.imp fun _ _ h => h.firm (Firm.of (s3.trans s4))).append (h3a.imp fun _ _ h => h.firm (Firm.of s4))
    · rintro σ H2 ⟨y, t, zs, rfl, s2, h2, hz⟩
      rw [ha.len, List.take_length] at hz
      exact ⟨_, rfl, q _ t zs s2 h2 hz⟩
theorem ok_rows {fL : Addr} {fdL : FuncData} (F : FnP K "_law_rows" sRows f fd) (T : Tx mg) (FL : FnP K "_law_longer" sLonger fL fdL) (gL : mg "_law_longer" = some (.ref fL)) : FnOk P w K mg base CX0 2 f fd ["_law_many"] (spRows K) := by
  have GL : FnOk P w K mg base CX0 1 fL fdL ["_law_rows_here", "_law_many"] (spLonger K) := ok_longer FL T
  have bL : Binds K fdL ["_law_rows_here", "_law_many"] [] := FL.bindsN fun _ _ _ _ _ _ us hl => match us, hl with | [_, _], _ => rfl
  refine F.ok scRows (fun vs H Q E h => ?_) (fun cdv A outer s H vs Q E hr h => ?_)
  · obtain ⟨m, rfl, _⟩ := h
    rfl
  · obtain ⟨m, rfl, m0, m1, q⟩ := h
    refine ⟨_, PSs.nox (pss_cons (ps_set (i := 1) scRows.nd rfl (Or.inl rfl) (pe_lst (pa_cons (pe_tup pa_nil) pa_nil)))
      (pss_cons (ps_for PassesOwn.never rfl (pi_range1 (by rfl) T.range (pa_cons (pv 0) pa_nil)) (pg_name (i := 2) scRows.nd rfl (Or.inl rfl))
        (pss_one (ps_set (i := 1) scRows.nd rfl (Or.inl rfl) (pe_call GL hr (by rfl) gL FL.kp bL .nil pass0 (pa_cons (pv 1) (pa_cons pe_int pa_nil))))))
      (pss_one (ps_ret (pv 1))))), ?_⟩
    refine ⟨(by show 0 ≤ sizeLine; decide), fun t nt => ⟨(by show 1 ≤ sizeLine; decide), fun l nl => ?_⟩⟩
    have s1 := same_new (u := .tup []) nt
    have s2 := same_new (u := .lst [.ref t]) nl
    refine ⟨_, rfl, m, rfl, ?_, ?_, for_range (lo := 0) (n := m.toNat)
      (fun i σ H2 => ∃ (x : Option V) (l : Addr) (zs : List V), σ = [some (.int m), some (.ref l), x] ∧ Same H H2 ∧ H2 l = some (.lst zs) ∧ All2 (Tu K H2) zs (rowsM i))
      ⟨none, l, [.ref t], rfl, s1.trans s2, upd_same, .cons ⟨t, rfl, s2 _ _ upd_same⟩ .nil⟩ ?_ ?_⟩
    · omega
    · omega
    · rintro i σ H2 hi ⟨x, l, zs, rfl, s3, h3, ha⟩
      have hi7 : i < 11 := by omega
      have hpow : (rowsM i).length ≤ 2100 := by
        rw [rowsM_len]
        exact Nat.le_trans (Nat.pow_le_pow_right (by decide) (by omega : i ≤ 10)) (by decide)
      refine ⟨_, rfl, l, zs, rowsM i, rfl, SqL.of h3, ha, hpow, fun r hr => ?_, fun H4 l' ws s4 h4 ha4 => ?_⟩
      · rw [(rowsM_mem i r hr).1]
        omega
      · exact ⟨_, l', ws, rfl, s3.trans s4, h4, ha4⟩
    · rintro σ H2 ⟨x, l, zs, rfl, s3, h3, ha⟩
      exact ⟨_, rfl, q _ l zs s3 h3 ha⟩
end
end Lf
namespace Rp
open PySem PySem.Spec PyProof.Rows L2 Fi
/-! ## What may be handed to repr -/
structure ROk (d : PyData) : Prop where
  show_ : d.showable = true
  dict : d.hasDict = false
  deep : d.depth ≤ 60
  long : d.shown.length ≤ sizeLine
def Small (i : Int) : Prop := 0 ≤ i ∧ i < 1000
theorem log_small : ∀ n : Nat, n < 1000 → n.log2 < 10 := by decide +kernel
theorem abs_small {i : Int} (h : Small i) : i.natAbs < 1000 := by
  obtain ⟨a, b⟩ := h
  omega
theorem show_small {i : Int} (h : Small i) : (PyData.int i).showable = true := by
  have := log_small _ (abs_small h)
  exact decide_eq_true (Nat.lt_trans this (by decide))
theorem weigh_small {i : Int} (h : Small i) : (PyData.int i).weight ≤ 10 := by
  have := log_small _ (abs_small h)
  show (if i == 0 then 0 else i.natAbs.log2 + 1) ≤ 10
  split <;> omega
theorem short_small {i : Int} (h : Small i) : (PyData.int i).intsShort 13 = true := by
  have := abs_small h
  exact decide_eq_true (PyData.shown_int_le (Nat.lt_trans this (by decide)))
theorem ints_all : ∀ {ns : List Int}, (∀ z ∈ ns, Small z) → PyData.showableAll (ns.map .int) = true ∧ PyData.hasDictAll (ns.map .int) = false ∧ PyData.depthAll (ns.map .int) = 0 ∧ PyData.canLayAll0 (ns.map .int) = true ∧
    PyData.intsShortAll 13 (ns.map .int) = true ∧ PyData.weightAll (ns.map .int) ≤ 11 * ns.length
  | [], _ => ⟨rfl, rfl, rfl, rfl, rfl, Nat.zero_le _⟩
  | z :: r, h => by
    have hz := h z List.mem_cons_self
    obtain ⟨a, b, c, d, e, g⟩ := ints_all (ns := r) fun y hy => h y (List.mem_cons_of_mem _ hy)
    refine ⟨?_, b, ?_, d, ?_, ?_⟩
    · show ((PyData.int z).showable && PyData.showableAll (r.map .int)) = true
      rw [show_small hz, a]
      rfl
    · show max 0 (PyData.depthAll (r.map .int)) = 0
      rw [c]
      rfl
    · show ((PyData.int z).intsShort 13 && PyData.intsShortAll 13 (r.map .int)) = true
      rw [short_small hz, e]
      rfl
    · show (PyData.int z).weight + 1 + PyData.weightAll (r.map .int) ≤ 11 * (r.length + 1)
      have := weigh_small hz
      omega
theorem row_ok {ns : List Int} (h : ∀ z ∈ ns, Small z) (hz : ns.length ≤ 1000) : ROk (.tuple (ns.map .int)) := by
  obtain ⟨a, b, c, d, e, g⟩ := ints_all h
  refine ⟨a, b, by show PyData.depthAll (ns.map .int) + 1 ≤ 60; omega, PyData.shown_fits_of_layable0 (B := 13) (by decide) (by decide) ?_ e⟩
  show ((PyData.canLayAll0 (ns.map .int) && decide (PyData.depthAll (ns.map .int) + 1 ≤ 64)) && decide (PyData.weightAll (ns.map .int) ≤ 2 ^ 20)) = true
  rw [d, decide_eq_true (by omega), decide_eq_true (Nat.le_trans g (Nat.le_trans (Nat.mul_le_mul_left 11 hz) (by decide)))]
  rfl
def SmallP (p : Int × Int) : Prop := Small p.1 ∧ Small p.2
theorem pairs_all : ∀ {gs : List (Int × Int)}, (∀ p ∈ gs, SmallP p) → PyData.showableAll (gs.map pD) = true ∧ PyData.hasDictAll (gs.map pD) = false ∧ PyData.depthAll (gs.map pD) ≤ 1 ∧ PyData.canLayAll0 (gs.map pD) = true ∧
    PyData.intsShortAll 13 (gs.map pD) = true ∧ PyData.weightAll (gs.map pD) ≤ 30 * gs.length
  | [], _ => ⟨rfl, rfl, Nat.zero_le _, rfl, rfl, Nat.zero_le _⟩
  | p :: r, h => by
    obtain ⟨p1, p2⟩ := h p List.mem_cons_self
    obtain ⟨a, b, c, d, e, g⟩ := pairs_all (gs := r) fun y hy => h y (List.mem_cons_of_mem _ hy)
    refine ⟨?_, b, ?_, d, ?_, ?_⟩
    · show (((PyData.int p.1).showable && ((PyData.int p.2).showable && true)) && PyData.showableAll (r.map pD)) = true
      rw [show_small p1, show_small p2, a]
      rfl
    · show max 1 (PyData.depthAll (r.map pD)) ≤ 1
      exact Nat.max_le.mpr ⟨Nat.le_refl _, c⟩
    · show (((PyData.int p.1).intsShort 13 && ((PyData.int p.2).intsShort 13 && true)) && PyData.intsShortAll 13 (r.map pD)) = true
      rw [short_small p1, short_small p2, e]
      rfl
    · show ((PyData.int p.1).weight + 1 + ((PyData.int p.2).weight + 1 + 0)) + 1 + PyData.weightAll (r.map pD) ≤ 30 * (r.length + 1)
      have h1 := weigh_small p1
      have h2 := weigh_small p2
      omega
theorem gates_ok {gs : List (Int × Int)} (h : ∀ p ∈ gs, SmallP p) (hz : gs.length ≤ 1000) : ROk (gD gs) := by
  obtain ⟨a, b, c, d, e, g⟩ := pairs_all h
  refine ⟨a, b, by show PyData.depthAll (gs.map pD) + 1 ≤ 60; omega, PyData.shown_fits_of_layable0 (B := 13) (by decide) (by decide) ?_ e⟩
  show ((PyData.canLayAll0 (gs.map pD) && decide (PyData.depthAll (gs.map pD) + 1 ≤ 64)) && decide (PyData.weightAll (gs.map pD) ≤ 2 ^ 20)) = true
  rw [d, decide_eq_true (by omega), decide_eq_true (Nat.le_trans g (Nat.le_trans (Nat.mul_le_mul_left 30 hz) (by decide)))]
  rfl
theorem shaped_ints {ns : List Int} (h : ∀ z ∈ ns, Small z) : SeqAt.shaped (.list (ns.map .int)) = true ∧ SeqAt.shaped (.tuple (ns.map .int)) = true := by
  obtain ⟨a, b, c, d, e, g⟩ := ints_all h
  have k : (PyData.canLayAll0 (ns.map .int) && decide (PyData.depthAll (ns.map .int) + 1 ≤ 64)) = true := by
    rw [d, decide_eq_true (by omega)]
    rfl
  exact ⟨k, k⟩
theorem eqv_len : ∀ (xs ys : List PyData), PyData.eqvAll xs ys = true → xs.length = ys.length
  | [], [], _ => rfl
  | [], _ :: _, h => by
    unfold PyData.eqvAll at h
    cases h
  | _ :: _, [], h => by
    unfold PyData.eqvAll at h
    cases h
  | x :: xs, y :: ys, h => by
    unfold PyData.eqvAll at h
    exact congrArg Nat.succ (eqv_len xs ys (Bool.and_eq_true_iff.mp h).2)
theorem eqv_self (gs : List (Int × Int)) : PyData.eqv (gD gs) (gD gs) = true := SeqAt.eqv_refl _ (Gr.can_pD gs)
theorem eqv_cut {gs hs : List (Int × Int)} (h : gs.length ≠ hs.length) : PyData.eqv (gD gs) (gD hs) = false := by
  cases e : PyData.eqv (gD gs) (gD hs) with
  | false => rfl
  | true =>
    have e' : PyData.eqvAll (gs.map pD) (hs.map pD) = true := by
      unfold gD PyData.eqv at e
      exact e
    have := eqv_len _ _ e'
    rw [List.length_map, List.length_map] at this
    exact absurd this h
end Rp
namespace Rq
open PySem PySem.Spec PyProof.Rows L2 Fi
/-! ## Rows of rows of small ints, handed to repr and compared -/
structure ROk (d : PyData) : Prop where
  show_ : d.showable = true
  dict : d.hasDict = false
  deep : d.depth ≤ 60
  long : d.shown.length ≤ sizeLine
def Small (i : Int) : Prop := i.natAbs < 1000
theorem log_small : ∀ n : Nat, n < 1000 → n.log2 < 10 := by decide +kernel
theorem show_small {i : Int} (h : Small i) : (PyData.int i).showable = true := decide_eq_true (Nat.lt_trans (log_small _ h) (by decide))
theorem weigh_small {i : Int} (h : Small i) : (PyData.int i).weight ≤ 10 := by
  have := log_small _ h
  show (if i == 0 then 0 else i.natAbs.log2 + 1) ≤ 10
  split <;> omega
theorem short_small {i : Int} (h : Small i) : (PyData.int i).intsShort 13 = true := decide_eq_true (PyData.shown_int_le (Nat.lt_trans h (by decide)))
theorem ints_all : ∀ {ns : List Int}, (∀ z ∈ ns, Small z) → PyData.showableAll (ns.map .int) = true ∧ PyData.hasDictAll (ns.map .int) = false ∧ PyData.depthAll (ns.map .int) = 0 ∧ PyData.canLayAll0 (ns.map .int) = true ∧
    PyData.intsShortAll 13 (ns.map .int) = true ∧ PyData.weightAll (ns.map .int) ≤ 11 * ns.length
  | [], _ => ⟨rfl, rfl, rfl, rfl, rfl, Nat.zero_le _⟩
  | z :: r, h => by
    have hz := h z List.mem_cons_self
    obtain ⟨a, b, c, d, e, g⟩ := ints_all (ns := r) fun y hy => h y (List.mem_cons_of_mem _ hy)
    refine ⟨?_, b, ?_, d, ?_, ?_⟩
    · show ((PyData.int z).showable && PyData.showableAll (r.map .int)) = true
      rw [show_small hz, a]
      rfl
    · show max 0 (PyData.depthAll (r.map .int)) = 0
      rw [c]
      rfl
    · show ((PyData.int z).intsShort 13 && PyData.intsShortAll 13 (r.map .int)) = true
      rw [short_small hz, e]
      rfl
    · show (PyData.int z).weight + 1 + PyData.weightAll (r.map .int) ≤ 11 * (r.length + 1)
      have := weigh_small hz
      omega
theorem row_ok {ns : List Int} (h : ∀ z ∈ ns, Small z) (hz : ns.length ≤ 1000) : ROk (.tuple (ns.map .int)) := by
  obtain ⟨a, b, c, d, e, g⟩ := ints_all h
  refine ⟨a, b, by show PyData.depthAll (ns.map .int) + 1 ≤ 60; omega, PyData.shown_fits_of_layable0 (B := 13) (by decide) (by decide) ?_ e⟩
  show ((PyData.canLayAll0 (ns.map .int) && decide (PyData.depthAll (ns.map .int) + 1 ≤ 64)) && decide (PyData.weightAll (ns.map .int) ≤ 2 ^ 20)) = true
  rw [d, decide_eq_true (by omega), decide_eq_true (Nat.le_trans g (Nat.le_trans (Nat.mul_le_mul_left 11 hz) (by decide)))]
  rfl
theorem non_ok : ROk .none := ⟨rfl, rfl, by decide, by decide +kernel⟩
def rD (r : List Int) : PyData := .tuple (r.map .int)
theorem rows_all : ∀ {rs : List (List Int)}, (∀ r ∈ rs, (∀ z ∈ r, Small z) ∧ r.length ≤ 100) → PyData.showableAll (rs.map rD) = true ∧ PyData.hasDictAll (rs.map rD) = false ∧ PyData.depthAll (rs.map rD) ≤ 1 ∧ PyData.canLayAll0 (rs.map rD) = true ∧
    PyData.intsShortAll 13 (rs.map rD) = true ∧ PyData.weightAll (rs.map rD) ≤ 1101 * rs.length
  | [], _ => ⟨rfl, rfl, Nat.zero_le _, rfl, rfl, Nat.zero_le _⟩
  | p :: r, h => by
    obtain ⟨p1, p2⟩ := h p List.mem_cons_self
    obtain ⟨a1, b1, c1, d1, e1, g1⟩ := ints_all p1
    obtain ⟨a, b, c, d, e, g⟩ := rows_all (rs := r) fun y hy => h y (List.mem_cons_of_mem _ hy)
    refine ⟨?_, ?_, ?_, ?_, ?_, ?_⟩
    · show (PyData.showableAll (p.map .int) && PyData.showableAll (r.map rD)) = true
      rw [a1, a]
      rfl
    · show (PyData.hasDictAll (p.map .int) || PyData.hasDictAll (r.map rD)) = false
      rw [b1, b]
      rfl
    · show max (PyData.depthAll (p.map .int) + 1) (PyData.depthAll (r.map rD)) ≤ 1
      rw [c1]
      exact Nat.max_le.mpr ⟨Nat.le_refl _, c⟩
    · show (PyData.canLayAll0 (p.map .int) && PyData.canLayAll0 (r.map rD)) = true
      rw [d1, d]
      rfl
    · show (PyData.intsShortAll 13 (p.map .int) && PyData.intsShortAll 13 (r.map rD)) = true
      rw [e1, e]
      rfl
    · show PyData.weightAll (p.map .int) + 1 + PyData.weightAll (r.map rD) ≤ 1101 * (r.length + 1)
      omega
theorem rows_ok {rs : List (List Int)} (h : ∀ r ∈ rs, (∀ z ∈ r, Small z) ∧ r.length ≤ 100) (hz : rs.length ≤ 600) : ROk (.tuple (rs.map rD)) := by
  obtain ⟨a, b, c, d, e, g⟩ := rows_all h
  refine ⟨a, b, by show PyData.depthAll (rs.map rD) + 1 ≤ 60; omega, PyData.shown_fits_of_layable0 (B := 13) (by decide) (by decide) ?_ e⟩
  show ((PyData.canLayAll0 (rs.map rD) && decide (PyData.depthAll (rs.map rD) + 1 ≤ 64)) && decide (PyData.weightAll (rs.map rD) ≤ 2 ^ 20)) = true
  rw [d, decide_eq_true (by omega), decide_eq_true (Nat.le_trans g (Nat.le_trans (Nat.mul_le_mul_left 1101 hz) (by decide)))]
  rfl
theorem rows_shaped {rs : List (List Int)} (h : ∀ r ∈ rs, (∀ z ∈ r, Small z) ∧ r.length ≤ 100) : SeqAt.shaped (.list (rs.map rD)) = true := by
  obtain ⟨a, b, c, d, e, g⟩ := rows_all h
  show (PyData.canLayAll0 (rs.map rD) && decide (PyData.depthAll (rs.map rD) + 1 ≤ 64)) = true
  rw [d, decide_eq_true (by omega)]
  rfl
theorem tus_dp {K : PySem.W.Frag} {H : Hp} : ∀ {vs : List V} {rs : List (List Int)}, All2 (Tu K H) vs rs → DpAll K H vs (rs.map rD)
  | _, _, .nil => .nil
  | _, _, .cons h t => by
    obtain ⟨q, rfl, h⟩ := h
    exact .cons (.tup (SqT.of h) (ints_dp _)) (tus_dp t)
theorem bools_dp {K : PySem.W.Frag} {H : Hp} : ∀ bs : List Bool, DpAll K H (bs.map V.bl) (bs.map PyData.bool)
  | [] => .nil
  | _ :: r => .cons (.bl _) (bools_dp r)
theorem bools_lay : ∀ bs : List Bool, PyData.canLayAll0 (bs.map PyData.bool) = true ∧ PyData.depthAll (bs.map PyData.bool) = 0
  | [] => ⟨rfl, rfl⟩
  | b :: r => by
    obtain ⟨x, y⟩ := bools_lay r
    refine ⟨x, ?_⟩
    show max 0 (PyData.depthAll (r.map PyData.bool)) = 0
    rw [y]
    rfl
theorem bools_shaped (bs : List Bool) : SeqAt.shaped (.list (bs.map PyData.bool)) = true := by
  obtain ⟨x, y⟩ := bools_lay bs
  show (PyData.canLayAll0 (bs.map PyData.bool) && decide (PyData.depthAll (bs.map PyData.bool) + 1 ≤ 64)) = true
  rw [x, y]
  rfl
end Rq
namespace Cm
open PySem PySem.Spec PyProof.Rows L2 Fi No
/-! ## Clauses, as mathematics -/
def fl (l : Int) : Int := l + 1 - 2 * (l % 2)
def sgn (l : Int) : Int := if l % 2 = 1 then -(l / 2) else l / 2
def bad (ls : List Int) : Bool := ls.any (fun l => l == 1) || ls.any fun l => ls.any fun m => m == fl l
def Asc (cl : List Int) : Prop := cl.Pairwise fun a b => a.natAbs < b.natAbs
def IsCl (ls cl : List Int) : Prop := Asc cl ∧ ∀ z, z ∈ cl ↔ ∃ l ∈ ls, 1 < l ∧ z = sgn l
theorem asc_ext : ∀ {xs ys : List Int}, Asc xs → Asc ys → (∀ z, z ∈ xs ↔ z ∈ ys) → xs = ys
  | [], [], _, _, _ => rfl
  | [], y :: _, _, _, h => absurd ((h y).mpr List.mem_cons_self) List.not_mem_nil
  | x :: _, [], _, _, h => absurd ((h x).mp List.mem_cons_self) List.not_mem_nil
  | x :: xs, y :: ys, hx, hy, h => by
    unfold Asc at hx hy
    rw [List.pairwise_cons] at hx hy
    have e : x = y := by
      rcases List.mem_cons.mp ((h x).mp List.mem_cons_self) with e | m1
      · exact e
      · rcases List.mem_cons.mp ((h y).mpr List.mem_cons_self) with e | m2
        · exact e.symm
        · have a := hx.1 y m2
          have b := hy.1 x m1
          omega
    subst e
    refine congrArg (x :: ·) (asc_ext hx.2 hy.2 fun z => ⟨fun m => ?_, fun m => ?_⟩)
    · rcases List.mem_cons.mp ((h z).mp (List.mem_cons_of_mem _ m)) with e | m'
      · have := hx.1 z m
        rw [e] at this
        exact absurd this (Nat.lt_irrefl _)
      · exact m'
    · rcases List.mem_cons.mp ((h z).mpr (List.mem_cons_of_mem _ m)) with e | m'
      · have := hy.1 z m
        rw [e] at this
        exact absurd this (Nat.lt_irrefl _)
      · exact m'
theorem isCl_uniq {ls c1 c2 : List Int} (h1 : IsCl ls c1) (h2 : IsCl ls c2) : c1 = c2 := asc_ext h1.1 h2.1 fun z => (h1.2 z).trans (h2.2 z).symm
theorem not_bad {ls : List Int} (h : bad ls = false) : ¬ (1 : Int) ∈ ls ∧ ∀ l ∈ ls, ¬ fl l ∈ ls := by
  unfold bad at h
  rw [Bool.or_eq_false_iff, List.any_eq_false, List.any_eq_false] at h
  refine ⟨fun m => h.1 1 m (by rfl), fun l m m2 => ?_⟩
  have z := h.2 l m
  rw [Bool.not_eq_true, List.any_eq_false] at z
  exact z _ m2 (by simp)
theorem is_bad {ls : List Int} (h : bad ls = true) : (1 : Int) ∈ ls ∨ ∃ l ∈ ls, fl l ∈ ls := by
  unfold bad at h
  rw [Bool.or_eq_true, List.any_eq_true, List.any_eq_true] at h
  rcases h with ⟨l, m, e⟩ | ⟨l, m, e⟩
  · rw [beq_iff_eq] at e
    subst e
    exact .inl m
  · obtain ⟨k, mk, ek⟩ := List.any_eq_true.mp e
    rw [beq_iff_eq] at ek
    subst ek
    exact .inr ⟨l, m, mk⟩
theorem bad_of {ls : List Int} (h : (1 : Int) ∈ ls ∨ ∃ l ∈ ls, fl l ∈ ls) : bad ls = true := by
  cases e : bad ls with
  | true => rfl
  | false =>
    obtain ⟨a, b⟩ := not_bad e
    rcases h with h | ⟨l, m, m2⟩
    · exact absurd h a
    · exact absurd m2 (b l m)
theorem sgn_abs {l : Int} (h : 0 ≤ l) : (sgn l).natAbs = (l / 2).toNat := by
  unfold sgn
  split <;> omega
/-- literals in order, none the opposite of another one: their clause -/
theorem isCl_map {ls ns : List Int} (h0 : ∀ l ∈ ls, 0 ≤ l) (hb : bad ls = false) (hn : ns.Pairwise (· < ·)) (hm : ∀ l, l ∈ ns ↔ l ∈ ls ∧ 1 < l) : IsCl ls (ns.map sgn) := by
  obtain ⟨b1, b2⟩ := not_bad hb
  refine ⟨?_, fun z => ⟨fun h => ?_, ?_⟩⟩
  · unfold Asc
    rw [List.pairwise_map]
    refine hn.imp_of_mem fun {a b} ma mb hab => ?_
    have a0 := (hm a).mp ma
    have c0 := (hm b).mp mb
    rw [sgn_abs (h0 a a0.1), sgn_abs (h0 b c0.1)]
    have ne : ¬ b = fl a := fun e => b2 a a0.1 (e ▸ c0.1)
    unfold fl at ne
    have := a0.2
    omega
  · obtain ⟨l, m, rfl⟩ := List.mem_map.mp h
    exact ⟨l, ((hm l).mp m).1, ((hm l).mp m).2, rfl⟩
  · rintro ⟨l, m, h1, rfl⟩
    exact List.mem_map.mpr ⟨l, (hm l).mpr ⟨m, h1⟩, rfl⟩
/-- nodes in order, each with its sign: the same clause -/
theorem isCl_nodes {ls ns : List Int} (h0 : ∀ l ∈ ls, 0 ≤ l) (hb : bad ls = false) (hn : ns.Pairwise (· < ·)) (hm : ∀ n, n ∈ ns ↔ ∃ l ∈ ls, 1 < l ∧ n = l / 2) :
    IsCl ls (ns.map fun n => if 2 * n ∈ ls then n else -n) := by
  obtain ⟨b1, b2⟩ := not_bad hb
  have val : ∀ l ∈ ls, 1 < l → (if 2 * (l / 2) ∈ ls then l / 2 else -(l / 2)) = sgn l := fun l m h1 => by
    unfold sgn
    by_cases e : l % 2 = 1
    · rw [if_pos e, if_neg]
      intro m2
      refine b2 l m ?_
      have : fl l = 2 * (l / 2) := by
        unfold fl
        omega
      rw [this]
      exact m2
    · rw [if_neg e, if_pos]
      have : 2 * (l / 2) = l := by omega
      rw [this]
      exact m
  refine ⟨?_, fun z => ⟨fun h => ?_, ?_⟩⟩
  · unfold Asc
    rw [List.pairwise_map]
    refine hn.imp_of_mem fun {a b} ma mb hab => ?_
    obtain ⟨l, ml, hl, rfl⟩ := (hm a).mp ma
    obtain ⟨k, mk, hk, rfl⟩ := (hm b).mp mb
    rw [val l ml hl, val k mk hk, sgn_abs (h0 l ml), sgn_abs (h0 k mk)]
    omega
  · obtain ⟨n, m, rfl⟩ := List.mem_map.mp h
    obtain ⟨l, ml, hl, rfl⟩ := (hm n).mp m
    exact ⟨l, ml, hl, val l ml hl⟩
  · rintro ⟨l, m, h1, rfl⟩
    exact List.mem_map.mpr ⟨l / 2, (hm _).mpr ⟨l, m, h1, rfl⟩, val l m h1⟩
def bnd (ls : List Int) : Nat := ls.foldr (fun l b => max l.toNat b) 0 + 1
theorem bnd_lt : ∀ {ls : List Int} {l : Int}, l ∈ ls → l.toNat < bnd ls
  | k :: r, l, h => by
    unfold bnd
    rw [List.foldr_cons]
    rcases List.mem_cons.mp h with rfl | h
    · have := Nat.le_max_left l.toNat (r.foldr (fun l b => max l.toNat b) 0)
      omega
    · have z := bnd_lt h
      unfold bnd at z
      have := Nat.le_max_right k.toNat (r.foldr (fun l b => max l.toNat b) 0)
      omega
def clL (ls : List Int) : List Int := (((List.range (bnd ls)).map fun (l : Nat) => (l : Int)).filter fun l => decide (l ∈ ls ∧ 1 < l)).map sgn
theorem isCl_clL {ls : List Int} (h0 : ∀ l ∈ ls, 0 ≤ l) (hb : bad ls = false) : IsCl ls (clL ls) := by
  refine isCl_map h0 hb (List.Pairwise.filter _ ?_) fun l => ?_
  · rw [List.pairwise_map]
    exact (List.pairwise_lt_range).imp fun h => by omega
  · rw [List.mem_filter, List.mem_map, decide_eq_true_eq]
    refine ⟨fun h => h.2, fun h => ⟨⟨l.toNat, List.mem_range.mpr (bnd_lt h.1), ?_⟩, h⟩⟩
    have := h0 l h.1
    omega
def clM (ls : List Int) : Option (List Int) := if bad ls then none else some (clL ls)
/-! ### what they say -/
def satB (as cl : List Int) : Bool := cl.any fun z => decide (as.getD (z.natAbs - 1) 0 = if z > 0 then 1 else 0)
def litv (as : List Int) (l : Int) : Int := lit (0 :: as) l
theorem litv_01 {as : List Int} (h : B01 as) (l : Int) : litv as l = 0 ∨ litv as l = 1 := lit_01 (fun z hz => by
  rcases List.mem_cons.mp hz with rfl | hz
  · exact .inl rfl
  · exact h z hz) l
theorem getD_tail (as : List Int) {k : Nat} (h : 0 < k) : (0 :: as).getD k 0 = as.getD (k - 1) 0 := by
  obtain ⟨j, rfl⟩ := Nat.exists_eq_succ_of_ne_zero (Nat.pos_iff_ne_zero.mp h)
  rw [List.getD_eq_getElem?_getD, List.getD_eq_getElem?_getD]
  rfl
theorem sgn_lit {as : List Int} (h : B01 as) {l : Int} (h1 : 1 < l) : (as.getD ((sgn l).natAbs - 1) 0 = if sgn l > 0 then 1 else 0) ↔ litv as l = 1 := by
  have g := getD_tail as (k := (l / 2).toNat) (by omega)
  have b := getD_01 h ((l / 2).toNat - 1)
  rw [sgn_abs (by omega)]
  unfold litv lit ab
  rw [g]
  generalize as.getD ((l / 2).toNat - 1) 0 = x at b
  unfold sgn
  by_cases e : l % 2 = 1
  · rw [if_pos e, if_neg (by omega), e]
    rcases b with rfl | rfl <;> decide
  · have e0 : l % 2 = 0 := by omega
    rw [if_neg e, if_pos (by omega), e0]
    rcases b with rfl | rfl <;> decide
theorem litv_zero (as : List Int) : litv as 0 = 0 := rfl
theorem litv_one (as : List Int) : litv as 1 = 1 := rfl
theorem litv_fl {as : List Int} (h : B01 as) {l : Int} (h0 : 0 ≤ l) : litv as (fl l) = 1 - litv as l := by
  have e : fl l / 2 = l / 2 := by
    unfold fl
    omega
  have b : (0 :: as).getD (l / 2).toNat 0 = 0 ∨ (0 :: as).getD (l / 2).toNat 0 = 1 := getD_01 (fun z hz => by
    rcases List.mem_cons.mp hz with rfl | hz
    · exact .inl rfl
    · exact h z hz) _
  unfold litv lit ab
  rw [e]
  have m : l % 2 = 0 ∨ l % 2 = 1 := by omega
  have m2 : fl l % 2 = 1 - l % 2 := by
    unfold fl
    omega
  rw [m2]
  rcases b with b | b <;> rcases m with m | m <;> rw [b, m] <;> decide
theorem sat_cl {as ls cl : List Int} (h : B01 as) (h0 : ∀ l ∈ ls, 0 ≤ l) (h1 : ¬ (1 : Int) ∈ ls) (hc : IsCl ls cl) : satB as cl = true ↔ ∃ l ∈ ls, litv as l = 1 := by
  unfold satB
  rw [List.any_eq_true]
  constructor
  · rintro ⟨z, hz, e⟩
    obtain ⟨l, ml, hl, rfl⟩ := (hc.2 z).mp hz
    exact ⟨l, ml, (sgn_lit h hl).mp (of_decide_eq_true e)⟩
  · rintro ⟨l, ml, e⟩
    have l0 := h0 l ml
    have l1 : 1 < l := by
      rcases Int.lt_trichotomy l 1 with q | q | q
      · have : l = 0 := by omega
        rw [this, litv_zero] at e
        cases e
      · rw [q] at ml
        exact absurd ml h1
      · exact q
    exact ⟨sgn l, (hc.2 _).mpr ⟨l, ml, l1, rfl⟩, decide_eq_true ((sgn_lit h l1).mpr e)⟩
theorem sat_bad {as ls : List Int} (h : B01 as) (h0 : ∀ l ∈ ls, 0 ≤ l) (hb : bad ls = true) : ∃ l ∈ ls, litv as l = 1 := by
  rcases is_bad hb with m | ⟨l, m, m2⟩
  · exact ⟨1, m, litv_one as⟩
  · rcases litv_01 h l with e | e
    · refine ⟨fl l, m2, ?_⟩
      rw [litv_fl h (h0 l m), e]
      rfl
    · exact ⟨l, m, e⟩
/-- a row of literals, as the clause of it says -/
def holds (as ls : List Int) : Prop := match clM ls with
  | none => True
  | some cl => satB as cl = true
theorem holds_iff {as ls : List Int} (h : B01 as) (h0 : ∀ l ∈ ls, 0 ≤ l) : holds as ls ↔ ∃ l ∈ ls, litv as l = 1 := by
  unfold holds clM
  cases e : bad ls with
  | true => exact ⟨fun _ => sat_bad h h0 e, fun _ => trivial⟩
  | false => exact sat_cl h h0 (not_bad e).1 (isCl_clL h0 e)
def three (g : Int) (p : Int × Int) : List (List Int) := [[p.1, g + 1], [p.2, g + 1], [fl p.1, fl p.2, g]]
def clauses (n : Nat) : List (Int × Int) → List (List Int)
  | [] => []
  | p :: r => (three (2 * ((n : Int) + 1)) p).filterMap clM ++ clauses (n + 1) r
theorem gate_iff {as : List Int} {g : Int} {p : Int × Int} (h : B01 as) (h1 : 0 ≤ p.1) (h2 : 0 ≤ p.2) (hg : 0 ≤ g) (he : g % 2 = 0) :
    (∀ cl ∈ (three g p).filterMap clM, satB as cl = true) ↔ litv as g = litv as p.1 * litv as p.2 := by
  have tr : (∀ cl ∈ (three g p).filterMap clM, satB as cl = true) ↔ ∀ ls ∈ three g p, holds as ls := by
    constructor
    · intro q ls m
      unfold holds
      cases e : clM ls with
      | none => exact trivial
      | some cl => exact q cl (List.mem_filterMap.mpr ⟨ls, m, e⟩)
    · intro q cl m
      obtain ⟨ls, m1, e⟩ := List.mem_filterMap.mp m
      have z := q ls m1
      unfold holds at z
      rw [e] at z
      exact z
  have f1 : 0 ≤ fl p.1 := by
    unfold fl
    omega
  have f2 : 0 ≤ fl p.2 := by
    unfold fl
    omega
  have eg : g + 1 = fl g := by
    unfold fl
    omega
  have nn1 : ∀ l ∈ [p.1, g + 1], 0 ≤ l := fun l m => by
    rcases List.mem_cons.mp m with rfl | m
    · exact h1
    · rw [List.mem_singleton.mp m]
      omega
  have nn2 : ∀ l ∈ [p.2, g + 1], 0 ≤ l := fun l m => by
    rcases List.mem_cons.mp m with rfl | m
    · exact h2
    · rw [List.mem_singleton.mp m]
      omega
  have nn3 : ∀ l ∈ [fl p.1, fl p.2, g], 0 ≤ l := fun l m => by
    rcases List.mem_cons.mp m with rfl | m
    · exact f1
    · rcases List.mem_cons.mp m with rfl | m
      · exact f2
      · rw [List.mem_singleton.mp m]
        exact hg
  have k1 := holds_iff h nn1
  have k2 := holds_iff h nn2
  have k3 := holds_iff h nn3
  simp only [List.mem_cons, List.not_mem_nil, or_false, exists_eq_or_imp, exists_eq_left] at k1 k2 k3
  rw [tr]
  simp only [three, List.mem_cons, List.not_mem_nil, or_false, forall_eq_or_imp, forall_eq]
  rw [k1, k2, k3, eg, litv_fl h hg, litv_fl h h1, litv_fl h h2]
  rcases litv_01 h p.1 with a | a <;> rcases litv_01 h p.2 with b | b <;> rcases litv_01 h g with c | c <;> rw [a, b, c] <;> decide
end Cm
namespace Cn
open PySem PySem.Spec PyProof.Rows L2 Fi Gr No Lf Cm
/-! ## Just one assignment, and all rows of bits -/
def fits (as : List Int) (n : Nat) (gs : List (Int × Int)) : Prop := ∀ cl ∈ clauses n gs, satB as cl = true
theorem foldl_pre : ∀ (gs : List (Int × Int)) (f : List Int), (gs.foldl No.step f).take f.length = f
  | [], f => List.take_length
  | p :: r, f => by
    show (r.foldl No.step (No.step f p)).take f.length = f
    have e := foldl_pre r (No.step f p)
    have hl : f.length ≤ (No.step f p).length := by
      unfold No.step
      rw [List.length_append]
      exact Nat.le_add_right _ _
    have e2 : ((r.foldl No.step (No.step f p)).take (No.step f p).length).take f.length = (No.step f p).take f.length := by rw [e]
    rw [List.take_take, Nat.min_eq_left hl] at e2
    rw [e2]
    unfold No.step
    exact List.take_left
theorem getD_take {f : List Int} {j k : Nat} (h : j < k) : (f.take k).getD j 0 = f.getD j 0 := by
  rw [List.getD_eq_getElem?_getD, List.getD_eq_getElem?_getD, List.getElem?_take_of_lt h]
theorem lit_take {f : List Int} {a : Int} {k : Nat} (h0 : 0 ≤ a) (h : (a / 2).toNat < k) : lit (f.take k) a = lit f a := by
  unfold lit
  rw [getD_take h]
theorem take_snoc {as : List Int} {n : Nat} (h : n < as.length) : as.take (n + 1) = as.take n ++ [as.getD n 0] := by
  rw [List.take_succ, List.getD_eq_getElem?_getD, List.getElem?_eq_getElem h]
  rfl
theorem fits_iff : ∀ (gs : List (Int × Int)) (n : Nat) (as : List Int), B01 as → as.length = n + gs.length → okG (2 * (n : Int) + 1) gs = true → (fits as n gs ↔ 0 :: as = gs.foldl No.step (0 :: as.take n))
  | [], n, as, _, hl, _ => by
    have e : as.take n = as := List.take_of_length_le (by simp at hl; omega)
    refine ⟨fun _ => ?_, fun _ cl m => by cases m⟩
    show 0 :: as = 0 :: as.take n
    rw [e]
  | p :: r, n, as, hb, hl, hok => by
    have hl' : as.length = n + 1 + r.length := by
      rw [hl, List.length_cons]
      omega
    have hn : n < as.length := by omega
    obtain ⟨⟨a0, a1⟩, b0, b1⟩ := okG_at (i := 0) (p := p) hok rfl
    have hok2 : okG (2 * ((n + 1 : Nat) : Int) + 1) r = true := by
      unfold okG at hok
      rw [Bool.and_eq_true] at hok
      rw [show 2 * ((n + 1 : Nat) : Int) + 1 = 2 * (n : Int) + 1 + 2 by omega]
      exact hok.2
    have ih := fits_iff r (n + 1) as hb hl' hok2
    have gate := gate_iff (as := as) (g := 2 * ((n : Int) + 1)) (p := p) hb a0 b0 (by omega) (by omega)
    have split : fits as n (p :: r) ↔ litv as (2 * ((n : Int) + 1)) = litv as p.1 * litv as p.2 ∧ fits as (n + 1) r := by
      rw [← gate]
      have ec : clauses n (p :: r) = (three (2 * ((n : Int) + 1)) p).filterMap clM ++ clauses (n + 1) r := rfl
      unfold fits
      rw [ec]
      constructor
      · exact fun h => ⟨fun cl m => h cl (List.mem_append_left _ m), fun cl m => h cl (List.mem_append_right _ m)⟩
      · rintro ⟨h1, h2⟩ cl m
        rcases List.mem_append.mp m with m | m
        · exact h1 cl m
        · exact h2 cl m
    have lg : litv as (2 * ((n : Int) + 1)) = as.getD n 0 := by
      unfold litv lit
      have e1 : (2 * ((n : Int) + 1) / 2).toNat = n + 1 := by omega
      have e2 : 2 * ((n : Int) + 1) % 2 = 0 := by omega
      rw [e1, e2, getD_tail as (by omega : 0 < n + 1)]
      show ab (as.getD n 0 - 0) = _
      rcases getD_01 hb n with q | q <;> rw [q] <;> rfl
    have st : No.step (0 :: as.take n) p = 0 :: as.take n ++ [litv as p.1 * litv as p.2] := by
      unfold No.step
      have e : (0 :: as.take n) = (0 :: as).take (n + 1) := rfl
      rw [e, lit_take a0 (by omega), lit_take b0 (by omega)]
      rfl
    have goal : (p :: r).foldl No.step (0 :: as.take n) = r.foldl No.step (0 :: as.take n ++ [litv as p.1 * litv as p.2]) := by
      show r.foldl No.step (No.step (0 :: as.take n) p) = _
      rw [st]
    have tk := take_snoc hn
    rw [split, goal, lg, ih, tk]
    constructor
    · rintro ⟨e1, e2⟩
      rw [e1] at e2
      exact e2
    · intro e2
      have pre := foldl_pre r (0 :: as.take n ++ [litv as p.1 * litv as p.2])
      rw [← e2] at pre
      have ln : (0 :: as.take n ++ [litv as p.1 * litv as p.2]).length = n + 2 := by
        rw [List.length_append, List.length_cons, List.length_take, Nat.min_eq_left (Nat.le_of_lt hn)]
        rfl
      rw [ln] at pre
      have pre2 : (0 :: as).take (n + 2) = 0 :: as.take n ++ [as.getD n 0] := by
        show 0 :: as.take (n + 1) = _
        rw [tk]
        rfl
      rw [pre2] at pre
      have e1 : as.getD n 0 = litv as p.1 * litv as p.2 := by
        have z := List.append_inj_right' pre rfl
        exact List.head_eq_of_cons_eq z
      refine ⟨e1, ?_⟩
      rw [e1]
      exact e2
/-- the one assignment that has these bits -/
def whole (bs : List Int) (gs : List (Int × Int)) : List Int := (vals bs gs).drop 1
theorem vals_head (bs : List Int) (gs : List (Int × Int)) : vals bs gs = 0 :: whole bs gs := by
  have e := foldl_pre gs (0 :: bs)
  unfold whole
  cases h : vals bs gs with
  | nil =>
    have z := vals_len bs gs
    rw [h] at z
    have z2 : 0 = bs.length + 1 + gs.length := z
    omega
  | cons x r =>
    unfold vals at h
    rw [h] at e
    have : x = 0 := List.head_eq_of_cons_eq e
    rw [this]
    rfl
theorem whole_len (bs : List Int) (gs : List (Int × Int)) : (whole bs gs).length = bs.length + gs.length := by
  unfold whole
  rw [List.length_drop, vals_len]
  omega
theorem whole_01 {bs : List Int} (gs : List (Int × Int)) (h : B01 bs) : B01 (whole bs gs) := fun z hz => vals_01 gs h z (List.mem_of_mem_drop hz)
theorem whole_take (bs : List Int) (gs : List (Int × Int)) : (whole bs gs).take bs.length = bs := by
  have e := foldl_pre gs (0 :: bs)
  have v := vals_head bs gs
  unfold vals at v
  rw [v] at e
  exact List.tail_eq_of_cons_eq e
theorem fits_whole {as bs : List Int} {gs : List (Int × Int)} (hb : B01 as) (hl : as.length = bs.length + gs.length) (hok : okG (2 * (bs.length : Int) + 1) gs = true) : (fits as bs.length gs ∧ as.take bs.length = bs) ↔ as = whole bs gs := by
  rw [fits_iff gs bs.length as hb hl hok]
  constructor
  · rintro ⟨e1, e2⟩
    rw [e2] at e1
    have v := vals_head bs gs
    unfold vals at v
    rw [v] at e1
    exact List.tail_eq_of_cons_eq e1
  · intro e
    have t : as.take bs.length = bs := by
      rw [e]
      exact whole_take bs gs
    refine ⟨?_, t⟩
    rw [t]
    have v := vals_head bs gs
    unfold vals at v
    rw [v, e]
/-! ### all rows of so many bits -/
theorem longer_in : ∀ {rs : List (List Int)} {t : List Int}, t ∈ longer rs ↔ ∃ r ∈ rs, t = r ++ [0] ∨ t = r ++ [1]
  | [], t => ⟨fun h => absurd h List.not_mem_nil, fun ⟨_, h, _⟩ => absurd h List.not_mem_nil⟩
  | r :: rs, t => by
    rw [longer_cons, List.mem_cons, List.mem_cons, longer_in]
    constructor
    · rintro (h | h | ⟨s, m, h⟩)
      · exact ⟨r, List.mem_cons_self, .inl h⟩
      · exact ⟨r, List.mem_cons_self, .inr h⟩
      · exact ⟨s, List.mem_cons_of_mem _ m, h⟩
    · rintro ⟨s, m, h⟩
      rcases List.mem_cons.mp m with rfl | m
      · rcases h with h | h
        · exact .inl h
        · exact .inr (.inl h)
      · exact .inr (.inr ⟨s, m, h⟩)
theorem longer_nd : ∀ {rs : List (List Int)}, rs.Nodup → (longer rs).Nodup
  | [], _ => List.nodup_nil
  | r :: rs, h => by
    rw [List.nodup_cons] at h
    rw [longer_cons, List.nodup_cons, List.nodup_cons, List.mem_cons, longer_in, longer_in]
    have no : ∀ z : Int, ¬ ∃ s ∈ rs, r ++ [z] = s ++ [0] ∨ r ++ [z] = s ++ [1] := fun z ⟨s, m, e⟩ => by
      have : r = s := by
        rcases e with e | e <;> exact List.append_inj_left' e rfl
      rw [this] at h
      exact h.1 m
    refine ⟨fun e => ?_, no 1, longer_nd h.2⟩
    rcases e with e | e
    · have z := List.append_inj_right' e rfl
      cases z
    · exact no 0 e
theorem rowsM_nd : ∀ n : Nat, (rowsM n).Nodup
  | 0 => by
    show [([] : List Int)].Nodup
    rw [List.nodup_cons]
    exact ⟨List.not_mem_nil, List.nodup_nil⟩
  | n + 1 => longer_nd (rowsM_nd n)
theorem rowsM_all : ∀ (n : Nat) (r : List Int), r.length = n → B01 r → r ∈ rowsM n
  | 0, r, h, _ => by
    rw [List.length_eq_zero_iff.mp h]
    exact List.mem_cons_self
  | n + 1, r, h, hb => by
    show r ∈ longer (rowsM n)
    have hne : r ≠ [] := fun e => by
      rw [e] at h
      cases h
    have e := List.dropLast_concat_getLast hne
    have hd : B01 r.dropLast := fun z hz => hb z (List.dropLast_subset r hz)
    have hl := hb _ (List.getLast_mem hne)
    have hm := rowsM_all n r.dropLast (by rw [List.length_dropLast, h]; rfl) hd
    rw [longer_in]
    refine ⟨r.dropLast, hm, ?_⟩
    rcases hl with q | q
    · rw [q] at e
      exact .inl e.symm
    · rw [q] at e
      exact .inr e.symm
theorem filter_one {p : List Int → Bool} {w : List Int} : ∀ {l : List (List Int)}, l.Nodup → w ∈ l → (∀ r ∈ l, p r = true ↔ r = w) → l.filter p = [w]
  | [], _, h, _ => by cases h
  | r :: l, nd, h, hp => by
    rw [List.nodup_cons] at nd
    by_cases e : r = w
    · rw [List.filter_cons_of_pos ((hp r List.mem_cons_self).mpr e), e]
      have none : l.filter p = [] := by
        rw [List.filter_eq_nil_iff]
        intro s m q
        have := (hp s (List.mem_cons_of_mem _ m)).mp q
        rw [this, ← e] at m
        exact nd.1 m
      rw [none]
    · have hr : ¬ p r = true := fun q => e ((hp r List.mem_cons_self).mp q)
      rw [List.filter_cons_of_neg hr]
      rcases List.mem_cons.mp h with q | q
      · exact absurd q.symm e
      · exact filter_one nd.2 q fun s m => hp s (List.mem_cons_of_mem _ m)
end Cn
namespace Cp
open PySem PySem.Spec PyProof.Rows L2 Pen Dat Ki Fi Gr No Cm
/-! ## Clauses, by the program -/
structure Tx (mg : Str → Option Value) : Prop where
  abs : mg "abs" = none
  tuple : mg "tuple" = none
  list : mg "list" = none
  sorted : mg "sorted" = none
def spSat (K : PySem.W.Frag) : Sp := fun vs H Q _ => ∃ (v : V) (c : Addr) (as cl : List Int), vs = [v, .ref c] ∧ SeqI K H v as ∧ SqT K H c (cl.map V.int) ∧ (∀ z ∈ cl, z ≠ 0 ∧ z.natAbs ≤ as.length) ∧ Q (.bl (satB as cl)) H
def spCl (K : PySem.W.Frag) : Sp := fun vs H Q _ => ∃ (v : V) (ls : List Int), vs = [v] ∧ SeqI K H v ls ∧ (∀ l ∈ ls, 0 ≤ l) ∧ ls.length ≤ 500 ∧ (bad ls = true → ∀ H', Same H H' → Q .non H') ∧
  (bad ls = false → ∀ (H' : Hp) (t : Addr) (cl : List Int), Same H H' → IsCl ls cl → H' t = some (.tup (cl.map V.int)) → Q (.ref t) H')
theorem xor_one {l : Int} (h : 0 ≤ l) : Builtin.bitXor l 1 = fl l := by
  obtain ⟨n, rfl⟩ := Int.eq_ofNat_of_zero_le h
  rw [Bits.bitXor_pp h (by decide)]
  have z := Bits.nat_xor_add_and n 1
  rw [Nat.and_one_is_mod] at z
  unfold fl
  have e : ((n : Int)).toNat = n := Int.toNat_natCast n
  have e1 : (1 : Int).toNat = 1 := rfl
  rw [e, e1]
  omega
theorem sat_more {as cl : List Int} {i : Nat} {z : Int} (h : cl[i]? = some z) (e : as.getD (z.natAbs - 1) 0 = if z > 0 then 1 else 0) : satB as cl = true := List.any_eq_true.mpr ⟨z, List.mem_of_getElem? h, decide_eq_true e⟩
theorem bad_snoc {ls : List Int} {l : Int} (h0 : ∀ a ∈ ls, 0 ≤ a) (l0 : 0 ≤ l) (nb : bad ls = false) (n1 : l ≠ 1) (n2 : ¬ fl l ∈ ls) : bad (ls ++ [l]) = false := by
  obtain ⟨b1, b2⟩ := not_bad nb
  cases e : bad (ls ++ [l]) with
  | false => rfl
  | true =>
    exfalso
    rcases is_bad e with m | ⟨a, m, m2⟩
    · rcases List.mem_append.mp m with m | m
      · exact b1 m
      · exact n1 (List.mem_singleton.mp m).symm
    · rcases List.mem_append.mp m with m | m
      · rcases List.mem_append.mp m2 with m2 | m2
        · exact b2 a m m2
        · have z := List.mem_singleton.mp m2
          have a0 := h0 a m
          have : fl l = a := by
            rw [← z]
            unfold fl
            omega
          exact n2 (this ▸ m)
      · have z := List.mem_singleton.mp m
        subst z
        rcases List.mem_append.mp m2 with m2 | m2
        · exact n2 m2
        · have z := List.mem_singleton.mp m2
          unfold fl at z
          omega
/-- an int as a test -/
theorem pt_int {X : Cx} {e : Expr} {ta : TE} (ha : PE X e ta) (he : ∀ whole, isTrue e X.env whole = (do let v ← whole; standAt e.pos; holding [v] (truthy v))) : PT X e (fun σ H Q => ta σ H fun x H' => ∃ i : Int, x = .int i ∧ Q (i != 0) H') := by
  refine ⟨fun pins s σ H Q I h => isTrue_plain (thn (ha.run pins s σ H _ I h) fun v s1 z => ?_) (he _)⟩
  obtain ⟨x, H1, I1, r1, i, rfl, q⟩ := z
  exact tru_ok pins s1 σ H1 (.int i) v Q I1 r1 ⟨_, rfl, q⟩
theorem keys_put_old {kvs : List (Key × V)} {k : Key} {v : V} (h : k ∈ kvs.map (·.1)) : (putK kvs k v).map (·.1) = kvs.map (·.1) := by
  have e : (valV kvs k).isSome = true := by
    cases z : valV kvs k with
    | some u => rfl
    | none => exact absurd h (valV_not z)
  rw [← valV_any] at e
  unfold putK
  rw [if_pos e, List.map_map]
  refine List.map_congr_left fun p _ => ?_
  show (if p.1 = k then (p.1, v) else p).1 = p.1
  split <;> rfl
section
variable {P : Program} {w : World} {K : PySem.W.Frag} {mg : Str → Option Value} {base : Heap} {f C : Addr} {fd : FuncData}
abbrev clN : List Str := ["literals", "standing", "literal"]
theorem scCl : FnScope clN ["literals"] (defScope sCl) := ⟨rfl, rfl, rfl, by decide +kernel, rfl, by decide +kernel, by decide +kernel⟩
theorem ok_cl (F : FnP K "clause_of" sCl f fd) (T : Tx mg) : FnOk P w K mg base CX0 1 f fd ["literals"] (spCl K) := by
  refine F.ok scCl (fun vs H Q E h => ?_) (fun cdv A outer s H vs Q E hr h => ?_)
  · obtain ⟨v, ls, rfl, _⟩ := h
    rfl
  · obtain ⟨v, ls, rfl, hv, h0, hz, q1, q2⟩ := h
    have hu := hu_of hr
    obtain ⟨r, rfl, hr1 | hr1⟩ := hv
    · refine ⟨_, PSs.nox (pss_cons (ps_set (i := 1) scCl.nd rfl (Or.inl rfl) pe_dnewK)
        (pss_cons (ps_for PassesOwn.never rfl (pi_list (pv 0)) (pg_name (i := 2) scCl.nd rfl (Or.inl rfl))
          (pss_cons (ps_if (PW.pt (pw_or (pt_cmpR op_eq (pv 2) pe_int (nomark _)) (pw_or1 (pt_cmp (pc_din hu (pe_op op_xor (pv 2) pe_int) (pv 1)))))) (pss_one (ps_ret pe_non)) pss_nil)
          (pss_one (ps_if (pt_cmpR op_ne (pv 2) pe_int (nomark _)) (pss_one (ps_dput hu (pv 1) (pv 2) pe_bl rfl)) pss_nil))))
        (pss_one (ps_ret (pe_callTy call_tuple_of (by rfl) T.tuple (by decide +kernel) (pa_cons
          (pe_lc (own := [("literal", 2)]) (g := gName 2) (tt := tYes) rfl scCl.nd (pi_list (pe_callB cr_sortedI (by rfl) T.sorted (by decide +kernel) (pa_cons (pe_callTy (call_list_dK rfl) (by rfl) T.list (by decide +kernel) (pa_cons (pv 1) pa_nil)) pa_nil)))
            (blkOk_by (N := clN) (sc := defScope sCl) (by decide +kernel)) (fun _ _ _ _ _ => pg_name (i := 2) scCl.nd rfl (Or.inl rfl)) (fun _ _ _ _ _ => pts_nil)
            (fun _ _ _ _ _ => pe_ifExp (pt_int (pe_op op_and (pv 2) pe_int) (by intro _; rfl)) (pe_un un_neg (pe_op op_shr (pv 2) pe_int)) (pe_op op_shr (pv 2) pe_int))) pa_nil)))))), ?_⟩
      intro D nD
      have sD := same_new (u := .dK []) nD
      refine ⟨_, rfl, r, rfl, ⟨_, sD.seq hr1⟩, for_list (K := K) (a := r) (xs := ls.map V.int) (fun i σ H2 => ∃ (x : Option V) (kvs : List (Key × V)) (ks : List Int), σ = [some (.ref r), some (.ref D), x] ∧ Same H H2 ∧ H2 D = some (.dK kvs) ∧
          kvs.map (·.1) = ks.map Sum.inl ∧ ks.Nodup ∧ ks.length ≤ i ∧ (∀ l, l ∈ ks ↔ l ∈ ls.take i ∧ l ≠ 0) ∧ bad (ls.take i) = false)
        ⟨none, [], [], rfl, sD, upd_same, rfl, List.nodup_nil, Nat.le_refl _, fun l => by simp, rfl⟩ (fun i σ H2 _ ⟨_, _, _, _, s2, _⟩ => s2.seq hr1) ?_ ?_⟩
      · rintro i y σ H2 hi ⟨x, kvs, ks, rfl, s2, h2, ek, nd, kl, mem, nb⟩
        have hil : i < ls.length := by
          have z := (List.getElem?_eq_some_iff.mp hi).1
          rwa [List.length_map] at z
        obtain ⟨l, rfl, hl⟩ : ∃ l, y = V.int l ∧ ls[i]? = some l := by
          rw [List.getElem?_map] at hi
          cases e : ls[i]? with
          | none =>
            rw [e] at hi
            cases hi
          | some u =>
            rw [e] at hi
            exact ⟨u, (Option.some.inj hi).symm, rfl⟩
        have ml := List.mem_of_getElem? hl
        have l0 := h0 l ml
        have sub : ∀ a, a ∈ ls.take i → a ∈ ls := fun a m => List.mem_of_mem_take m
        refine ⟨_, rfl, rfl, _, rfl, ite2 (fun c1 => ?_) (fun c1 => ?_)⟩
        · have e1 : l = 1 := V.int.inj (of_decide_eq_true c1)
          exact q1 (bad_of (.inl (e1 ▸ ml))) _ s2
        · have ne1 : l ≠ 1 := fun e => c1 (decide_eq_true (congrArg V.int e))
          refine ⟨_, rfl, _, _, rfl, rfl, _, rfl, D, _, rfl, DGet.k (k := Sum.inl _) h2, _, rfl, ?_⟩
          rw [xor_one l0]
          have inK : ∀ a : Int, (Sum.inl a : Key) ∈ kvs.map (·.1) ↔ a ∈ ks := fun a => by
            rw [ek, List.mem_map]
            exact ⟨fun ⟨b, m, e⟩ => Sum.inl.inj e ▸ m, fun m => ⟨a, m, rfl⟩⟩
          cases e : valV kvs (Sum.inl (fl l) : Key) with
          | some u =>
            refine iteT ?_
            have m2 := (mem _).mp ((inK _).mp (valV_in e))
            exact q1 (bad_of (.inr ⟨l, ml, sub _ m2.1⟩)) _ s2
          | none =>
            refine iteF ?_
            have no : ¬ fl l ∈ ks := fun m => valV_not e ((inK _).mpr m)
            have nb2 : bad (ls.take (i + 1)) = false := by
              rw [take_more hl]
              exact bad_snoc (fun a m => h0 a (sub a m)) l0 nb ne1 fun m => no ((mem _).mpr ⟨m, fun z => ne1 (by unfold fl at z; omega)⟩)
            refine ⟨_, rfl, rfl, _, rfl, ite2 (fun c2 => ?_) (fun c2 => ?_)⟩
            · have ne0 : l ≠ 0 := fun e => by
                rw [e] at c2
                cases c2
              refine ⟨_, rfl, _, rfl, D, _, rfl, DPut.k (k := Sum.inl l) h2 ?_, ?_⟩
              · have z : kvs.length = ks.length := by
                  have z := congrArg List.length ek
                  rwa [List.length_map, List.length_map] at z
                rw [z]
                exact Nat.lt_of_le_of_lt (Nat.le_trans kl (Nat.le_trans (Nat.le_of_lt hil) hz)) (by decide)
              · by_cases hk : l ∈ ks
                · have hkk := (inK l).mpr hk
                  refine ⟨_, putK kvs (Sum.inl l) (.bl true), ks, rfl, fun b o z => by rw [upd_ne (ne_of_none z nD)]; exact s2 _ _ z, upd_same, ?_, nd, Nat.le_succ_of_le kl, fun a => ?_, nb2⟩
                  · rw [keys_put_old hkk, ek]
                  · rw [take_more hl, List.mem_append, List.mem_singleton, mem]
                    exact ⟨fun ⟨a1, a2⟩ => ⟨.inl a1, a2⟩, fun ⟨a1, a2⟩ => ⟨a1.elim id fun z => z ▸ ((mem l).mp hk).1, a2⟩⟩
                · have hkk : valV kvs (Sum.inl l : Key) = none := by
                    cases ev : valV kvs (Sum.inl l : Key) with
                    | none => rfl
                    | some u => exact absurd ((inK l).mp (valV_in ev)) hk
                  refine ⟨_, putK kvs (Sum.inl l) (.bl true), ks ++ [l], rfl, fun b o z => by rw [upd_ne (ne_of_none z nD)]; exact s2 _ _ z, upd_same, ?_, ?_, ?_, fun a => ?_, nb2⟩
                  · rw [putK_new _ hkk, List.map_append, ek, List.map_append]
                    rfl
                  · rw [List.nodup_append]
                    exact ⟨nd, (by rw [List.nodup_cons]; exact ⟨List.not_mem_nil, List.nodup_nil⟩), fun a ma b mb e => hk (by rw [List.mem_singleton.mp mb] at e; exact e ▸ ma)⟩
                  · rw [List.length_append]
                    exact Nat.succ_le_succ kl
                  · rw [take_more hl, List.mem_append, List.mem_append, List.mem_singleton, mem]
                    exact ⟨fun z => z.elim (fun ⟨a1, a2⟩ => ⟨.inl a1, a2⟩) fun z => ⟨.inr z, z ▸ ne0⟩, fun ⟨a1, a2⟩ => a1.elim (fun z => .inl ⟨z, a2⟩) .inr⟩
            · have e0 : l = 0 := by
                rcases Decidable.em (l = 0) with z | z
                · exact z
                · exact absurd (by rw [decide_eq_false (fun y => z (V.int.inj y))]; rfl) c2
              refine ⟨_, kvs, ks, rfl, s2, h2, ek, nd, Nat.le_succ_of_le kl, fun a => ?_, nb2⟩
              rw [take_more hl, List.mem_append, List.mem_singleton, mem]
              exact ⟨fun ⟨a1, a2⟩ => ⟨.inl a1, a2⟩, fun ⟨a1, a2⟩ => ⟨a1.elim id fun z => absurd (z.trans e0) a2, a2⟩⟩
      · rintro σ H2 ⟨x, kvs, ks, rfl, s2, h2, ek, nd, kl, mem, nb⟩
        rw [List.length_map, List.take_length] at mem nb
        refine ⟨_, rfl, D, _, rfl, h2, fun l1 n1 => ?_⟩
        have s3 := same_new (u := .lst (kvs.map fun kv => kV kv.1)) n1
        have keys : (kvs.map fun kv => kV kv.1) = ks.map V.int := by
          have z := congrArg (List.map kV) ek
          rw [List.map_map, List.map_map] at z
          exact z
        refine ⟨l1, ks, rfl, SqL.of (by rw [upd_same, keys]), fun ns l2 perm sorted n2 => ?_⟩
        have s4 := same_new (u := .lst (ns.map V.int)) n2
        have nds : ns.Nodup := perm.nodup_iff.mpr nd
        have asc : ns.Pairwise (· < ·) := (sorted.and nds).imp fun ⟨a, b⟩ => by omega
        have hm : ∀ l, l ∈ ns ↔ l ∈ ls ∧ 1 < l := fun l => by
          rw [perm.mem_iff, mem]
          have b1 := (not_bad nb).1
          exact ⟨fun ⟨m, z⟩ => ⟨m, by have := h0 l m; rcases Int.lt_trichotomy l 1 with t | t | t; omega; exact absurd (t ▸ m) b1; exact t⟩, fun ⟨m, z⟩ => ⟨m, by omega⟩⟩
        have isC := isCl_map h0 nb asc hm
        have nl : ns.length ≤ 1000 := by
          rw [perm.length_eq]
          rw [List.length_map] at kl
          omega
        refine ⟨l2, rfl, ⟨_, SqL.of upd_same⟩, fun E2 nE => ?_⟩
        refine lc_list (K := K) (a := l2) (xs := ns.map V.int) (fun i H5 => Same (upd (upd H2 l1 (.lst (kvs.map fun kv => kV kv.1))) l2 (.lst (ns.map V.int))) H5 ∧ H5 E2 = some (.lst (((ns.take i).map sgn).map V.int))) ⟨same_new nE, by rw [upd_same]; rfl⟩
          (fun i H5 _ ⟨s5, _⟩ => SqL.of (s5 _ _ upd_same)) ?_ ?_
        · rintro i y H5 hi ⟨s5, h5⟩
          obtain ⟨l, rfl, hl⟩ : ∃ l, y = V.int l ∧ ns[i]? = some l := by
            rw [List.getElem?_map] at hi
            cases e : ns[i]? with
            | none =>
              rw [e] at hi
              cases hi
            | some u =>
              rw [e] at hi
              exact ⟨u, (Option.some.inj hi).symm, rfl⟩
          have fin : ∃ acc, H5 E2 = some (.lst acc) ∧ acc.length < sizeLine ∧ Same (upd (upd H2 l1 (.lst (kvs.map fun kv => kV kv.1))) l2 (.lst (ns.map V.int))) (upd H5 E2 (.lst (acc ++ [.int (sgn l)]))) ∧
              (upd H5 E2 (.lst (acc ++ [.int (sgn l)]))) E2 = some (.lst (((ns.take (i + 1)).map sgn).map V.int)) := by
            refine ⟨_, h5, ?_, fun b o z => ?_, ?_⟩
            · rw [List.length_map, List.length_map, List.length_take]
              exact Nat.lt_of_le_of_lt (Nat.min_le_right _ _) (Nat.lt_of_le_of_lt nl (by decide))
            · rw [upd_ne (ne_of_none z nE)]
              exact s5 _ _ z
            · rw [upd_same, take_more hl, List.map_append, List.map_append]
              rfl
          refine ⟨rfl, yes_of ?_⟩
          refine ⟨_, rfl, _, _, rfl, rfl, _, rfl, ?_⟩
          rw [bitAnd_m1]
          by_cases e : l % 2 = 1
          · have es : sgn l = -(l / 2) := by
              unfold sgn
              rw [if_pos e]
            rw [es] at fin
            rw [e]
            refine iteT ?_
            exact ⟨_, rfl, _, _, rfl, rfl, (by show (0 : Int) ≤ 1; decide), _, rfl, fin⟩
          · have es : sgn l = l / 2 := by
              unfold sgn
              rw [if_neg e]
            have e0 : l % 2 = 0 := by omega
            rw [es] at fin
            rw [e0]
            refine iteF ?_
            exact ⟨_, rfl, _, _, rfl, rfl, (by show (0 : Int) ≤ 1; decide), fin⟩
        · rintro H5 ⟨s5, h5⟩
          rw [List.length_map, List.take_length] at h5
          refine ⟨E2, _, rfl, .inl ⟨SqL.of h5, fun t nt => ?_⟩⟩
          exact q2 nb _ t _ (s2.trans (s3.trans (s4.trans (s5.trans (same_new nt))))) isC upd_same
    · refine ⟨_, PSs.nox (pss_cons (ps_set (i := 1) scCl.nd rfl (Or.inl rfl) pe_dnewK)
        (pss_cons (ps_for PassesOwn.never rfl (pi_tup (pv 0)) (pg_name (i := 2) scCl.nd rfl (Or.inl rfl))
          (pss_cons (ps_if (PW.pt (pw_or (pt_cmpR op_eq (pv 2) pe_int (nomark _)) (pw_or1 (pt_cmp (pc_din hu (pe_op op_xor (pv 2) pe_int) (pv 1)))))) (pss_one (ps_ret pe_non)) pss_nil)
          (pss_one (ps_if (pt_cmpR op_ne (pv 2) pe_int (nomark _)) (pss_one (ps_dput hu (pv 1) (pv 2) pe_bl rfl)) pss_nil))))
        (pss_one (ps_ret (pe_callTy call_tuple_of (by rfl) T.tuple (by decide +kernel) (pa_cons
          (pe_lc (own := [("literal", 2)]) (g := gName 2) (tt := tYes) rfl scCl.nd (pi_list (pe_callB cr_sortedI (by rfl) T.sorted (by decide +kernel) (pa_cons (pe_callTy (call_list_dK rfl) (by rfl) T.list (by decide +kernel) (pa_cons (pv 1) pa_nil)) pa_nil)))
            (blkOk_by (N := clN) (sc := defScope sCl) (by decide +kernel)) (fun _ _ _ _ _ => pg_name (i := 2) scCl.nd rfl (Or.inl rfl)) (fun _ _ _ _ _ => pts_nil)
            (fun _ _ _ _ _ => pe_ifExp (pt_int (pe_op op_and (pv 2) pe_int) (by intro _; rfl)) (pe_un un_neg (pe_op op_shr (pv 2) pe_int)) (pe_op op_shr (pv 2) pe_int))) pa_nil)))))), ?_⟩
      intro D nD
      have sD := same_new (u := .dK []) nD
      refine ⟨_, rfl, r, rfl, ⟨_, seqT_same sD hr1⟩, for_tup (K := K) (a := r) (xs := ls.map V.int) (fun i σ H2 => ∃ (x : Option V) (kvs : List (Key × V)) (ks : List Int), σ = [some (.ref r), some (.ref D), x] ∧ Same H H2 ∧ H2 D = some (.dK kvs) ∧
          kvs.map (·.1) = ks.map Sum.inl ∧ ks.Nodup ∧ ks.length ≤ i ∧ (∀ l, l ∈ ks ↔ l ∈ ls.take i ∧ l ≠ 0) ∧ bad (ls.take i) = false)
        ⟨none, [], [], rfl, sD, upd_same, rfl, List.nodup_nil, Nat.le_refl _, fun l => by simp, rfl⟩ (fun i σ H2 _ ⟨_, _, _, _, s2, _⟩ => seqT_same s2 hr1) ?_ ?_⟩
      · rintro i y σ H2 hi ⟨x, kvs, ks, rfl, s2, h2, ek, nd, kl, mem, nb⟩
        have hil : i < ls.length := by
          have z := (List.getElem?_eq_some_iff.mp hi).1
          rwa [List.length_map] at z
        obtain ⟨l, rfl, hl⟩ : ∃ l, y = V.int l ∧ ls[i]? = some l := by
          rw [List.getElem?_map] at hi
          cases e : ls[i]? with
          | none =>
            rw [e] at hi
            cases hi
          | some u =>
            rw [e] at hi
            exact ⟨u, (Option.some.inj hi).symm, rfl⟩
        have ml := List.mem_of_getElem? hl
        have l0 := h0 l ml
        have sub : ∀ a, a ∈ ls.take i → a ∈ ls := fun a m => List.mem_of_mem_take m
        refine ⟨_, rfl, rfl, _, rfl, ite2 (fun c1 => ?_) (fun c1 => ?_)⟩
        · have e1 : l = 1 := V.int.inj (of_decide_eq_true c1)
          exact q1 (bad_of (.inl (e1 ▸ ml))) _ s2
        · have ne1 : l ≠ 1 := fun e => c1 (decide_eq_true (congrArg V.int e))
          refine ⟨_, rfl, _, _, rfl, rfl, _, rfl, D, _, rfl, DGet.k (k := Sum.inl _) h2, _, rfl, ?_⟩
          rw [xor_one l0]
          have inK : ∀ a : Int, (Sum.inl a : Key) ∈ kvs.map (·.1) ↔ a ∈ ks := fun a => by
            rw [ek, List.mem_map]
            exact ⟨fun ⟨b, m, e⟩ => Sum.inl.inj e ▸ m, fun m => ⟨a, m, rfl⟩⟩
          cases e : valV kvs (Sum.inl (fl l) : Key) with
          | some u =>
            refine iteT ?_
            have m2 := (mem _).mp ((inK _).mp (valV_in e))
            exact q1 (bad_of (.inr ⟨l, ml, sub _ m2.1⟩)) _ s2
          | none =>
            refine iteF ?_
            have no : ¬ fl l ∈ ks := fun m => valV_not e ((inK _).mpr m)
            have nb2 : bad (ls.take (i + 1)) = false := by
              rw [take_more hl]
              exact bad_snoc (fun a m => h0 a (sub a m)) l0 nb ne1 fun m => no ((mem _).mpr ⟨m, fun z => ne1 (by unfold fl at z; omega)⟩)
            refine ⟨_, rfl, rfl, _, rfl, ite2 (fun c2 => ?_) (fun c2 => ?_)⟩
            · have ne0 : l ≠ 0 := fun e => by
                rw [e] at c2
                cases c2
              refine ⟨_, rfl, _, rfl, D, _, rfl, DPut.k (k := Sum.inl l) h2 ?_, ?_⟩
              · have z : kvs.length = ks.length := by
                  have z := congrArg List.length ek
                  rwa [List.length_map, List.length_map] at z
                rw [z]
                exact Nat.lt_of_le_of_lt (Nat.le_trans kl (Nat.le_trans (Nat.le_of_lt hil) hz)) (by decide)
              · by_cases hk : l ∈ ks
                · have hkk := (inK l).mpr hk
                  refine ⟨_, putK kvs (Sum.inl l) (.bl true), ks, rfl, fun b o z => by rw [upd_ne (ne_of_none z nD)]; exact s2 _ _ z, upd_same, ?_, nd, Nat.le_succ_of_le kl, fun a => ?_, nb2⟩
                  · rw [keys_put_old hkk, ek]
                  · rw [take_more hl, List.mem_append, List.mem_singleton, mem]
                    exact ⟨fun ⟨a1, a2⟩ => ⟨.inl a1, a2⟩, fun ⟨a1, a2⟩ => ⟨a1.elim id fun z => z ▸ ((mem l).mp hk).1, a2⟩⟩
                · have hkk : valV kvs (Sum.inl l : Key) = none := by
                    cases ev : valV kvs (Sum.inl l : Key) with
                    | none => rfl
                    | some u => exact absurd ((inK l).mp (valV_in ev)) hk
                  refine ⟨_, putK kvs (Sum.inl l) (.bl true), ks ++ [l], rfl, fun b o z => by rw [upd_ne (ne_of_none z nD)]; exact s2 _ _ z, upd_same, ?_, ?_, ?_, fun a => ?_, nb2⟩
                  · rw [putK_new _ hkk, List.map_append, ek, List.map_append]
                    rfl
                  · rw [List.nodup_append]
                    exact ⟨nd, (by rw [List.nodup_cons]; exact ⟨List.not_mem_nil, List.nodup_nil⟩), fun a ma b mb e => hk (by rw [List.mem_singleton.mp mb] at e; exact e ▸ ma)⟩
                  · rw [List.length_append]
                    exact Nat.succ_le_succ kl
                  · rw [take_more hl, List.mem_append, List.mem_append, List.mem_singleton, mem]
                    exact ⟨fun z => z.elim (fun ⟨a1, a2⟩ => ⟨.inl a1, a2⟩) fun z => ⟨.inr z, z ▸ ne0⟩, fun ⟨a1, a2⟩ => a1.elim (fun z => .inl ⟨z, a2⟩) .inr⟩
            · have e0 : l = 0 := by
                rcases Decidable.em (l = 0) with z | z
                · exact z
                · exact absurd (by rw [decide_eq_false (fun y => z (V.int.inj y))]; rfl) c2
              refine ⟨_, kvs, ks, rfl, s2, h2, ek, nd, Nat.le_succ_of_le kl, fun a => ?_, nb2⟩
              rw [take_more hl, List.mem_append, List.mem_singleton, mem]
              exact ⟨fun ⟨a1, a2⟩ => ⟨.inl a1, a2⟩, fun ⟨a1, a2⟩ => ⟨a1.elim id fun z => absurd (z.trans e0) a2, a2⟩⟩
      · rintro σ H2 ⟨x, kvs, ks, rfl, s2, h2, ek, nd, kl, mem, nb⟩
        rw [List.length_map, List.take_length] at mem nb
        refine ⟨_, rfl, D, _, rfl, h2, fun l1 n1 => ?_⟩
        have s3 := same_new (u := .lst (kvs.map fun kv => kV kv.1)) n1
        have keys : (kvs.map fun kv => kV kv.1) = ks.map V.int := by
          have z := congrArg (List.map kV) ek
          rw [List.map_map, List.map_map] at z
          exact z
        refine ⟨l1, ks, rfl, SqL.of (by rw [upd_same, keys]), fun ns l2 perm sorted n2 => ?_⟩
        have s4 := same_new (u := .lst (ns.map V.int)) n2
        have nds : ns.Nodup := perm.nodup_iff.mpr nd
        have asc : ns.Pairwise (· < ·) := (sorted.and nds).imp fun ⟨a, b⟩ => by omega
        have hm : ∀ l, l ∈ ns ↔ l ∈ ls ∧ 1 < l := fun l => by
          rw [perm.mem_iff, mem]
          have b1 := (not_bad nb).1
          exact ⟨fun ⟨m, z⟩ => ⟨m, by have := h0 l m; rcases Int.lt_trichotomy l 1 with t | t | t; omega; exact absurd (t ▸ m) b1; exact t⟩, fun ⟨m, z⟩ => ⟨m, by omega⟩⟩
        have isC := isCl_map h0 nb asc hm
        have nl : ns.length ≤ 1000 := by
          rw [perm.length_eq]
          rw [List.length_map] at kl
          omega
        refine ⟨l2, rfl, ⟨_, SqL.of upd_same⟩, fun E2 nE => ?_⟩
        refine lc_list (K := K) (a := l2) (xs := ns.map V.int) (fun i H5 => Same (upd (upd H2 l1 (.lst (kvs.map fun kv => kV kv.1))) l2 (.lst (ns.map V.int))) H5 ∧ H5 E2 = some (.lst (((ns.take i).map sgn).map V.int))) ⟨same_new nE, by rw [upd_same]; rfl⟩
          (fun i H5 _ ⟨s5, _⟩ => SqL.of (s5 _ _ upd_same)) ?_ ?_
        · rintro i y H5 hi ⟨s5, h5⟩
          obtain ⟨l, rfl, hl⟩ : ∃ l, y = V.int l ∧ ns[i]? = some l := by
            rw [List.getElem?_map] at hi
            cases e : ns[i]? with
            | none =>
              rw [e] at hi
              cases hi
            | some u =>
              rw [e] at hi
              exact ⟨u, (Option.some.inj hi).symm, rfl⟩
          have fin : ∃ acc, H5 E2 = some (.lst acc) ∧ acc.length < sizeLine ∧ Same (upd (upd H2 l1 (.lst (kvs.map fun kv => kV kv.1))) l2 (.lst (ns.map V.int))) (upd H5 E2 (.lst (acc ++ [.int (sgn l)]))) ∧
              (upd H5 E2 (.lst (acc ++ [.int (sgn l)]))) E2 = some (.lst (((ns.take (i + 1)).map sgn).map V.int)) := by
            refine ⟨_, h5, ?_, fun b o z => ?_, ?_⟩
            · rw [List.length_map, List.length_map, List.length_take]
              exact Nat.lt_of_le_of_lt (Nat.min_le_right _ _) (Nat.lt_of_le_of_lt nl (by decide))
            · rw [upd_ne (ne_of_none z nE)]
              exact s5 _ _ z
            · rw [upd_same, take_more hl, List.map_append, List.map_append]
              rfl
          refine ⟨rfl, yes_of ?_⟩
          refine ⟨_, rfl, _, _, rfl, rfl, _, rfl, ?_⟩
          rw [bitAnd_m1]
          by_cases e : l % 2 = 1
          · have es : sgn l = -(l / 2) := by
              unfold sgn
              rw [if_pos e]
            rw [es] at fin
            rw [e]
            refine iteT ?_
            exact ⟨_, rfl, _, _, rfl, rfl, (by show (0 : Int) ≤ 1; decide), _, rfl, fin⟩
          · have es : sgn l = l / 2 := by
              unfold sgn
              rw [if_neg e]
            have e0 : l % 2 = 0 := by omega
            rw [es] at fin
            rw [e0]
            refine iteF ?_
            exact ⟨_, rfl, _, _, rfl, rfl, (by show (0 : Int) ≤ 1; decide), fin⟩
        · rintro H5 ⟨s5, h5⟩
          rw [List.length_map, List.take_length] at h5
          refine ⟨E2, _, rfl, .inl ⟨SqL.of h5, fun t nt => ?_⟩⟩
          exact q2 nb _ t _ (s2.trans (s3.trans (s4.trans (s5.trans (same_new nt))))) isC upd_same
end
end Cp
namespace Cq
open PySem PySem.Spec PyProof.Rows L2 Pen Dat Ki Fi Gr No Cm Cp
theorem clauses_snoc : ∀ (gs : List (Int × Int)) (n : Nat) (p : Int × Int), clauses n (gs ++ [p]) = clauses n gs ++ (three (2 * (((n + gs.length : Nat) : Int) + 1)) p).filterMap clM
  | [], n, p => by
    show (three (2 * ((n : Int) + 1)) p).filterMap clM ++ [] = _
    rw [List.append_nil]
    rfl
  | q :: r, n, p => by
    show (three (2 * ((n : Int) + 1)) q).filterMap clM ++ clauses (n + 1) (r ++ [p]) = _
    rw [clauses_snoc r (n + 1) p]
    have e : n + 1 + r.length = n + (q :: r).length := by
      rw [List.length_cons]
      omega
    rw [e, ← List.append_assoc]
    rfl
theorem clauses_take {gs : List (Int × Int)} (n : Nat) {i : Nat} {p : Int × Int} (h : gs[i]? = some p) : clauses n (gs.take (i + 1)) = clauses n (gs.take i) ++ (three (2 * (((n + i : Nat) : Int) + 1)) p).filterMap clM := by
  have hi := (List.getElem?_eq_some_iff.mp h).1
  rw [take_more h, clauses_snoc, List.length_take, Nat.min_eq_left (Nat.le_of_lt hi)]
theorem filterMap_take {α β : Type} {f : α → Option β} {xs : List α} {j : Nat} {x : α} (h : xs[j]? = some x) : (xs.take (j + 1)).filterMap f = (xs.take j).filterMap f ++ (f x).toList := by
  rw [take_more h, List.filterMap_append]
  cases e : f x with
  | none => rw [List.filterMap_cons_none e]; rfl
  | some y => rw [List.filterMap_cons_some e]; rfl
theorem three_ok {g : Int} {p : Int × Int} (hg : 0 ≤ g) (h1 : 0 ≤ p.1) (h2 : 0 ≤ p.2) : ∀ ls ∈ three g p, (∀ l ∈ ls, 0 ≤ l) ∧ ls.length ≤ 500 := by
  intro ls m
  unfold three at m
  simp only [List.mem_cons, List.not_mem_nil, or_false] at m
  rcases m with rfl | rfl | rfl
  all_goals
    refine ⟨fun l hl => ?_, by simp⟩
    simp only [List.mem_cons, List.not_mem_nil, or_false] at hl
    first
      | omega
      | (unfold fl at hl; omega)
def spCls (K : PySem.W.Frag) (C : Addr) : Sp := fun vs H Q _ => ∃ (p : Addr) (n : Nat) (gs : List (Int × Int)), vs = [.ref p] ∧ GraphAt K C H p n gs ∧ okG (2 * (n : Int) + 1) gs = true ∧ gs.length ≤ 200 ∧
  ∀ (H' : Hp) (t : Addr) (ws : List V), Same H H' → H' t = some (.tup ws) → All2 (Tu K H') ws (clauses n gs) → Q (.ref t) H'
section
variable {P : Program} {w : World} {K : PySem.W.Frag} {mg : Str → Option Value} {base : Heap} {f C : Addr} {fd : FuncData}
abbrev cqN : List Str := ["graph", "told", "gate", "one", "other", "literals", "clause"]
theorem scCls : FnScope cqN ["graph"] (defScope sCls) := ⟨rfl, rfl, rfl, by decide +kernel, rfl, by decide +kernel, by decide +kernel⟩
theorem three_len (g : Int) (p : Int × Int) (j : Nat) : (((three g p).take j).filterMap clM).length ≤ 3 := by
  refine Nat.le_trans (List.length_filterMap_le _ _) ?_
  rw [List.length_take]
  exact Nat.min_le_right _ _
theorem clauses_len : ∀ (gs : List (Int × Int)) (n : Nat), (clauses n gs).length ≤ 3 * gs.length
  | [], _ => Nat.zero_le _
  | p :: r, n => by
    show ((three (2 * ((n : Int) + 1)) p).filterMap clM ++ clauses (n + 1) r).length ≤ _
    rw [List.length_append, List.length_cons]
    have a := clauses_len r (n + 1)
    have b : ((three (2 * ((n : Int) + 1)) p).filterMap clM).length ≤ 3 := List.length_filterMap_le _ _
    omega
theorem ok_cls {fC : Addr} {fdC : FuncData} (F : FnP K "clauses_of" sCls f fd) (T : Gr.Tx K mg C) (FC : FnP K "clause_of" sCl fC fdC) (gC : mg "clause_of" = some (.ref fC)) (TC : Cp.Tx mg) : FnOk P w K mg base CX0 2 f fd ["graph"] (spCls K C) := by
  have GC : FnOk P w K mg base CX0 1 fC fdC ["literals"] (spCl K) := ok_cl FC TC
  have bC : Binds K fdC ["literals"] [] := FC.bindsN fun _ _ _ _ _ _ us hl => match us, hl with | [_], _ => rfl
  refine F.ok scCls (fun vs H Q E h => ?_) (fun cdv A outer s H vs Q E hr h => ?_)
  · obtain ⟨p, n, gs, rfl, _⟩ := h
    rfl
  · obtain ⟨p, n, gs, rfl, hG, hok, hz, q⟩ := h
    obtain ⟨dx, g, h1, hg2⟩ := hG
    obtain ⟨ps, hg, ha⟩ := id hg2
    refine ⟨_, PSs.nox (pss_cons (ps_set (i := 1) scCls.nd rfl (Or.inl rfl) (pe_lst pa_nil))
      (pss_cons (ps_set (i := 2) scCls.nd rfl (Or.inl rfl) (pe_op op_mul pe_int (pe_op op_add (pe_fld (pv 0) rfl) pe_int)))
      (pss_cons (ps_for PassesOwn.never rfl (pi_tup (pe_fld (pv 0) rfl)) (pg_tup rfl (pgs_cons (pg_name (i := 3) scCls.nd rfl (Or.inl rfl)) (pgs_cons (pg_name (i := 4) scCls.nd rfl (Or.inl rfl)) pgs_nil)))
        (pss_cons (ps_for PassesOwn.never rfl (pi_tup (pe_tup (pa_cons (pe_tup (pa_cons (pv 3) (pa_cons (pe_op op_xor (pv 2) pe_int) pa_nil))) (pa_cons (pe_tup (pa_cons (pv 4) (pa_cons (pe_op op_xor (pv 2) pe_int) pa_nil)))
            (pa_cons (pe_tup (pa_cons (pe_op op_xor (pv 3) pe_int) (pa_cons (pe_op op_xor (pv 4) pe_int) (pa_cons (pv 2) pa_nil)))) pa_nil))))) (pg_name (i := 5) scCls.nd rfl (Or.inl rfl))
          (pss_cons (ps_set (i := 6) scCls.nd rfl (Or.inl rfl) (pe_call GC hr (by rfl) gC FC.kp bC .nil pass0 (pa_cons (pv 5) pa_nil)))
          (pss_one (ps_if (pt_cmpR op_notN (pv 6) pe_non (nomark _)) (pss_one (ps_expr (pe_bm PySem.F.plainAttrs_list PySem.F.slot_list_append PySem.F.type_list_append mt_append (pv 1) (pa_cons (pv 6) pa_nil)))) pss_nil))))
        (pss_one (ps_aug (i := 2) scCls.nd rfl (Or.inl rfl) pe_int ip_add))))
      (pss_one (ps_ret (pe_callTy call_tuple_of (by rfl) T.ki.tuple (by decide +kernel) (pa_cons (pv 1) pa_nil))))))), ?_⟩
    refine ⟨(by show 0 ≤ sizeLine; decide), fun D nD => ?_⟩
    have sD := same_new (u := .lst []) nD
    refine ⟨_, rfl, p, C, dx, _, _, rfl, sD _ _ h1, T.cl, T.nL, flds_L _ _, _, _, rfl, rfl, _, _, rfl, rfl, .inl ⟨by decide, by decide⟩, ?_⟩
    refine ⟨_, rfl, p, C, dx, _, _, rfl, sD _ _ h1, T.cl, T.nG, flds_G _ _, g, rfl, ⟨_, seqT_same sD hg⟩, for_tup (K := K) (a := g) (xs := ps)
      (fun i σ H2 => ∃ y3 y4 y5 y6 : Option V, σ = [some (.ref p), some (.ref D), some (.int (2 * ((n : Int) + 1) + 2 * i)), y3, y4, y5, y6] ∧ Same H H2 ∧ ∃ ws, H2 D = some (.lst ws) ∧ All2 (Tu K H2) ws (clauses n (gs.take i)))
      ⟨none, none, none, none, by show _ = _; rw [show 2 * ((n : Int) + 1) + 2 * ((0 : Nat) : Int) = 2 * ((n : Int) + 1) by omega]; rfl, sD, [], upd_same, .nil⟩ (fun i σ H2 _ ⟨_, _, _, _, _, s2, _⟩ => seqT_same s2 hg) ?_ ?_⟩
    · rintro i y σ H2 hi ⟨y3, y4, y5, y6, rfl, s2, ws, h2, a2⟩
      obtain ⟨z, hz1, hz2⟩ := ha.get hi
      obtain ⟨q0, rfl, hq⟩ := hz2
      have hil : i < gs.length := (List.getElem?_eq_some_iff.mp hz1).1
      obtain ⟨⟨a0, a1⟩, b0, b1⟩ := okG_at hok hz1
      have g0 : 0 ≤ 2 * ((n : Int) + 1) + 2 * (i : Int) := by omega
      have ge : 2 * ((n : Int) + 1) + 2 * (i : Int) = 2 * (((n + i : Nat) : Int) + 1) := by omega
      refine ⟨q0, _, rfl, seqT_same s2 hq, rfl, _, _, rfl, _, _, rfl, rfl, ?_⟩
      refine ⟨_, rfl, _, rfl, _, _, rfl, rfl, (by show 2 ≤ sizeLine; decide), fun t1 n1 => ?_⟩
      refine ⟨_, rfl, _, rfl, _, _, rfl, rfl, (by show 2 ≤ sizeLine; decide), fun t2 n2 => ?_⟩
      refine ⟨_, rfl, _, _, rfl, rfl, _, rfl, _, _, rfl, rfl, _, rfl, (by show 3 ≤ sizeLine; decide), fun t3 n3 => ⟨(by show 3 ≤ sizeLine; decide), fun t4 n4 => ?_⟩⟩
      have w1 := same_new (u := .tup [V.int z.1, V.int (Builtin.bitXor (2 * ((n : Int) + 1) + 2 * (i : Int)) 1)]) n1
      have w2 := same_new (u := .tup [V.int z.2, V.int (Builtin.bitXor (2 * ((n : Int) + 1) + 2 * (i : Int)) 1)]) n2
      have w3 := same_new (u := .tup [V.int (Builtin.bitXor z.1 1), V.int (Builtin.bitXor z.2 1), V.int (2 * ((n : Int) + 1) + 2 * (i : Int))]) n3
      have w4 := same_new (u := .tup [V.ref t1, V.ref t2, V.ref t3]) n4
      have eg : Builtin.bitXor (2 * ((n : Int) + 1) + 2 * (i : Int)) 1 = 2 * (((n + i : Nat) : Int) + 1) + 1 := by
        rw [xor_one g0]
        unfold fl
        omega
      have at4 := upd_same (H := upd (upd (upd H2 t1 (.tup [V.int z.1, V.int (Builtin.bitXor (2 * ((n : Int) + 1) + 2 * (i : Int)) 1)])) t2 (.tup [V.int z.2, V.int (Builtin.bitXor (2 * ((n : Int) + 1) + 2 * (i : Int)) 1)])) t3 (.tup [V.int (Builtin.bitXor z.1 1), V.int (Builtin.bitXor z.2 1), V.int (2 * ((n : Int) + 1) + 2 * (i : Int))])) (a := t4) (o := .tup [V.ref t1, V.ref t2, V.ref t3])
      have rows : All2 (Tu K (upd (upd (upd (upd H2 t1 (.tup [V.int z.1, V.int (Builtin.bitXor (2 * ((n : Int) + 1) + 2 * (i : Int)) 1)])) t2 (.tup [V.int z.2, V.int (Builtin.bitXor (2 * ((n : Int) + 1) + 2 * (i : Int)) 1)])) t3 (.tup [V.int (Builtin.bitXor z.1 1), V.int (Builtin.bitXor z.2 1), V.int (2 * ((n : Int) + 1) + 2 * (i : Int))])) t4 (.tup [V.ref t1, V.ref t2, V.ref t3])))
          [V.ref t1, V.ref t2, V.ref t3] (three (2 * (((n + i : Nat) : Int) + 1)) z) := by
        refine .cons ⟨t1, rfl, ?_⟩ (.cons ⟨t2, rfl, ?_⟩ (.cons ⟨t3, rfl, ?_⟩ .nil))
        · rw [w4 _ _ (w3 _ _ (w2 _ _ upd_same))]
          show some (HO.tup [V.int z.1, V.int (Builtin.bitXor (2 * ((n : Int) + 1) + 2 * (i : Int)) 1)]) = _
          rw [eg]
          rfl
        · rw [w4 _ _ (w3 _ _ upd_same)]
          show some (HO.tup [V.int z.2, V.int (Builtin.bitXor (2 * ((n : Int) + 1) + 2 * (i : Int)) 1)]) = _
          rw [eg]
          rfl
        · rw [w4 _ _ upd_same]
          show some (HO.tup [V.int (Builtin.bitXor z.1 1), V.int (Builtin.bitXor z.2 1), V.int (2 * ((n : Int) + 1) + 2 * (i : Int))]) = _
          rw [xor_one a0, xor_one b0, ge]
          rfl
      have sT := w1.trans (w2.trans (w3.trans w4))
      have hD := sT _ _ h2
      have aD := a2.imp fun _ _ h => Tu.firm (Firm.of sT) h
      have s2T := s2.trans sT
      generalize upd (upd (upd (upd H2 t1 (.tup [V.int z.1, V.int (Builtin.bitXor (2 * ((n : Int) + 1) + 2 * (i : Int)) 1)])) t2 (.tup [V.int z.2, V.int (Builtin.bitXor (2 * ((n : Int) + 1) + 2 * (i : Int)) 1)])) t3 (.tup [V.int (Builtin.bitXor z.1 1), V.int (Builtin.bitXor z.2 1), V.int (2 * ((n : Int) + 1) + 2 * (i : Int))])) t4 (.tup [V.ref t1, V.ref t2, V.ref t3]) = HT at at4 rows hD aD s2T ⊢
      have okrows := three_ok (g := 2 * (((n + i : Nat) : Int) + 1)) (p := z) (by omega) a0 b0
      refine ⟨t4, rfl, ⟨_, SqT.of at4⟩, for_tup (K := K) (a := t4) (xs := [V.ref t1, V.ref t2, V.ref t3])
        (fun j σ H3 => ∃ x5 x6 : Option V, σ = [some (.ref p), some (.ref D), some (.int (2 * ((n : Int) + 1) + 2 * i)), some (.int z.1), some (.int z.2), x5, x6] ∧ Same H H3 ∧ Firm HT H3 ∧ ∃ us, H3 D = some (.lst us) ∧
          All2 (Tu K H3) us (clauses n (gs.take i) ++ ((three (2 * (((n + i : Nat) : Int) + 1)) z).take j).filterMap clM))
        ⟨_, _, rfl, s2T, Firm.refl _, ws, hD, by show All2 _ _ (_ ++ []); rw [List.append_nil]; exact aD⟩ (fun j σ H3 _ ⟨_, _, _, _, f3, _⟩ => firm_seq f3 (SqT.of at4)) ?_ ?_⟩
      · rintro j v σ H3 hj ⟨x5, x6, rfl, s3, f3, us, h3, a3⟩
        obtain ⟨row, hrow, hv⟩ := rows.get hj
        obtain ⟨tq, rfl, htq⟩ := hv
        obtain ⟨r0, r1⟩ := okrows row (List.mem_of_getElem? hrow)
        have ulen : us.length < sizeLine := by
          rw [a3.len, List.length_append]
          have e1 := clauses_len (gs.take i) n
          have e2 := three_len (2 * (((n + i : Nat) : Int) + 1)) z j
          have e3 : (gs.take i).length ≤ 200 := by
            rw [List.length_take]
            exact Nat.le_trans (Nat.min_le_right _ _) hz
          exact Nat.lt_of_lt_of_le (by omega : (clauses n (gs.take i)).length + (((three (2 * (((n + i : Nat) : Int) + 1)) z).take j).filterMap clM).length < 1000) (by decide)
        refine ⟨_, rfl, _, row, rfl, ⟨tq, rfl, .inr (SqT.of (f3 _ _ htq rfl))⟩, r0, r1, fun hb H4 s4 => ?_, fun hb H4 t cl s4 hcl ht => ?_⟩
        · refine ⟨_, rfl, rfl, _, rfl, iteF ?_⟩
          refine ⟨_, _, rfl, s3.trans s4, f3.trans (Firm.of s4), us, s4 _ _ h3, ?_⟩
          have ec : clM row = none := by
            unfold clM
            rw [hb]
            rfl
          rw [filterMap_take hrow, ec]
          show All2 _ _ (_ ++ (_ ++ []))
          rw [List.append_nil]
          exact a3.imp fun _ _ h => Tu.firm (Firm.of s4) h
        · refine ⟨_, rfl, rfl, _, rfl, iteT ?_⟩
          have h4 := s4 _ _ h3
          have fD : Firm H4 (upd H4 D (.lst (us ++ [.ref t]))) := Firm.upd h4 rfl
          refine ⟨_, rfl, .inl ⟨rfl, _, SqL.of h4⟩, _, rfl, D, _, _, rfl, rfl, h4, ulen, ?_⟩
          refine ⟨_, _, rfl, fun b o e => ?_, (f3.trans (Firm.of s4)).trans fD, us ++ [.ref t], upd_same, ?_⟩
          · rw [upd_ne (ne_of_none e nD)]
            exact s4 _ _ (s3 _ _ e)
          · have ec : clM row = some cl := by
              unfold clM
              rw [hb, isCl_uniq hcl (isCl_clL r0 hb)]
              rfl
            rw [filterMap_take hrow, ec, ← List.append_assoc]
            exact (a3.imp fun _ _ h => Tu.firm fD (Tu.firm (Firm.of s4) h)).snoc ⟨t, rfl, fD _ _ ht rfl⟩
      · rintro σ H3 ⟨x5, x6, rfl, s3, f3, us, h3, a3⟩
        refine ⟨_, rfl, _, _, rfl, rfl, some (.int z.1), some (.int z.2), x5, x6, ?_, s3, us, h3, ?_⟩
        · show _ = _
          rw [show 2 * ((n : Int) + 1) + 2 * (((i + 1 : Nat)) : Int) = 2 * ((n : Int) + 1) + 2 * (i : Int) + 2 by omega]
          rfl
        · rw [clauses_take n hz1]
          exact a3
    · rintro σ H2 ⟨y3, y4, y5, y6, rfl, s2, ws, h2, a2⟩
      rw [ha.len, List.take_length] at a2
      refine ⟨_, rfl, D, _, rfl, .inl ⟨SqL.of h2, fun t nt => ?_⟩⟩
      have st := same_new (u := .tup ws) nt
      exact q _ t ws (s2.trans st) upd_same (a2.imp fun _ _ h => Tu.firm (Firm.of st) h)
end
end Cq
namespace Lc
open PySem PySem.Spec PyProof.Rows L2 Pen Dat Ki Fi Gr No Lf Cm Cp Rp
/-! ## The law's own clauses -/
structure Tx (mg : Str → Option Value) : Prop where
  lf : Lf.Tx mg
  cp : Cp.Tx mg
  dict : mg "dict" = none
  enumerate : mg "enumerate" = none
def spFlip : Sp := fun vs H Q _ => ∃ l : Int, vs = [.int l] ∧ Q (.int (fl l)) H
def spOwn (K : PySem.W.Frag) : Sp := fun vs H Q _ => ∃ (r : Addr) (ls : List Int), vs = [.ref r] ∧ SqL K H r (ls.map V.int) ∧ (∀ l ∈ ls, 0 ≤ l) ∧ ls.length ≤ 500 ∧ (bad ls = true → ∀ H', Same H H' → Q .non H') ∧
  (bad ls = false → ∀ (H' : Hp) (t : Addr) (cl : List Int), Same H H' → IsCl ls cl → H' t = some (.tup (cl.map V.int)) → Q (.ref t) H')
def spKeeps (K : PySem.W.Frag) : Sp := fun vs H Q _ => ∃ (v : V) (c : Addr) (as cl : List Int), vs = [v, .ref c] ∧ SeqI K H v as ∧ SqT K H c (cl.map V.int) ∧ (∀ z ∈ cl, z ≠ 0 ∧ z.natAbs ≤ as.length) ∧ cl.length ≤ 1000 ∧ ∀ H', Same H H' → Q (.bl (satB as cl)) H'
theorem int_at {xs : List Int} {i : Nat} {y : V} (h : (xs.map V.int)[i]? = some y) : ∃ z, y = V.int z ∧ xs[i]? = some z := by
  rw [List.getElem?_map] at h
  cases e : xs[i]? with
  | none =>
    rw [e] at h
    cases h
  | some u =>
    rw [e] at h
    exact ⟨u, (Option.some.inj h).symm, rfl⟩
theorem inV_int (z : Int) (xs : List Int) : inV (.int z) (xs.map V.int) = decide (z ∈ xs) := by
  unfold inV
  rw [List.any_map]
  cases e : decide (z ∈ xs) with
  | true =>
    rw [List.any_eq_true]
    exact ⟨z, of_decide_eq_true e, by show eqV (.int z) (.int z) = true; simp [eqV]⟩
  | false =>
    rw [List.any_eq_false]
    intro u m q
    have : u = z := by
      have q' : eqV (.int u) (.int z) = true := q
      simpa [eqV] using q'
    exact of_decide_eq_false e (this ▸ m)
theorem flat_ints (xs : List Int) : (xs.map V.int).all flatV = true := by
  rw [List.all_map, List.all_eq_true]
  intro z _
  rfl
/-- a list of so many ones, beside the empty one -/
theorem ones_ne (n : Nat) : (!PyData.eqv (.list ((List.replicate n (1 : Int)).map .int)) (.list [])) = decide (0 < n) := by
  cases n with
  | zero => rfl
  | succ n =>
    rw [decide_eq_true (Nat.succ_pos n)]
    rfl
theorem ones_shaped (n : Nat) : SeqAt.shaped (.list ((List.replicate n (1 : Int)).map .int)) = true := (shaped_ints fun z hz => by
  rw [(List.mem_replicate.mp hz).2]
  exact ⟨by decide, by decide⟩).1
/-- how many of the first i items fit -/
def cnt {α : Type} (p : α → Bool) (xs : List α) : Nat := (xs.filter p).length
theorem cnt_more {α : Type} (p : α → Bool) {xs : List α} {i : Nat} {x : α} (h : xs[i]? = some x) : cnt p (xs.take (i + 1)) = cnt p (xs.take i) + if p x = true then 1 else 0 := by
  unfold cnt
  rw [take_more h, List.filter_append, List.length_append]
  by_cases e : p x = true
  · rw [List.filter_cons_of_pos e, if_pos e]
    rfl
  · rw [List.filter_cons_of_neg e, if_neg e]
    rfl
theorem cnt_pos {α : Type} (p : α → Bool) (xs : List α) : decide (0 < cnt p xs) = xs.any p := by
  unfold cnt
  cases e : xs.any p with
  | true =>
    obtain ⟨x, m, h⟩ := List.any_eq_true.mp e
    exact decide_eq_true (List.length_pos_of_mem (List.mem_filter.mpr ⟨m, h⟩))
  | false =>
    refine decide_eq_false fun h => ?_
    obtain ⟨x, hx⟩ := List.exists_mem_of_length_pos h
    obtain ⟨m, q⟩ := List.mem_filter.mp hx
    exact absurd (List.any_eq_true.mpr ⟨x, m, q⟩) (by rw [e]; decide)
theorem cnt_le {α : Type} (p : α → Bool) (xs : List α) : cnt p xs ≤ xs.length := List.length_filter_le _ _
theorem merge_keys : ∀ (ls : List Int) (acc : List (Key × V)) (ks : List Int), acc.map (·.1) = ks.map Sum.inl → ks.Nodup →
    ∃ ks' : List Int, (mergeK acc (ls.map fun l => ((Sum.inl l : Key), V.int 1))).map (·.1) = ks'.map Sum.inl ∧ ks'.Nodup ∧ (∀ l, l ∈ ks' ↔ l ∈ ks ∨ l ∈ ls) ∧ ks'.length ≤ ks.length + ls.length
  | [], acc, ks, e, nd => ⟨ks, e, nd, fun l => by simp, Nat.le_refl _⟩
  | l :: r, acc, ks, e, nd => by
    have inK : (Sum.inl l : Key) ∈ acc.map (·.1) ↔ l ∈ ks := by
      rw [e, List.mem_map]
      exact ⟨fun ⟨b, m, q⟩ => Sum.inl.inj q ▸ m, fun m => ⟨l, m, rfl⟩⟩
    by_cases hk : l ∈ ks
    · obtain ⟨ks', a, b, c, d⟩ := merge_keys r (putK acc (Sum.inl l) (.int 1)) ks (by rw [keys_put_old (inK.mpr hk), e]) nd
      refine ⟨ks', a, b, fun z => ?_, by rw [List.length_cons]; omega⟩
      rw [c, List.mem_cons]
      exact ⟨fun h => h.elim .inl fun h => .inr (.inr h), fun h => h.elim .inl fun h => h.elim (fun h => .inl (h ▸ hk)) .inr⟩
    · have hkk : valV acc (Sum.inl l : Key) = none := by
        cases ev : valV acc (Sum.inl l : Key) with
        | none => rfl
        | some u => exact absurd (inK.mp (valV_in ev)) hk
      obtain ⟨ks', a, b, c, d⟩ := merge_keys r (putK acc (Sum.inl l) (.int 1)) (ks ++ [l]) (by rw [putK_new _ hkk, List.map_append, e, List.map_append]; rfl)
        (by rw [List.nodup_append]; exact ⟨nd, (by rw [List.nodup_cons]; exact ⟨List.not_mem_nil, List.nodup_nil⟩), fun x mx y my q => hk (by rw [List.mem_singleton.mp my] at q; exact q ▸ mx)⟩)
      refine ⟨ks', a, b, fun z => ?_, by rw [List.length_append] at d; rw [List.length_cons]; simp at d; omega⟩
      rw [c, List.mem_append, List.mem_singleton, List.mem_cons]
      exact ⟨fun h => h.elim (fun h => h.elim .inl fun h => .inr (.inl h)) fun h => .inr (.inr h), fun h => h.elim (fun h => .inl (.inl h)) fun h => h.elim (fun h => .inl (.inr h)) .inr⟩
/-- a list of pairs (l, 1) -/
def One1 (H : Hp) (v : V) (l : Int) : Prop := ∃ t, v = .ref t ∧ H t = some (.tup [.int l, .int 1])
theorem ones_pairs {K : PySem.W.Frag} {H : Hp} : ∀ {ys : List V} {ls : List Int}, All2 (One1 H) ys ls → ∃ ps : List Addr, ys = ps.map V.ref ∧ Paired (fun p (kv : Key × V) => SqT K H p [kV kv.1, kv.2]) ps (ls.map fun l => ((Sum.inl l : Key), V.int 1))
  | _, _, .nil => ⟨[], rfl, .nil⟩
  | _, _, .cons h t => by
    obtain ⟨q, rfl, hq⟩ := h
    obtain ⟨ps, rfl, hp⟩ := ones_pairs (K := K) t
    exact ⟨q :: ps, rfl, .cons (SqT.of hq) hp⟩
section
variable {P : Program} {w : World} {K : PySem.W.Frag} {mg : Str → Option Value} {base : Heap} {f C : Addr} {fd : FuncData}
abbrev owN : List Str := ["_law_literals", "_law_nodes", "_law_literal", "_law_one", "_law_node"]
abbrev keN : List Str := ["_law_bits", "_law_clause", "_law_one"]
theorem scFlip : FnScope ["_law_literal"] ["_law_literal"] (defScope sFlip) := ⟨rfl, rfl, rfl, by decide +kernel, rfl, by decide +kernel, by decide +kernel⟩
theorem ok_flip (F : FnP K "_law_flip" sFlip f fd) (T : Tx mg) : FnOk P w K mg base CX0 1 f fd ["_law_literal"] spFlip := by
  refine F.ok scFlip (fun vs H Q E h => ?_) (fun cdv A outer s H vs Q E hr h => ?_)
  · obtain ⟨l, rfl, _⟩ := h
    rfl
  · obtain ⟨l, rfl, q⟩ := h
    refine ⟨_, PSs.nox (pss_one (ps_ret (pe_op op_sub (pe_op op_add (pv 0) pe_int) (pe_op op_mul pe_int (pe_op op_mod (pe_callTy call_int1 (by rfl) T.lf.pen.int (by decide +kernel) (pa_cons (pv 0) pa_nil)) pe_int))))), ?_⟩
    exact ⟨_, rfl, _, _, rfl, rfl, _, rfl, .inl ⟨_, rfl, _, _, rfl, rfl, (by show (0 : Int) < 2; decide), _, _, rfl, rfl, .inl ⟨by decide, by decide⟩, _, _, rfl, rfl, q⟩⟩
theorem half_nd {ls ks : List Int} (h0 : ∀ l ∈ ls, 0 ≤ l) (nb : bad ls = false) (nd : ks.Nodup) (hm : ∀ l ∈ ks, l ∈ ls) : ((ks.filter fun l => decide (l > 1)).map fun l => l / 2).Nodup := by
  obtain ⟨b1, b2⟩ := not_bad nb
  have f : (ks.filter fun l => decide (l > 1)).Nodup := nd.filter _
  rw [List.Nodup, List.pairwise_map]
  refine f.imp_of_mem fun {a b} ma mb ne e => ?_
  obtain ⟨ma, a1⟩ := List.mem_filter.mp ma
  obtain ⟨mb, c1⟩ := List.mem_filter.mp mb
  have a1 := of_decide_eq_true a1
  have c1 := of_decide_eq_true c1
  have z : b = fl a := by
    unfold fl
    omega
  exact b2 a (hm a ma) (z ▸ hm b mb)
end
end Lc
namespace Mc
open PySem PySem.Spec PyProof.Rows L2 Pen Dat Ki Fi Gr No Lf Cm Cp Lc
/-! ## Machines -/
structure Tx (K : PySem.W.Frag) (mg : Str → Option Value) (C M : Addr) : Prop where
  gr : Gr.Tx K mg C
  cl : Cls K M
  nG : NoAttr K M "graph"
  nI : NoAttr K M "inputs"
  nR : NoAttr K M "resets"
  nN : NoAttr K M "nexts"
  nW : NoAttr K M "wish"
  mgM : mg "Machine" = some (.ref M)
  abs : mg "abs" = none
def MachAt (K : PySem.W.Frag) (M : Addr) (H : Hp) (p : Addr) (i : Int) (nx : List Int) : Prop := ∃ dx fs t, H p = some (.ins M dx fs) ∧ fs.lookup ("inputs" : Str) = some (.int i) ∧ fs.lookup ("nexts" : Str) = some (.ref t) ∧ SqT K H t (nx.map V.int)
theorem MachAt.firm {K : PySem.W.Frag} {M p : Addr} {H H' : Hp} {i : Int} {nx : List Int} (s : Firm H H') (h : MachAt K M H p i nx) : MachAt K M H' p i nx := by
  obtain ⟨dx, fs, t, h1, h2, h3, h4⟩ := h
  exact ⟨dx, fs, t, s _ _ h1 rfl, h2, h3, firm_seq s h4⟩
theorem rowB_ints {xs : List Int} {lo hi : Int} (h : ∀ z ∈ xs, lo ≤ z ∧ z ≤ hi) {m : Int} (e : (xs.length : Int) = m) : rowB (.tuple (xs.map .int)) m lo hi = true := by
  unfold rowB
  show (true && (decide (((xs.map PyData.int).length : Int) = m) && (xs.map PyData.int).all fun e => betD e lo hi)) = true
  rw [List.length_map, decide_eq_true e, Bool.true_and, Bool.true_and, List.all_map, List.all_eq_true]
  intro z hz
  obtain ⟨a, b⟩ := h z hz
  show (decide (lo ≤ z) && decide (z ≤ hi)) = true
  rw [decide_eq_true a, decide_eq_true b]
  rfl
theorem pe_fldK {X : Cx} {K : PySem.W.Frag} {e : Expr} {f : Str} {pos : Pos} {ta : TE} (hK : X.K = K) (he : PE X e ta) (hb : attributeBase e f X.env (eval e X.env) = eval e X.env) : PE X (.Attribute e f pos) (tFld K ta f) := hK ▸ pe_fld he hb
abbrev sMInit : Stmt := inClass cMach 0
/-- a machine with its graph and its wish -/
def MJ (K : PySem.W.Frag) (M : Addr) (H : Hp) (p x : Addr) (i : Int) (nx : List Int) (wi : Int) : Prop := ∃ dx fs t, H p = some (.ins M dx fs) ∧ fs.lookup ("inputs" : Str) = some (.int i) ∧ fs.lookup ("nexts" : Str) = some (.ref t) ∧ SqT K H t (nx.map V.int) ∧
  fs.lookup ("graph" : Str) = some (.ref x) ∧ fs.lookup ("wish" : Str) = some (.int wi)
theorem MJ.at_ {K : PySem.W.Frag} {M : Addr} {H : Hp} {p x : Addr} {i : Int} {nx : List Int} {wi : Int} (h : MJ K M H p x i nx wi) : MachAt K M H p i nx := by
  obtain ⟨dx, fs, t, h1, h2, h3, h4, _⟩ := h
  exact ⟨dx, fs, t, h1, h2, h3, h4⟩
theorem MJ.same {K : PySem.W.Frag} {M : Addr} {H H' : Hp} {p x : Addr} {i : Int} {nx : List Int} {wi : Int} (h : MJ K M H p x i nx wi) (s : Same H H') : MJ K M H' p x i nx wi := by
  obtain ⟨dx, fs, t, h1, h2, h3, h4, h5⟩ := h
  exact ⟨dx, fs, t, s _ _ h1, h2, h3, seqT_same s h4, h5⟩
theorem MJ.firm {K : PySem.W.Frag} {M : Addr} {H H' : Hp} {p x : Addr} {i : Int} {nx : List Int} {wi : Int} (s : Firm H H') (h : MJ K M H p x i nx wi) : MJ K M H' p x i nx wi := by
  obtain ⟨dx, fs, t, h1, h2, h3, h4, h5⟩ := h
  exact ⟨dx, fs, t, s _ _ h1 rfl, h2, h3, firm_seq s h4, h5⟩
def spMInit (K : PySem.W.Frag) (C M : Addr) : Sp := fun vs H Q _ => ∃ (p dx x r1 r2 : Addr) (n i wi : Int) (gs : List (Int × Int)) (rs nx : List Int), vs = [.ref p, .ref x, .int i, .ref r1, .ref r2, .int wi] ∧ H p = some (.ins M dx []) ∧ GraphAt K C H x n gs ∧
  0 ≤ i ∧ i ≤ n ∧ SqT K H r1 (rs.map V.int) ∧ (rs.length : Int) = n - i ∧ rs.length ≤ 1000 ∧ (∀ z ∈ rs, 0 ≤ z ∧ z ≤ 1) ∧ SqT K H r2 (nx.map V.int) ∧ (nx.length : Int) = n - i ∧ (∀ z ∈ nx, 0 ≤ z ∧ z ≤ 2 * (n + gs.length) + 1) ∧ 0 ≤ wi ∧ wi ≤ 2 * (n + gs.length) + 1 ∧
  ∀ H', (∀ b o, H b = some o → b ≠ p → H' b = some o) → MJ K M H' p x i nx wi → Q .non H'
def spNow (K : PySem.W.Frag) (M : Addr) : Sp := fun vs H Q _ => ∃ (p c : Addr) (i : Int) (nx cl : List Int), vs = [.ref p, .ref c] ∧ MachAt K M H p i nx ∧ SqT K H c (cl.map V.int) ∧ cl.length ≤ 1000 ∧
  ∀ (H' : Hp) (t : Addr), Same H H' → H' t = some (.tup ((cl.map fun z => if z > 0 then z + i else z - i).map V.int)) → Q (.ref t) H'
def led (nx : List Int) (z : Int) : Int := if z < 0 then fl (nx.getD (z.natAbs - 1) 0) else nx.getD (z.natAbs - 1) 0
def spBehind (K : PySem.W.Frag) (M : Addr) : Sp := fun vs H Q _ => ∃ (p c : Addr) (i : Int) (nx cl : List Int), vs = [.ref p, .ref c] ∧ MachAt K M H p i nx ∧ SqT K H c (cl.map V.int) ∧ cl.length ≤ 400 ∧ (∀ z ∈ cl, z ≠ 0 ∧ z.natAbs ≤ nx.length) ∧ (∀ z ∈ nx, 0 ≤ z) ∧
  (bad (cl.map (led nx)) = true → ∀ H', Same H H' → Q .non H') ∧ (bad (cl.map (led nx)) = false → ∀ (H' : Hp) (t : Addr) (c2 : List Int), Same H H' → IsCl (cl.map (led nx)) c2 → H' t = some (.tup (c2.map V.int)) → Q (.ref t) H')
theorem xor_nil {l : Int} (h : 0 ≤ l) : Builtin.bitXor l 0 = l := by
  obtain ⟨n, rfl⟩ := Int.eq_ofNat_of_zero_le h
  rw [Bits.bitXor_pp h (by decide)]
  show ((n ^^^ 0 : Nat) : Int) = n
  rw [Nat.xor_zero]
section
variable {P : Program} {w : World} {K : PySem.W.Frag} {mg : Str → Option Value} {base : Heap} {f C M : Addr} {fd : FuncData}
abbrev miN : List Str := ["self", "graph", "inputs", "resets", "nexts", "wish", "most"]
theorem scMInit : FnScope miN ["self", "graph", "inputs", "resets", "nexts", "wish"] (defScope sMInit) := ⟨rfl, rfl, rfl, by decide +kernel, rfl, by decide +kernel, by decide +kernel⟩
theorem scNow : FnScope ["machine", "clause", "n"] ["machine", "clause"] (defScope sNow) := ⟨rfl, rfl, rfl, by decide +kernel, rfl, by decide +kernel, by decide +kernel⟩
theorem scBehind : FnScope ["machine", "clause", "n"] ["machine", "clause"] (defScope sBehind) := ⟨rfl, rfl, rfl, by decide +kernel, rfl, by decide +kernel, by decide +kernel⟩
abbrev FnM (K : PySem.W.Frag) (f : Addr) (fd : FuncData) : Prop := FunD K "__init__" "Machine.__init__" (defArgs sMInit) (defBody sMInit) (defScope sMInit) [] [] f fd
theorem ok_minit {fB fR : Addr} {fdB fdR : FuncData} (F : FnM K f fd) (T : Tx K mg C M) (GB : FnOk P w K mg base CX0 1 fB fdB ["value", "least", "most"] (spBetween K)) (gB : mg "is_between" = some (.ref fB)) (kB : PySem.W.keepIn K (.ref fB) = true) (bB : Binds K fdB ["value", "least", "most"] [])
    (GR : FnOk P w K mg base CX0 2 fR fdR ["value", "many", "least", "most"] (spRowB K)) (gR : mg "is_row_between" = some (.ref fR)) (kR : PySem.W.keepIn K (.ref fR) = true) (bR : Binds K fdR ["value", "many", "least", "most"] []) :
    FnOk P w K mg base CX0 3 f fd ["self", "graph", "inputs", "resets", "nexts", "wish"] (spMInit K C M) := by
  refine F.ok scMInit (fun vs H Q E h => ?_) (fun cdv A outer s H vs Q E hr h => ?_)
  · obtain ⟨p, dx, x, r1, r2, n, i, wi, gs, rs, nx, rfl, _⟩ := h
    rfl
  · obtain ⟨p, dx, x, r1, r2, n, i, wi, gs, rs, nx, rfl, hp, hx, i0, i1, h1, l1, lz, z1, h2, l2, z2, w0, w1, q⟩ := h
    have hr1 := hr.mono (j := 1) (by decide)
    refine ⟨_, PSs.nox (pss_cons (ps_set (i := 6) scMInit.nd rfl (Or.inl rfl) (pe_op op_add (pe_op op_mul pe_int (pe_op op_add (pe_fld (pv 1) rfl) (pe_callB call_len_seq (by rfl) T.gr.ki.len PySem.boot_len (pa_cons (pe_fld (pv 1) rfl) pa_nil)))) pe_int))
      (pss_cons (ps_if (pt_not (pt_val (pe_call GB hr1 (by rfl) gB kB bB .nil pass0 (pa_cons (pv 2) (pa_cons pe_int (pa_cons (pe_fld (pv 1) rfl) pa_nil)))))) (pss_one ps_never) pss_nil)
      (pss_cons (ps_if (pt_not (pt_val (pe_call GR hr (by rfl) gR kR bR .nil pass0 (pa_cons (pv 3) (pa_cons (pe_op op_sub (pe_fld (pv 1) rfl) (pv 2)) (pa_cons pe_int (pa_cons pe_int pa_nil))))))) (pss_one ps_never) pss_nil)
      (pss_cons (ps_if (pt_not (pt_val (pe_call GR hr (by rfl) gR kR bR .nil pass0 (pa_cons (pv 4) (pa_cons (pe_op op_sub (pe_fld (pv 1) rfl) (pv 2)) (pa_cons pe_int (pa_cons (pv 6) pa_nil))))))) (pss_one ps_never) pss_nil)
      (pss_cons (ps_if (pt_not (pt_val (pe_call GB hr1 (by rfl) gB kB bB .nil pass0 (pa_cons (pv 5) (pa_cons pe_int (pa_cons (pv 6) pa_nil)))))) (pss_one ps_never) pss_nil)
      (pss_cons (ps_fld (pv 0) (pv 1) rfl) (pss_cons (ps_fld (pv 0) (pv 2) rfl)
      (pss_cons (ps_fld (pv 0) (pe_callTy call_tuple_of (by rfl) T.gr.ki.tuple (by decide +kernel) (pa_cons (pv 3) pa_nil)) rfl)
      (pss_cons (ps_fld (pv 0) (pe_callTy call_tuple_of (by rfl) T.gr.ki.tuple (by decide +kernel) (pa_cons (pv 4) pa_nil)) rfl)
      (pss_one (ps_fld (pv 0) (pv 5) rfl))))))))))), ?_⟩
    obtain ⟨dg, g, x1, ps, hg, ha⟩ := hx
    refine ⟨_, rfl, x, C, dg, _, _, rfl, x1, T.gr.cl, T.gr.nL, flds_L _ _, _, rfl, x, C, dg, _, _, rfl, x1, T.gr.cl, T.gr.nG, flds_G _ _, g, ps, rfl, .inr hg, _, _, rfl, rfl, _, _, rfl, rfl, .inl ⟨by decide, by decide⟩, _, _, rfl, rfl, ?_⟩
    rw [ha.len]
    refine ⟨_, rfl, _, rfl, x, C, dg, _, _, rfl, x1, T.gr.cl, T.gr.nL, flds_L _ _, _, _, _, _, rfl, .int i, _, rfl, ?_⟩
    have bet : ∀ {lo hi z : Int}, lo ≤ z → z ≤ hi → betD (.int z) lo hi = true := fun {lo hi z} a b => by
      show (decide (lo ≤ z) && decide (z ≤ hi)) = true
      rw [decide_eq_true a, decide_eq_true b]
      rfl
    rw [bet i0 i1]
    refine iteF ?_
    refine ⟨_, rfl, _, rfl, x, C, dg, _, _, rfl, x1, T.gr.cl, T.gr.nL, flds_L _ _, _, rfl, _, _, rfl, rfl, _, _, _, _, _, rfl, .tup h1 (ints_dp _), by show (rs.map PyData.int).length ≤ 1000; rw [List.length_map]; exact lz, fun H1 s1 => ⟨_, rfl, ?_⟩⟩
    rw [rowB_ints z1 l1]
    refine iteF ?_
    have x1' := s1 _ _ x1
    have h1' := seqT_same s1 h1
    have h2' := seqT_same s1 h2
    refine ⟨_, rfl, _, rfl, x, C, dg, _, _, rfl, x1', T.gr.cl, T.gr.nL, flds_L _ _, _, rfl, _, _, rfl, rfl, _, rfl, _, _, _, _, _, rfl, .tup h2' (ints_dp _), by show (nx.map PyData.int).length ≤ 1000; rw [List.length_map]; omega, fun H2 s2 => ⟨_, rfl, ?_⟩⟩
    rw [rowB_ints z2 l2]
    refine iteF ?_
    have h1 := seqT_same s2 h1'
    have h2 := seqT_same s2 h2'
    refine ⟨_, rfl, _, rfl, _, _, _, _, rfl, .int wi, _, rfl, ?_⟩
    rw [bet w0 w1]
    refine iteF ?_
    have hp2 := s2 _ _ (s1 _ _ hp)
    have keepT : ∀ {t : Addr} {xs : List V} {fs : List (Str × V)}, SqT K H2 t xs → SqT K (upd H2 p (.ins M dx fs)) t xs := fun {t xs fs} h => by
      rcases h with (h | ⟨o, h⟩) | h
      · exact .inl (.inl (by rw [upd_ne (fun e => by rw [e, hp2] at h; cases h)]; exact h))
      · exact .inl (.inr ⟨o, by rw [upd_ne (fun e => by rw [e, hp2] at h; cases h)]; exact h⟩)
      · exact .inr h
    refine ⟨_, rfl, _, rfl, p, M, dx, _, rfl, hp2, T.cl, T.nG, (by show 0 < 1000; decide), ?_⟩
    refine ⟨_, rfl, _, rfl, p, M, dx, _, rfl, upd_same, T.cl, T.nI, (by show 1 < 1000; decide), ?_⟩
    rw [upd_upd]
    refine ⟨_, rfl, r1, _, rfl, .inr ⟨keepT h1, ?_⟩⟩
    refine ⟨_, rfl, p, M, dx, _, rfl, upd_same, T.cl, T.nR, (by show 2 < 1000; decide), ?_⟩
    rw [upd_upd]
    refine ⟨_, rfl, r2, _, rfl, .inr ⟨keepT h2, ?_⟩⟩
    refine ⟨_, rfl, p, M, dx, _, rfl, upd_same, T.cl, T.nN, (by show 3 < 1000; decide), ?_⟩
    rw [upd_upd]
    refine ⟨_, rfl, _, rfl, p, M, dx, _, rfl, upd_same, T.cl, T.nW, (by show 4 < 1000; decide), ?_⟩
    rw [upd_upd]
    have ne1 : ¬ (("inputs" : Str) = "wish") := by decide +kernel
    have ne2 : ¬ (("inputs" : Str) = "nexts") := by decide +kernel
    have ne3 : ¬ (("inputs" : Str) = "resets") := by decide +kernel
    have ne4 : ¬ (("nexts" : Str) = "wish") := by decide +kernel
    have ne5 : ¬ (("graph" : Str) = "wish") := by decide +kernel
    have ne6 : ¬ (("graph" : Str) = "nexts") := by decide +kernel
    have ne7 : ¬ (("graph" : Str) = "resets") := by decide +kernel
    have ne8 : ¬ (("graph" : Str) = "inputs") := by decide +kernel
    refine q _ (fun b o e ne => ?_) ⟨dx, _, r2, upd_same, ?_, ?_, keepT h2, ?_, ?_⟩
    · rw [upd_ne ne]
      exact s2 _ _ (s1 _ _ e)
    · rw [lookup_putF, if_neg ne1, lookup_putF, if_neg ne2, lookup_putF, if_neg ne3, lookup_putF, if_pos rfl]
    · rw [lookup_putF, if_neg ne4, lookup_putF, if_pos rfl]
    · rw [lookup_putF, if_neg ne5, lookup_putF, if_neg ne6, lookup_putF, if_neg ne7, lookup_putF, if_neg ne8, lookup_putF, if_pos rfl]
    · rw [lookup_putF, if_pos rfl]
theorem ok_now (F : FnP K "now" sNow f fd) (T : Tx K mg C M) : FnOk P w K mg base CX0 1 f fd ["machine", "clause"] (spNow K M) := by
  refine F.ok scNow (fun vs H Q E h => ?_) (fun cdv A outer s H vs Q E hr h => ?_)
  · obtain ⟨p, c, i, nx, cl, rfl, _⟩ := h
    rfl
  · obtain ⟨p, c, i, nx, cl, rfl, hm, hc, hz, q⟩ := h
    obtain ⟨dx, fs, t0, m1, m2, m3, m4⟩ := hm
    refine ⟨_, PSs.nox (pss_one (ps_ret (pe_callTy call_tuple_of (by rfl) T.gr.ki.tuple (by decide +kernel) (pa_cons
      (pe_lc (own := [("n", 2)]) (g := gName 2) (tt := tYes) rfl scNow.nd (pi_tup (pv 1)) (blkOk_by (N := ["machine", "clause", "n"]) (sc := defScope sNow) (by decide +kernel)) (fun _ _ _ _ _ => pg_name (i := 2) scNow.nd rfl (Or.inl rfl)) (fun _ _ _ _ _ => pts_nil)
        (fun _ _ _ _ _ => pe_ifExp (pt_cmpR op_gt (pv 2) pe_int (nomark _)) (pe_op op_add (pv 2) (pe_fldK (K := K) rfl (pv 0) rfl)) (pe_op op_sub (pv 2) (pe_fldK (K := K) rfl (pv 0) rfl)))) pa_nil)))), ?_⟩
    let sh : Int → Int := fun z => if z > 0 then z + i else z - i
    refine ⟨_, rfl, c, rfl, ⟨_, hc⟩, fun D nD => ?_⟩
    refine lc_tup (K := K) (a := c) (xs := cl.map V.int) (fun k H2 => Same H H2 ∧ H2 D = some (.lst (((cl.take k).map sh).map V.int))) ⟨same_new nD, upd_same⟩ (fun k H2 _ ⟨s2, _⟩ => seqT_same s2 hc) ?_ ?_
    · rintro k y H2 hi ⟨s2, h2⟩
      obtain ⟨z, rfl, hz1⟩ := int_at hi
      have len : (((cl.take k).map sh).map V.int).length < sizeLine := by
        rw [List.length_map, List.length_map]
        exact Nat.lt_of_le_of_lt (List.length_take_le' _ _) (Nat.lt_of_le_of_lt hz (by decide))
      have keep : ∀ {zs : List V}, Same H (upd H2 D (.lst zs)) := fun {zs} b o e => by
        rw [upd_ne (ne_of_none e nD)]
        exact s2 _ _ e
      refine ⟨rfl, yes_of ?_⟩
      refine ⟨_, rfl, _, _, rfl, rfl, _, rfl, ite2 (fun c1 => ?_) (fun c1 => ?_)⟩
      · have c1 := of_decide_eq_true c1
        refine ⟨_, rfl, _, rfl, p, M, dx, _, _, rfl, s2 _ _ m1, T.cl, T.nI, m2, _, _, rfl, rfl, _, h2, len, keep, ?_⟩
        rw [upd_same, take_more hz1, List.map_append, List.map_append]
        have e : sh z = z + i := if_pos c1
        show _ = some (HO.lst (_ ++ [V.int (sh z)]))
        rw [e]
      · have c1 : ¬ z > 0 := fun e => c1 (decide_eq_true e)
        refine ⟨_, rfl, _, rfl, p, M, dx, _, _, rfl, s2 _ _ m1, T.cl, T.nI, m2, _, _, rfl, rfl, _, h2, len, keep, ?_⟩
        rw [upd_same, take_more hz1, List.map_append, List.map_append]
        have e : sh z = z - i := if_neg c1
        show _ = some (HO.lst (_ ++ [V.int (sh z)]))
        rw [e]
    · rintro H2 ⟨s2, h2⟩
      rw [List.length_map, List.take_length] at h2
      refine ⟨D, _, rfl, .inl ⟨SqL.of h2, fun t nt => ?_⟩⟩
      have st := same_new (u := .tup ((cl.map sh).map V.int)) nt
      exact q _ t (s2.trans st) upd_same
theorem ok_behind {fC : Addr} {fdC : FuncData} (F : FnP K "behind" sBehind f fd) (T : Tx K mg C M) (FC : FnP K "clause_of" sCl fC fdC) (gC : mg "clause_of" = some (.ref fC)) (TC : Cp.Tx mg) : FnOk P w K mg base CX0 2 f fd ["machine", "clause"] (spBehind K M) := by
  have GC : FnOk P w K mg base CX0 1 fC fdC ["literals"] (spCl K) := ok_cl FC TC
  have bC : Binds K fdC ["literals"] [] := FC.bindsN fun _ _ _ _ _ _ us hl => match us, hl with | [_], _ => rfl
  refine F.ok scBehind (fun vs H Q E h => ?_) (fun cdv A outer s H vs Q E hr h => ?_)
  · obtain ⟨p, c, i, nx, cl, rfl, _⟩ := h
    rfl
  · obtain ⟨p, c, i, nx, cl, rfl, hm, hc, hz, zs, n0, q1, q2⟩ := h
    obtain ⟨dx, fs, t0, m1, m2, m3, m4⟩ := hm
    refine ⟨_, PSs.nox (pss_one (ps_ret (pe_call GC hr (by rfl) gC FC.kp bC .nil pass0 (pa_cons
      (pe_lc (own := [("n", 2)]) (g := gName 2) (tt := tYes) rfl scBehind.nd (pi_tup (pv 1)) (blkOk_by (N := ["machine", "clause", "n"]) (sc := defScope sBehind) (by decide +kernel)) (fun _ _ _ _ _ => pg_name (i := 2) scBehind.nd rfl (Or.inl rfl)) (fun _ _ _ _ _ => pts_nil)
        (fun _ _ _ _ _ => pe_op op_xor (pe_ix (r := L2.rIxT K) (by exact ix_tup) (pe_fldK (K := K) rfl (pv 0) rfl) (pe_op op_sub (pe_callB call_abs (by rfl) T.abs (by decide +kernel) (pa_cons (pv 2) pa_nil)) pe_int) (fun _ _ => rfl)) (pe_ifExp (pt_cmpR op_lt (pv 2) pe_int (nomark _)) pe_int pe_int))) pa_nil)))), ?_⟩
    refine ⟨_, rfl, c, rfl, ⟨_, hc⟩, fun D nD => ?_⟩
    refine lc_tup (K := K) (a := c) (xs := cl.map V.int) (fun k H2 => Same H H2 ∧ H2 D = some (.lst (((cl.take k).map (led nx)).map V.int))) ⟨same_new nD, upd_same⟩ (fun k H2 _ ⟨s2, _⟩ => seqT_same s2 hc) ?_ ?_
    · rintro k y H2 hi ⟨s2, h2⟩
      obtain ⟨z, rfl, hz1⟩ := int_at hi
      obtain ⟨z0, z1⟩ := zs z (List.mem_of_getElem? hz1)
      have len : (((cl.take k).map (led nx)).map V.int).length < sizeLine := by
        rw [List.length_map, List.length_map]
        exact Nat.lt_of_le_of_lt (List.length_take_le' _ _) (Nat.lt_of_le_of_lt hz (by decide))
      have keep : ∀ {zs : List V}, Same H (upd H2 D (.lst zs)) := fun {zs} b o e => by
        rw [upd_ne (ne_of_none e nD)]
        exact s2 _ _ e
      have ej : (if z < 0 then -z else z) - 1 = ((z.natAbs - 1 : Nat) : Int) := by
        split <;> omega
      have hj : z.natAbs - 1 < nx.length := by omega
      have g0 : 0 ≤ nx.getD (z.natAbs - 1) 0 := by
        rw [List.getD_eq_getElem?_getD, List.getElem?_eq_getElem hj]
        exact n0 _ (List.getElem_mem hj)
      refine ⟨rfl, yes_of ?_⟩
      refine ⟨_, rfl, p, M, dx, _, _, rfl, s2 _ _ m1, T.cl, T.nN, m3, _, rfl, _, rfl, _, _, rfl, rfl, t0, _, _, _, rfl, rfl, seqT_same s2 m4, at_of ej (getD_of hj), ?_⟩
      refine ⟨_, rfl, _, _, rfl, rfl, _, rfl, ite2 (fun c1 => ?_) (fun c1 => ?_)⟩
      · have c1 := of_decide_eq_true c1
        refine ⟨_, _, rfl, rfl, _, h2, len, keep, ?_⟩
        rw [upd_same, take_more hz1, List.map_append, List.map_append]
        show some (HO.lst (_ ++ [V.int (Builtin.bitXor (nx.getD (z.natAbs - 1) 0) 1)])) = _
        rw [xor_one g0]
        have e : led nx z = fl (nx.getD (z.natAbs - 1) 0) := if_pos c1
        show _ = some (HO.lst (_ ++ [V.int (led nx z)]))
        rw [e]
      · have c1 : ¬ z < 0 := fun e => c1 (decide_eq_true e)
        refine ⟨_, _, rfl, rfl, _, h2, len, keep, ?_⟩
        rw [upd_same, take_more hz1, List.map_append, List.map_append]
        show some (HO.lst (_ ++ [V.int (Builtin.bitXor (nx.getD (z.natAbs - 1) 0) 0)])) = _
        rw [xor_nil g0]
        have e : led nx z = nx.getD (z.natAbs - 1) 0 := if_neg c1
        show _ = some (HO.lst (_ ++ [V.int (led nx z)]))
        rw [e]
    · rintro H2 ⟨s2, h2⟩
      rw [List.length_map, List.take_length] at h2
      have d0 : ∀ l ∈ cl.map (led nx), 0 ≤ l := fun l hl => by
        obtain ⟨z, hz, rfl⟩ := List.mem_map.mp hl
        have g0 : 0 ≤ nx.getD (z.natAbs - 1) 0 := by
          have hj : z.natAbs - 1 < nx.length := by have := zs z hz; omega
          rw [List.getD_eq_getElem?_getD, List.getElem?_eq_getElem hj]
          exact n0 _ (List.getElem_mem hj)
        unfold led
        split
        · unfold fl
          omega
        · exact g0
      exact ⟨.ref D, _, rfl, ⟨D, rfl, .inl (SqL.of h2)⟩, d0, by rw [List.length_map]; omega, fun hb H3 s3 => q1 hb H3 (s2.trans s3), fun hb H3 t c2 s3 hc2 ht => q2 hb H3 t c2 (s2.trans s3) hc2 ht⟩
end
end Mc
namespace Dm
open PySem PySem.Spec PyProof.Rows L2 Pen Dat Ki Fi Gr No Lf Cm Cp Lc Mc
/-! ## Drawn machines -/
theorem cat_use {K : PySem.W.Frag} {H : Hp} {a b : Addr} {xs ys : List V} {Q : VK} (ha : SqT K H a xs) (hb : SqT K H b ys) (hz : xs.length + ys.length ≤ sizeLine) (k : ∀ t H', Same H H' → SqT K H' t (xs ++ ys) → Q (.ref t) H') : L2.rCatA K (.ref a) (.ref b) H Q := by
  refine ⟨a, b, xs, ys, rfl, rfl, ha, hb, hz, fun e => ?_, fun _ e => ?_, fun _ _ p np => ?_⟩
  · subst e
    exact k b H (fun _ _ e => e) hb
  · subst e
    exact k a H (fun _ _ e => e) (by rw [List.append_nil]; exact ha)
  · exact k p _ (same_new np) (SqT.of upd_same)
def xorG (n : Int) (gs : List (Int × Int)) (a b : Int) : List (Int × Int) := gs ++ [(a, b), (fl a, fl b)] ++ [(2 * (1 + n + gs.length) + 1, 2 * (1 + n + gs.length) + 3)]
theorem okG_xor {n a b : Int} {gs : List (Int × Int)} (h : okG (2 * n + 1) gs = true) (a0 : 0 ≤ a) (a1 : a < 2 * (1 + n + gs.length)) (b0 : 0 ≤ b) (b1 : b < 2 * (1 + n + gs.length)) (n0 : 0 ≤ n) : okG (2 * n + 1) (xorG n gs a b) = true := by
  have e : xorG n gs a b = ((gs ++ [(a, b)]) ++ [(fl a, fl b)]) ++ [(2 * (1 + n + gs.length) + 1, 2 * (1 + n + gs.length) + 3)] := by
    unfold xorG
    simp
  rw [e]
  have u : ∀ x : Int, 0 ≤ x → x < 2 * (1 + n + gs.length) → 0 ≤ fl x ∧ fl x < 2 * (1 + n + gs.length) := fun x h0 h1 => by
    unfold fl
    omega
  have fa := u a a0 a1
  have fb := u b b0 b1
  refine okG_snoc (okG_snoc (okG_snoc h a0 (by show a ≤ _; omega) b0 (by show b ≤ _; omega)) fa.1 ?_ fb.1 ?_) (by show 0 ≤ _; omega) ?_ (by show 0 ≤ _; omega) ?_
  all_goals
    simp only [List.length_append, List.length_cons, List.length_nil]
    omega
def spXor (K : PySem.W.Frag) : Sp := fun vs H Q _ => ∃ (g : Addr) (n a b : Int) (gs : List (Int × Int)), vs = [.ref g, .int n, .int a, .int b] ∧ GT K H g gs ∧ gs.length ≤ 900 ∧
  ∀ (H' : Hp) (t g' : Addr), Same H H' → GT K H' g' (xorG n gs a b) → H' t = some (.tup [.ref g', .int (2 * (1 + n + gs.length) + 4)]) → Q (.ref t) H'
section
variable {P : Program} {w : World} {K : PySem.W.Frag} {mg : Str → Option Value} {base : Heap} {f C M : Addr} {fd : FuncData}
abbrev xoN : List Str := ["_law_gates", "_law_leaves", "_law_one", "_law_two", "_law_first"]
theorem scXor : FnScope xoN ["_law_gates", "_law_leaves", "_law_one", "_law_two"] (defScope sXor) := ⟨rfl, rfl, rfl, by decide +kernel, rfl, by decide +kernel, by decide +kernel⟩
theorem ok_xor {fF : Addr} {fdF : FuncData} (F : FnP K "_law_xor_gates" sXor f fd) (T : Lc.Tx mg) (FF : FnP K "_law_flip" sFlip fF fdF) (gF : mg "_law_flip" = some (.ref fF)) : FnOk P w K mg base CX0 2 f fd ["_law_gates", "_law_leaves", "_law_one", "_law_two"] (spXor K) := by
  have GF : FnOk P w K mg base CX0 1 fF fdF ["_law_literal"] spFlip := ok_flip FF T
  have bF : Binds K fdF ["_law_literal"] [] := FF.bindsN fun _ _ _ _ _ _ us hl => match us, hl with | [_], _ => rfl
  refine F.ok scXor (fun vs H Q E h => ?_) (fun cdv A outer s H vs Q E hr h => ?_)
  · obtain ⟨g, n, a, b, gs, rfl, _⟩ := h
    rfl
  · obtain ⟨g, n, a, b, gs, rfl, hG, hz, q⟩ := h
    obtain ⟨ps, hg, ha⟩ := hG
    have hr1 := hr.mono (j := 1) (by decide)
    refine ⟨_, PSs.nox (pss_cons (ps_set (i := 4) scXor.nd rfl (Or.inl rfl) (pe_op op_mul pe_int (pe_op op_add (pe_op op_add pe_int (pv 1)) (pe_callB call_len_seq (by rfl) T.lf.pen.len PySem.boot_len (pa_cons (pv 0) pa_nil)))))
      (pss_cons (ps_set (i := 0) scXor.nd rfl (Or.inl rfl) (pe_op op_catA (pv 0) (pe_tup (pa_cons (pe_tup (pa_cons (pv 2) (pa_cons (pv 3) pa_nil))) (pa_cons (pe_tup (pa_cons
        (pe_call GF hr1 (by rfl) gF FF.kp bF .nil pass0 (pa_cons (pv 2) pa_nil)) (pa_cons (pe_call GF hr1 (by rfl) gF FF.kp bF .nil pass0 (pa_cons (pv 3) pa_nil)) pa_nil))) pa_nil)))))
      (pss_one (ps_ret (pe_tup (pa_cons (pe_op op_catA (pv 0) (pe_tup (pa_cons (pe_tup (pa_cons (pe_op op_add (pv 4) pe_int) (pa_cons (pe_op op_add (pv 4) pe_int) pa_nil))) pa_nil))) (pa_cons (pe_op op_add (pv 4) pe_int) pa_nil))))))), ?_⟩
    refine ⟨_, rfl, _, _, rfl, rfl, _, rfl, g, ps, rfl, .inr hg, _, _, rfl, rfl, _, _, rfl, rfl, .inl ⟨by decide, by decide⟩, ?_⟩
    refine ⟨_, rfl, _, rfl, _, rfl, (by show 2 ≤ sizeLine; decide), fun t1 nt1 => ?_⟩
    have s1 := same_new (u := .tup [V.int a, V.int b]) nt1
    refine ⟨_, rfl, a, rfl, _, rfl, b, rfl, (by show 2 ≤ sizeLine; decide), fun t2 nt2 => ⟨(by show 2 ≤ sizeLine; decide), fun t3 nt3 => ?_⟩⟩
    have s2 := same_new (u := .tup [V.int (fl a), V.int (fl b)]) nt2
    have s3 := same_new (u := .tup [V.ref t1, V.ref t2]) nt3
    have ht1 := s3 _ _ (s2 _ _ (upd_same (H := H) (a := t1) (o := .tup [V.int a, V.int b])))
    have ht2 := s3 _ _ (upd_same (H := upd H t1 (.tup [V.int a, V.int b])) (a := t2) (o := .tup [V.int (fl a), V.int (fl b)]))
    have s13 := s1.trans (s2.trans s3)
    have psl : ps.length ≤ 900 := by
      rw [ha.len]
      exact hz
    refine cat_use (K := K) (seqT_same s13 hg) (SqT.of upd_same) (Nat.le_trans (by show ps.length + 2 ≤ 1000; omega) (by decide)) fun t4 H4 s4 h4 => ?_
    have s14 := s13.trans s4
    have a4 : All2 (Pt K H4) (ps ++ [V.ref t1, V.ref t2]) (gs ++ [(a, b), (fl a, fl b)]) :=
      (ha.imp fun _ _ h => h.firm (Firm.of s14)).append (.cons ⟨t1, rfl, SqT.of (s4 _ _ ht1)⟩ (.cons ⟨t2, rfl, SqT.of (s4 _ _ ht2)⟩ .nil))
    refine ⟨_, rfl, _, rfl, _, _, rfl, rfl, _, rfl, _, _, rfl, rfl, (by show 2 ≤ sizeLine; decide), fun t5 nt5 => ⟨(by show 1 ≤ sizeLine; decide), fun t6 nt6 => ?_⟩⟩
    have s5 := same_new (u := .tup [V.int (2 * (1 + n + (ps.length : Nat)) + 1), V.int (2 * (1 + n + (ps.length : Nat)) + 3)]) nt5
    have s6 := same_new (u := .tup [V.ref t5]) nt6
    have ht5 := s6 _ _ (upd_same (H := H4) (a := t5) (o := .tup [V.int (2 * (1 + n + (ps.length : Nat)) + 1), V.int (2 * (1 + n + (ps.length : Nat)) + 3)]))
    refine cat_use (K := K) (seqT_same (s5.trans s6) h4) (SqT.of upd_same) (by rw [List.length_append]; exact Nat.le_trans (by show ps.length + 2 + 1 ≤ 1000; omega) (by decide)) fun t7 H7 s7 h7 => ?_
    have s47 := s5.trans (s6.trans s7)
    have a7 : All2 (Pt K H7) ((ps ++ [V.ref t1, V.ref t2]) ++ [V.ref t5]) (xorG n gs a b) := by
      have a5 := (a4.imp fun _ _ h => h.firm (Firm.of s47)).snoc (x := (2 * (1 + n + (ps.length : Nat)) + 1, 2 * (1 + n + (ps.length : Nat)) + 3)) ⟨t5, rfl, SqT.of (s7 _ _ ht5)⟩
      rw [ha.len] at a5
      exact a5
    refine ⟨_, rfl, _, _, rfl, rfl, (by show 2 ≤ sizeLine; decide), fun t8 nt8 => ?_⟩
    have s8 := same_new (u := .tup [V.ref t7, V.int (2 * (1 + n + (ps.length : Nat)) + 4)]) nt8
    refine q _ t8 t7 (s14.trans (s47.trans s8)) ⟨_, seqT_same s8 h7, a7.imp fun _ _ h => h.firm (Firm.of s8)⟩ ?_
    rw [upd_same, ha.len]
def ownD (n i : Int) (g t1 t2 : Addr) (wi : Int) : List (Key × V) := [(.inr "leaves", .int n), (.inr "gates", .ref g), (.inr "inputs", .int i), (.inr "resets", .ref t1), (.inr "nexts", .ref t2), (.inr "wish", .int wi)]
/-- a machine of the law's own -/
structure OwnAt (K : PySem.W.Frag) (H : Hp) (o : Addr) (n i : Int) (gs : List (Int × Int)) (rs nx : List Int) (wi : Int) : Prop where
  at_ : ∃ g t1 t2, H o = some (.dK (ownD n i g t1 t2 wi)) ∧ GT K H g gs ∧ SqT K H t1 (rs.map V.int) ∧ SqT K H t2 (nx.map V.int)
structure OwnOk (n i : Int) (gs : List (Int × Int)) (rs nx : List Int) (wi : Int) : Prop where
  i0 : 0 ≤ i
  i1 : i ≤ n
  n7 : n ≤ 7
  gok : okG (2 * n + 1) gs = true
  glen : gs.length ≤ 40
  rl : (rs.length : Int) = n - i
  r01 : ∀ z ∈ rs, 0 ≤ z ∧ z ≤ 1
  nl : (nx.length : Int) = n - i
  nb : ∀ z ∈ nx, 0 ≤ z ∧ z ≤ 2 * (n + gs.length) + 1
  w0 : 0 ≤ wi
  w1 : wi ≤ 2 * (n + gs.length) + 1
def spMach (K : PySem.W.Frag) : Sp := fun vs H Q _ => ∃ (p c : Addr) (k : Nat) (i r m : Int), vs = [.ref p, .int i, .int r, .int m] ∧ PenC H p c k ∧ k ≤ 100000 ∧ 0 ≤ i ∧ i ≤ 3 ∧ 0 ≤ r ∧ r ≤ 4 ∧ 0 ≤ m ∧ m ≤ 8 ∧
  ∀ (H' : Hp) (o : Addr) (gs : List (Int × Int)) (rs nx : List Int) (wi : Int), PenC H' p c (k + 60) → But p H H' → OwnAt K H' o (i + r) i gs rs nx wi → OwnOk (i + r) i gs rs nx wi → o ≠ p → o ≠ c → Q (.ref o) H'
abbrev dmN : List Str := ["_law_pen_here", "_law_inputs", "_law_registers", "_law_many", "_law_leaves", "_law_gates", "_law_nexts", "_law_k", "_law_nodes", "_law_one", "_law_two", "_law_resets", "_law_bad", "_law_wish"]
theorem scMach : FnScope dmN ["_law_pen_here", "_law_inputs", "_law_registers", "_law_many"] (defScope sMach) := ⟨rfl, rfl, rfl, by decide +kernel, rfl, by decide +kernel, by decide +kernel⟩
theorem ok_mach {fF fD fW fX : Addr} {dF dD dW dX : FuncData} (F : FnP K "_law_drawn_machine" sMach f fd) (T : Lc.Tx mg) (FF : FnP K "_law_flip" sFlip fF dF) (gF : mg "_law_flip" = some (.ref fF)) (FD : FnP K "_law_draw" sDraw fD dD) (gD : mg "_law_draw" = some (.ref fD))
    (FW : FnP K "_law_drawn_gates" sDrawn fW dW) (gW : mg "_law_drawn_gates" = some (.ref fW)) (FX : FnP K "_law_xor_gates" sXor fX dX) (gX : mg "_law_xor_gates" = some (.ref fX)) :
    FnOk P w K mg base CX0 3 f fd ["_law_pen_here", "_law_inputs", "_law_registers", "_law_many"] (spMach K) := by
  have GF : FnOk P w K mg base CX0 1 fF dF ["_law_literal"] spFlip := ok_flip FF T
  have bF : Binds K dF ["_law_literal"] [] := FF.bindsN fun _ _ _ _ _ _ us hl => match us, hl with | [_], _ => rfl
  have GD : FnOk P w K mg base CX0 1 fD dD ["_law_pen_here", "_law_many"] spDraw := ok_draw FD T.lf.pen
  have bD : Binds K dD ["_law_pen_here", "_law_many"] [] := FD.bindsN fun _ _ _ _ _ _ us hl => match us, hl with | [_, _], _ => rfl
  have GW : FnOk P w K mg base CX0 2 fW dW ["_law_pen_here", "_law_leaves", "_law_many"] (spDrawn K) := ok_drawn FW T.lf FD gD
  have bW : Binds K dW ["_law_pen_here", "_law_leaves", "_law_many"] [] := FW.bindsN fun _ _ _ _ _ _ us hl => match us, hl with | [_, _, _], _ => rfl
  have GX : FnOk P w K mg base CX0 2 fX dX ["_law_gates", "_law_leaves", "_law_one", "_law_two"] (spXor K) := ok_xor FX T FF gF
  have bX : Binds K dX ["_law_gates", "_law_leaves", "_law_one", "_law_two"] [] := FX.bindsN fun _ _ _ _ _ _ us hl => match us, hl with | [_, _, _, _], _ => rfl
  refine F.ok scMach (fun vs H Q E h => ?_) (fun cdv A outer s H vs Q E hr h => ?_)
  · obtain ⟨p, c, k, i, r, m, rfl, _⟩ := h
    rfl
  · obtain ⟨p, c, k, i, r, m, rfl, hP, hk, i0, i1, r0, r1, m0, m1, q⟩ := h
    have hr1 := hr.mono (j := 1) (by decide)
    refine ⟨_, PSs.nox (pss_cons (ps_set (i := 4) scMach.nd rfl (Or.inl rfl) (pe_op op_add (pv 1) (pv 2))) (pss_cons (ps_set (i := 5) scMach.nd rfl (Or.inl rfl) (pe_call GW hr (by rfl) gW FW.kp bW .nil pass0 (pa_cons (pv 0) (pa_cons (pv 4) (pa_cons (pv 3) pa_nil))))) (pss_cons (ps_set (i := 6) scMach.nd rfl (Or.inl rfl) (pe_lst pa_nil)) (pss_cons (ps_for PassesOwn.never rfl (pi_range1 (by rfl) T.lf.range (pa_cons (pv 2) pa_nil)) (pg_name (i := 7) scMach.nd rfl (Or.inl rfl)) (pss_cons (ps_set (i := 8) scMach.nd rfl (Or.inl rfl) (pe_op op_mul pe_int (pe_op op_add (pe_op op_add pe_int (pv 4)) (pe_callB call_len_seq (by rfl) T.lf.pen.len PySem.boot_len (pa_cons (pv 5) pa_nil))))) (pss_cons (ps_par (i := 9) (j := 10) rfl scMach.nd rfl rfl (by decide) rfl rfl (pa_cons (pe_op op_sub (pe_op op_sub (pv 8) pe_int) (pe_op op_fdiv (pe_call GD hr1 (by rfl) gD FD.kp bD .nil pass0 (pa_cons (pv 0) (pa_cons (pv 8) pa_nil))) pe_int)) (pa_cons (pe_op op_add (pe_op op_mul pe_int (pe_op op_add pe_int (pe_call GD hr1 (by rfl) gD FD.kp bD .nil pass0 (pa_cons (pv 0) (pa_cons (pv 4) pa_nil))))) (pe_call GD hr1 (by rfl) gD FD.kp bD .nil pass0 (pa_cons (pv 0) (pa_cons pe_int pa_nil)))) pa_nil)) (by rfl)) (C8.pss_cut (ps_if (pt_cmpR op_gt (pe_call GD hr1 (by rfl) gD FD.kp bD .nil pass0 (pa_cons (pv 0) (pa_cons pe_int pa_nil))) pe_int (nomark _)) (pss_one (ps_asg (pe_call GX hr (by rfl) gX FX.kp bX .nil pass0 (pa_cons (pv 5) (pa_cons (pv 4) (pa_cons (pv 9) (pa_cons (pv 10) pa_nil))))) (pg_tup rfl (pgs_cons (pg_name (i := 5) scMach.nd rfl (Or.inl rfl)) (pgs_cons (pg_name (i := 9) scMach.nd rfl (Or.inl rfl)) pgs_nil))))) pss_nil) (pss_one (ps_expr (pe_bm PySem.F.plainAttrs_list PySem.F.slot_list_append PySem.F.type_list_append mt_append (pv 6) (pa_cons (pv 9) pa_nil)))))))) (pss_cons (ps_set (i := 11) scMach.nd rfl (Or.inl rfl) (pe_callTy (T := "tuple") (r := rTupOf K) (by exact call_tuple_of) (by rfl) T.lf.tuple (by decide +kernel) (pa_cons (pe_lc (own := [("_law_k", 7)]) (g := gName 7) (tt := tYes) rfl scMach.nd (pi_range1 (by rfl) T.lf.range (pa_cons (pv 2) pa_nil)) (blkOk_by (N := dmN) (sc := defScope sMach) (by decide +kernel)) (fun _ _ _ _ _ => pg_name (i := 7) scMach.nd rfl (Or.inl rfl)) (fun _ _ _ _ _ => pts_nil) (fun _ _ _ _ _ => (pe_call GD hr1 (by rfl) gD FD.kp bD .nil pass0 (pa_cons (pv 0) (pa_cons pe_int pa_nil))))) pa_nil))) (pss_cons (ps_set (i := 12) scMach.nd rfl (Or.inl rfl) pe_int) (C8.pss_cut (ps_if (pt_cmpR op_gt (pe_call GD hr1 (by rfl) gD FD.kp bD .nil pass0 (pa_cons (pv 0) (pa_cons pe_int pa_nil))) pe_int (nomark _)) (pss_cons (ps_for PassesOwn.never rfl (pi_range1 (by rfl) T.lf.range (pa_cons (pv 2) pa_nil)) (pg_name (i := 7) scMach.nd rfl (Or.inl rfl)) (pss_cons (ps_set (i := 5) scMach.nd rfl (Or.inl rfl) (pe_op op_catA (pv 5) (pe_tup (pa_cons (pe_tup (pa_cons (pv 12) (pa_cons (pe_op op_add (pe_op op_mul pe_int (pe_op op_add (pe_op op_add pe_int (pv 1)) (pv 7))) (pe_call GD hr1 (by rfl) gD FD.kp bD .nil pass0 (pa_cons (pv 0) (pa_cons pe_int pa_nil)))) pa_nil))) pa_nil)))) (pss_one (ps_set (i := 12) scMach.nd rfl (Or.inl rfl) (pe_op op_mul pe_int (pe_op op_add (pv 4) (pe_callB call_len_seq (by rfl) T.lf.pen.len PySem.boot_len (pa_cons (pv 5) pa_nil)))))))) (pss_one (ps_set (i := 13) scMach.nd rfl (Or.inl rfl) (pe_call GF hr1 (by rfl) gF FF.kp bF .nil pass0 (pa_cons (pv 12) pa_nil))))) (pss_one (ps_set (i := 13) scMach.nd rfl (Or.inl rfl) (pe_op op_sub (pe_op op_add (pe_op op_mul pe_int (pe_op op_add (pv 4) (pe_callB call_len_seq (by rfl) T.lf.pen.len PySem.boot_len (pa_cons (pv 5) pa_nil)))) pe_int) (pe_call GD hr1 (by rfl) gD FD.kp bD .nil pass0 (pa_cons (pv 0) (pa_cons pe_int pa_nil))))))) (pss_cons (ps_set (i := 6) scMach.nd rfl (Or.inl rfl) (pe_callTy (T := "tuple") (r := rTupOf K) (by exact call_tuple_of) (by rfl) T.lf.tuple (by decide +kernel) (pa_cons (pv 6) pa_nil))) (pss_one (ps_ret (pe_disp (pps_cons pe_str (pv 4) (pps_cons pe_str (pv 5) (pps_cons pe_str (pv 1) (pps_cons pe_str (pv 11) (pps_cons pe_str (pv 6) (pps_cons pe_str (pv 13) pps_nil)))))) (by rfl) (by rfl) (fun z => by cases z) (by decide)))))))))))), ?_⟩
    refine ⟨_, rfl, _, rfl, _, _, rfl, rfl, ?_⟩
    refine ⟨_, rfl, _, rfl, _, rfl, p, c, k, i + r, m, rfl, hP, by omega, by omega, by omega, m0, by omega, fun H1 g0 gs0 P1 B1 G1 ok1 len1 => ?_⟩
    refine ⟨(by show 0 ≤ sizeLine; decide), fun D nD => ?_⟩
    obtain ⟨Dp_, Dc⟩ := P1.free nD
    have sD := same_new (u := .lst []) nD
    have nDH : ∀ {b : Addr} {o : HO}, H b = some o → b ≠ p → b ≠ D := fun e ne z => by
      rw [z] at e
      have z1 := B1 _ _ e (z ▸ ne)
      rw [nD] at z1
      cases z1
    refine ⟨_, rfl, r, rfl, by omega, by omega, for_range (lo := 0) (n := r.toNat)
      (fun j σ H2 => ∃ (x7 x8 x9 x10 : Option V) (g : Addr) (gs : List (Int × Int)) (nx : List Int), σ = [some (.ref p), some (.int i), some (.int r), some (.int m), some (.int (i + r)), some (.ref g), some (.ref D), x7, x8, x9, x10, none, none, none] ∧
        PenC H2 p c (k + 2 * m.toNat + 4 * j) ∧ But p H H2 ∧ GT K H2 g gs ∧ okG (2 * (i + r) + 1) gs = true ∧ gs.length ≤ 8 + 3 * j ∧ H2 D = some (.lst (nx.map V.int)) ∧ nx.length = j ∧ ∀ z ∈ nx, 0 ≤ z ∧ z ≤ 2 * (i + r + gs.length) + 1)
      ⟨none, none, none, none, g0, gs0, [], rfl, P1.same sD, fun b o e ne => sD _ _ (B1 _ _ e ne), G1.firm (Firm.of sD), ok1, by omega, upd_same, rfl, fun z hz => by cases hz⟩ ?_ ?_⟩
    · rintro j σ H2 hj ⟨x7, x8, x9, x10, g, gs, nx, rfl, P2, k2, G2, ok2, l2, h2, nl, nb⟩
      obtain ⟨ps, hg, ha⟩ := id G2
      refine ⟨_, rfl, _, _, rfl, rfl, _, rfl, g, ps, rfl, .inr hg, _, _, rfl, rfl, _, _, rfl, rfl, .inl ⟨by decide, by decide⟩, ?_⟩
      rw [ha.len]
      refine ⟨_, rfl, _, _, rfl, rfl, _, rfl, _, rfl, p, c, _, _, rfl, P2, by omega, by omega, by omega, fun d1 H3 d10 d11 P3 B3 => ?_⟩
      refine ⟨_, _, rfl, rfl, ⟨by decide, by decide⟩, _, _, rfl, rfl, ?_⟩
      refine ⟨_, rfl, _, rfl, p, c, _, _, rfl, P3, by omega, by omega, by omega, fun d2 H4 d20 d21 P4 B4 => ?_⟩
      refine ⟨_, _, rfl, rfl, _, _, rfl, rfl, .inl ⟨by decide, by decide⟩, ?_⟩
      refine ⟨_, rfl, p, c, _, 2, rfl, P4, by omega, by decide, by decide, fun d3 H5 d30 d31 P5 B5 => ?_⟩
      refine ⟨_, _, rfl, rfl, _, _, rfl, ?_⟩
      have one0 : 0 ≤ 2 * (1 + (i + r) + (gs.length : Int)) - 1 - d1 / 2 := by omega
      have one1 : 2 * (1 + (i + r) + (gs.length : Int)) - 1 - d1 / 2 < 2 * (1 + (i + r) + gs.length) := by omega
      have two0 : 0 ≤ 2 * (1 + d2) + d3 := by omega
      have two1 : 2 * (1 + d2) + d3 < 2 * (1 + (i + r) + (gs.length : Int)) := by omega
      have f25 : Firm H2 H5 := (Firm.pen B3 P2).trans ((Firm.pen B4 P3).trans (Firm.pen B5 P4))
      have h5 := B5 _ _ (B4 _ _ (B3 _ _ h2 Dp_) Dp_) Dp_
      refine ⟨fun σ H7 => ∃ (v1 : Int) (g' : Addr) (gs' : List (Int × Int)), σ = [some (.ref p), some (.int i), some (.int r), some (.int m), some (.int (i + r)), some (.ref g'), some (.ref D), some (.int (0 + (j : Int))), some (.int (2 * (1 + (i + r) + (gs.length : Int)))), some (.int v1), some (.int (2 * (1 + d2) + d3)), none, none, none] ∧
        PenC H7 p c (k + 2 * m.toNat + 4 * (j + 1)) ∧ But p H H7 ∧ GT K H7 g' gs' ∧ okG (2 * (i + r) + 1) gs' = true ∧ gs'.length ≤ 8 + 3 * (j + 1) ∧ H7 D = some (.lst (nx.map V.int)) ∧ (∀ z ∈ nx, 0 ≤ z ∧ z ≤ 2 * (i + r + gs'.length) + 1) ∧ 0 ≤ v1 ∧ v1 ≤ 2 * (i + r + gs'.length) + 1, ?_, ?_⟩
      · refine ⟨_, rfl, p, c, _, 3, rfl, P5, by omega, by decide, by decide, fun d4 H6 d40 d41 P6 B6 => ?_⟩
        have f26 := f25.trans (Firm.pen B6 P5)
        have h6 := B6 _ _ h5 Dp_
        have k6 : But p H H6 := k2.trans (B3.trans (B4.trans (B5.trans B6)))
        have P6 := P6.more (m' := k + 2 * m.toNat + 4 * (j + 1)) (by omega)
        refine ⟨_, _, rfl, rfl, _, rfl, ite2 (fun _ => ?_) (fun _ => ?_)⟩
        · refine ⟨_, rfl, _, rfl, _, rfl, _, rfl, g, i + r, 2 * (1 + (i + r) + (gs.length : Int)) - 1 - d1 / 2, 2 * (1 + d2) + d3, gs, rfl, G2.firm f26, by omega, fun H7 t g' s7 G7 ht => ?_⟩
          refine ⟨t, _, rfl, SqT.of ht, rfl, _, _, rfl, _, _, rfl, rfl, ?_⟩
          have xl : (xorG (i + r) gs (2 * (1 + (i + r) + (gs.length : Int)) - 1 - d1 / 2) (2 * (1 + d2) + d3)).length = gs.length + 3 := by
            unfold xorG
            simp
          refine ⟨_, g', _, rfl, P6.same s7, fun b o e ne => s7 _ _ (k6 _ _ e ne), G7, okG_xor ok2 one0 one1 two0 two1 (by omega), by omega, s7 _ _ h6, fun z hz => ?_, by omega, by omega⟩
          obtain ⟨a, b⟩ := nb z hz
          exact ⟨a, by omega⟩
        · exact ⟨2 * (1 + (i + r) + (gs.length : Int)) - 1 - d1 / 2, g, gs, rfl, P6, k6, G2.firm f26, ok2, by omega, h6, nb, one0, by omega⟩
      · rintro σ H7 ⟨v1, g', gs', rfl, P7, k7, G7, ok7, l7, h7, nb7, v10, v11⟩
        have f8 : Firm H7 (upd H7 D (.lst (nx.map V.int ++ [.int v1]))) := Firm.upd h7 rfl
        refine ⟨_, rfl, .inl ⟨rfl, _, SqL.of h7⟩, _, rfl, D, _, _, rfl, rfl, h7, ?_, ?_⟩
        · rw [List.length_map, nl]
          exact Nat.lt_of_lt_of_le (by omega : j < 10) (by decide)
        · refine ⟨_, _, _, _, g', gs', nx ++ [v1], rfl, P7.upd Dp_ Dc, fun b o e ne => ?_, G7.firm f8, ok7, l7, ?_, ?_, fun z hz => ?_⟩
          · rw [upd_ne (nDH e ne)]
            exact k7 _ _ e ne
          · rw [upd_same, List.map_append]
            rfl
          · rw [List.length_append, nl]
            rfl
          · rcases List.mem_append.mp hz with hz | hz
            · exact nb7 z hz
            · rw [List.mem_singleton.mp hz]
              exact ⟨v10, v11⟩
    · rintro σ H2 ⟨x7, x8, x9, x10, g, gs, nx, rfl, P2, k2, G2, ok2, l2, h2, nl, nb⟩
      -- the resets
      refine ⟨_, rfl, r, rfl, by omega, by omega, fun D2 nD2 => ?_⟩
      obtain ⟨D2p, D2c⟩ := P2.free nD2
      have sD2 := same_new (u := .lst []) nD2
      refine lc_range (lo := 0) (n := r.toNat) (fun j H3 => PenC H3 p c (k + 2 * m.toNat + 4 * r.toNat + j) ∧ But p H2 H3 ∧ ∃ rs : List Int, H3 D2 = some (.lst (rs.map V.int)) ∧ rs.length = j ∧ ∀ l ∈ rs, 0 ≤ l ∧ l ≤ 1)
        ⟨P2.same sD2, But.of_same sD2, [], upd_same, rfl, fun l z => by cases z⟩ ?_ ?_
      · rintro j H3 hj ⟨P3, k3, rs, h3, rl, rb⟩
        refine ⟨rfl, yes_of ?_⟩
        refine ⟨_, rfl, p, c, _, 2, rfl, P3, by omega, by decide, by decide, fun d H4 d0 d1 P4 B4 => ?_⟩
        refine ⟨_, B4 _ _ h3 D2p, ?_, P4.upd D2p D2c, fun b o e ne => ?_, rs ++ [d], ?_, ?_, fun l ml => ?_⟩
        · rw [List.length_map, rl]
          exact Nat.lt_of_lt_of_le (by omega : j < 10) (by decide)
        · rw [upd_ne (ne_of_none e nD2)]
          exact B4 _ _ (k3 b o e ne) ne
        · rw [upd_same, List.map_append]
          rfl
        · rw [List.length_append, rl]
          rfl
        · rcases List.mem_append.mp ml with q | q
          · exact rb l q
          · rw [List.mem_singleton.mp q]
            omega
      rintro H3 ⟨P3, k3, rs, h3, rl, rb⟩
      refine ⟨D2, _, rfl, .inl ⟨SqL.of h3, fun t nt => ?_⟩⟩
      have st := same_new (u := .tup (rs.map V.int)) nt
      have f24 : Firm H2 (upd H3 t (.tup (rs.map V.int))) := (Firm.pen k3 P2).trans (Firm.of st)
      have P4 := P3.same st
      have k4 : But p H (upd H3 t (.tup (rs.map V.int))) := k2.trans (k3.trans (But.of_same st))
      have G4 := G2.firm f24
      have h4 := st _ _ (k3 _ _ h2 Dp_)
      have ht4 := SqT.of (K := K) (upd_same (H := H3) (a := t) (o := .tup (rs.map V.int)))
      generalize upd H3 t (.tup (rs.map V.int)) = H4 at P4 k4 G4 h4 ht4 ⊢
      clear f24 st nt h3 k3 P3 sD2 D2p D2c nD2 h2 G2 k2 P2
      -- the wish
      refine ⟨fun σ H5 => ∃ (y7 : Option V) (x12 : V) (g' : Addr) (gs' : List (Int × Int)) (wi : Int), σ = [some (.ref p), some (.int i), some (.int r), some (.int m), some (.int (i + r)), some (.ref g'), some (.ref D), y7, x8, x9, x10, some (.ref t), some x12, some (.int wi)] ∧
        PenC H5 p c (k + 60) ∧ But p H H5 ∧ GT K H5 g' gs' ∧ okG (2 * (i + r) + 1) gs' = true ∧ gs'.length ≤ 40 ∧ gs.length ≤ gs'.length ∧ H5 D = some (.lst (nx.map V.int)) ∧ SqT K H5 t (rs.map V.int) ∧ 0 ≤ wi ∧ wi ≤ 2 * (i + r + gs'.length) + 1, ?_, ?_⟩
      · refine ⟨_, rfl, p, c, _, 4, rfl, P4, by omega, by decide, by decide, fun d H5 d0 d1 P5 B5 => ?_⟩
        have f5 := Firm.pen B5 P4
        have k5 := k4.trans B5
        have G5 := G4.firm f5
        have h5 := B5 _ _ h4 Dp_
        have ht5 := firm_seq f5 ht4
        refine ⟨_, _, rfl, rfl, _, rfl, ite2 (fun _ => ?_) (fun _ => ?_)⟩
        · refine ⟨_, rfl, r, rfl, by omega, by omega, for_range (lo := 0) (n := r.toNat)
            (fun j σ H6 => ∃ (y7 : Option V) (g' : Addr) (gs' : List (Int × Int)) (bad : Int), σ = [some (.ref p), some (.int i), some (.int r), some (.int m), some (.int (i + r)), some (.ref g'), some (.ref D), y7, x8, x9, x10, some (.ref t), some (.int bad), none] ∧
              PenC H6 p c (k + 2 * m.toNat + 5 * r.toNat + 1 + j) ∧ But p H H6 ∧ GT K H6 g' gs' ∧ okG (2 * (i + r) + 1) gs' = true ∧ gs'.length = gs.length + j ∧ H6 D = some (.lst (nx.map V.int)) ∧ SqT K H6 t (rs.map V.int) ∧ 0 ≤ bad ∧ bad ≤ 2 * (i + r + gs'.length) + 1)
            ⟨_, g, gs, 1, rfl, P5.more (by omega), k5, G5, ok2, rfl, h5, ht5, by decide, by omega⟩ ?_ ?_⟩
          · rintro j σ H6 hj ⟨y7, g', gs', bad, rfl, P6, k6, G6, ok6, l6, h6, ht6, b0, b1⟩
            obtain ⟨ps, hg, ha⟩ := id G6
            refine ⟨_, rfl, _, rfl, _, rfl, _, _, rfl, rfl, _, rfl, _, _, rfl, rfl, _, _, rfl, rfl, .inl ⟨by decide, by decide⟩, ?_⟩
            refine ⟨_, rfl, p, c, _, 2, rfl, P6, by omega, by decide, by decide, fun d H7 d0 d1 P7 B7 => ?_⟩
            refine ⟨_, _, rfl, rfl, (by show 2 ≤ sizeLine; decide), fun t1 nt1 => ⟨(by show 1 ≤ sizeLine; decide), fun t2 nt2 => ?_⟩⟩
            have s1 := same_new (u := .tup [V.int bad, V.int (2 * (1 + i + (0 + (j : Int))) + d)]) nt1
            have s2 := same_new (u := .tup [V.ref t1]) nt2
            have f7 := Firm.pen B7 P6
            have ht1 := s2 _ _ (upd_same (H := H7) (a := t1) (o := .tup [V.int bad, V.int (2 * (1 + i + (0 + (j : Int))) + d)]))
            have pl : ps.length ≤ 40 := by
              rw [ha.len]
              omega
            refine cat_use (K := K) (seqT_same (s1.trans s2) (firm_seq f7 hg)) (SqT.of upd_same) (Nat.le_trans (by show ps.length + 1 ≤ 1000; omega) (by decide)) fun t3 H8 s3 h8 => ?_
            have s18 := s1.trans (s2.trans s3)
            have a8 : All2 (Pt K H8) (ps ++ [V.ref t1]) (gs' ++ [(bad, 2 * (1 + i + (0 + (j : Int))) + d)]) :=
              (ha.imp fun _ _ h => (h.firm f7).firm (Firm.of s18)).snoc ⟨t1, rfl, SqT.of (s3 _ _ ht1)⟩
            have al : (gs' ++ [(bad, 2 * (1 + i + (0 + (j : Int))) + d)]).length = gs'.length + 1 := by
              rw [List.length_append]
              rfl
            refine ⟨_, rfl, _, rfl, t3, _, rfl, .inr h8, _, _, rfl, rfl, _, _, rfl, rfl, .inl ⟨by decide, by decide⟩, ?_⟩
            refine ⟨_, t3, _, _, rfl, (P7.same s18).more (by omega), fun b o e ne => s18 _ _ (B7 _ _ (k6 _ _ e ne) ne), ⟨_, h8, a8⟩, okG_snoc ok6 b0 (by show bad ≤ _; omega) (by show 0 ≤ 2 * (1 + i + (0 + (j : Int))) + d; omega) (by show 2 * (1 + i + (0 + (j : Int))) + d ≤ _; omega), by omega, s18 _ _ (B7 _ _ h6 Dp_), seqT_same s18 (firm_seq f7 ht6), by omega, ?_⟩
            rw [a8.len]
            omega
          · rintro σ H6 ⟨y7, g', gs', bad, rfl, P6, k6, G6, ok6, l6, h6, ht6, b0, b1⟩
            refine ⟨_, rfl, bad, rfl, ?_⟩
            refine ⟨_, _, g', gs', fl bad, rfl, P6.more (by omega), k6, G6, ok6, by omega, by omega, h6, ht6, ?_, ?_⟩
            · unfold fl
              omega
            · unfold fl
              omega
        · obtain ⟨ps, hg, ha⟩ := id G5
          refine ⟨_, rfl, _, rfl, g, ps, rfl, .inr hg, _, _, rfl, rfl, _, _, rfl, rfl, .inl ⟨by decide, by decide⟩, _, _, rfl, rfl, ?_⟩
          rw [ha.len]
          refine ⟨_, rfl, p, c, _, 2, rfl, P5, by omega, by decide, by decide, fun d2 H6 d20 d21 P6 B6 => ?_⟩
          have f6 := Firm.pen B6 P5
          refine ⟨_, _, rfl, rfl, ?_⟩
          exact ⟨_, _, g, gs, _, rfl, P6.more (by omega), k5.trans B6, G5.firm f6, ok2, by omega, Nat.le_refl _, B6 _ _ h5 Dp_, firm_seq f6 ht5, by omega, by omega⟩
      · rintro σ H5 ⟨y7, x12, g', gs', wi, rfl, P5, k5, G5, ok5, l5, l5', h5, ht5, w0, w1⟩
        refine ⟨_, rfl, D, _, rfl, .inl ⟨SqL.of h5, fun t2 nt2 => ?_⟩⟩
        have s2 := same_new (u := .tup (nx.map V.int)) nt2
        intro o ho
        have so := same_new (u := .dK []) ho
        refine ⟨_, rfl, _, rfl, _, rfl, _, rfl, _, rfl, _, rfl, upd_same, ownD (i + r) i g' t t2 wi, rfl, (by show 6 ≤ 15; decide), ?_⟩
        rw [upd_upd]
        have so2 := same_new (u := .dK (ownD (i + r) i g' t t2 wi)) ho
        have s25 := s2.trans so2
        have n2 := (P5.same s2).free ho
        refine q _ o gs' rs nx wi (P5.same s25) (fun b o e ne => s25 _ _ (k5 _ _ e ne)) ⟨g', t, t2, upd_same, G5.firm (Firm.of s25), seqT_same s25 ht5, seqT_same so2 (SqT.of upd_same)⟩
          ⟨i0, by omega, by omega, ok5, l5, by omega, rb, by omega, fun z hz => ?_, w0, w1⟩ n2.1 n2.2
        obtain ⟨a, b⟩ := nb z hz
        exact ⟨a, by omega⟩
def spMade (K : PySem.W.Frag) (C M : Addr) : Sp := fun vs H Q _ => ∃ (o : Addr) (n i : Int) (gs : List (Int × Int)) (rs nx : List Int) (wi : Int), vs = [.ref o] ∧ OwnAt K H o n i gs rs nx wi ∧ OwnOk n i gs rs nx wi ∧ ∀ (H' : Hp) (y x : Addr), Same H H' → MJ K M H' y x i nx wi → GraphAt K C H' x n gs → Q (.ref y) H'
def spTick (K : PySem.W.Frag) : Sp := fun vs H Q _ => ∃ (o b1 b2 : Addr) (n i : Int) (gs : List (Int × Int)) (rs nx : List Int) (wi : Int) (st ins : List Int), vs = [.ref o, .ref b1, .ref b2] ∧ OwnAt K H o n i gs rs nx wi ∧ OwnOk n i gs rs nx wi ∧ SqT K H b1 (st.map V.int) ∧ SqT K H b2 (ins.map V.int) ∧
  B01 (ins ++ st) ∧ ((ins ++ st).length : Int) = n ∧ ∀ (H' : Hp) (t t1 : Addr), Same H H' → H' t = some (.tup [.ref t1, .int (lit (vals (ins ++ st) gs) wi)]) → H' t1 = some (.tup ((nx.map fun l => lit (vals (ins ++ st) gs) l).map V.int)) → Q (.ref t) H'
/-- clauses of a machine's own registers -/
structure StC (r : Int) (cl : List Int) : Prop where
  len : (cl.length : Int) ≤ r
  ok : ∀ z ∈ cl, z ≠ 0 ∧ (z.natAbs : Int) ≤ r
def spClause (K : PySem.W.Frag) : Sp := fun vs H Q _ => ∃ (p c : Addr) (k : Nat) (r : Int), vs = [.ref p, .int r] ∧ PenC H p c k ∧ k ≤ 1000000 ∧ 0 ≤ r ∧ r ≤ 4 ∧
  ∀ (H' : Hp) (t : Addr) (cl : List Int), PenC H' p c (k + 4) → But p H H' → H' t = some (.tup (cl.map V.int)) → StC r cl → Q (.ref t) H'
section
variable {o g t1 t2 : Addr} {n i wi : Int} {H : Hp}
theorem og_leaves (h : H o = some (.dK (ownD n i g t1 t2 wi))) : DGet H o (.str "leaves") (some (.int n)) := DGet.k (k := .inr "leaves") h
theorem og_gates (h : H o = some (.dK (ownD n i g t1 t2 wi))) : DGet H o (.str "gates") (some (.ref g)) := DGet.k (k := .inr "gates") h
theorem og_inputs (h : H o = some (.dK (ownD n i g t1 t2 wi))) : DGet H o (.str "inputs") (some (.int i)) := DGet.k (k := .inr "inputs") h
theorem og_resets (h : H o = some (.dK (ownD n i g t1 t2 wi))) : DGet H o (.str "resets") (some (.ref t1)) := DGet.k (k := .inr "resets") h
theorem og_nexts (h : H o = some (.dK (ownD n i g t1 t2 wi))) : DGet H o (.str "nexts") (some (.ref t2)) := DGet.k (k := .inr "nexts") h
theorem og_wish (h : H o = some (.dK (ownD n i g t1 t2 wi))) : DGet H o (.str "wish") (some (.int wi)) := DGet.k (k := .inr "wish") h
theorem op_nexts {t3 : Addr} (h : H o = some (.dK (ownD n i g t1 t2 wi))) : DPut H o (.str "nexts") (.ref t3) (upd H o (.dK (ownD n i g t1 t3 wi))) := DPut.k (k := .inr "nexts") h (by decide : 6 < sizeLine)
end
abbrev tiN : List Str := ["_law_machine", "_law_state", "_law_bits", "_law_found", "_law_literal"]
abbrev scN : List Str := ["_law_pen_here", "_law_registers", "_law_found", "_law_k", "_law_way"]
theorem scMade : FnScope ["_law_machine", "_law_graph"] ["_law_machine"] (defScope sMade) := ⟨rfl, rfl, rfl, by decide +kernel, rfl, by decide +kernel, by decide +kernel⟩
theorem scTick : FnScope tiN ["_law_machine", "_law_state", "_law_bits"] (defScope sTick) := ⟨rfl, rfl, rfl, by decide +kernel, rfl, by decide +kernel, by decide +kernel⟩
theorem ok_made {fI fN : Addr} {dI dN : FuncData} (F : FnP K "_law_made_machine" sMade f fd) (T : Mc.Tx K mg C M) (MG : Mk K C fI) (GI : FnOk P w K mg base CX0 4 fI dI ["self", "leaves", "gates"] (spInit K C)) (bI : Binds K dI ["self", "leaves", "gates"] [])
    (MM : Mk K M fN) (GN : FnOk P w K mg base CX0 3 fN dN ["self", "graph", "inputs", "resets", "nexts", "wish"] (spMInit K C M)) (bN : Binds K dN ["self", "graph", "inputs", "resets", "nexts", "wish"] []) :
    FnOk P w K mg base CX0 6 f fd ["_law_machine"] (spMade K C M) := by
  refine F.ok scMade (fun vs H Q E h => ?_) (fun cdv A outer s H vs Q E hr h => ?_)
  · obtain ⟨o, n, i, gs, rs, nx, wi, rfl, _⟩ := h
    rfl
  · obtain ⟨o, n, i, gs, rs, nx, wi, rfl, hO, ok, q⟩ := h
    have hu := hu_of hr
    refine ⟨_, PSs.nox (pss_cons (ps_set (i := 1) scMade.nd rfl (Or.inl rfl) (pe_make MG GI (hr.mono (by decide)) (by rfl) T.gr.mgC bI .nil pass0 (pa_cons (pe_dget hu (pv 0) pe_str (fun _ _ => rfl)) (pa_cons (pe_dget hu (pv 0) pe_str (fun _ _ => rfl)) pa_nil))))
      (pss_one (ps_ret (pe_make MM GN (hr.mono (by decide)) (by rfl) T.mgM bN .nil pass0 (pa_cons (pv 1) (pa_cons (pe_dget hu (pv 0) pe_str (fun _ _ => rfl)) (pa_cons (pe_dget hu (pv 0) pe_str (fun _ _ => rfl)) (pa_cons (pe_dget hu (pv 0) pe_str (fun _ _ => rfl)) (pa_cons (pe_dget hu (pv 0) pe_str (fun _ _ => rfl)) pa_nil))))))))), ?_⟩
    obtain ⟨g, t1, t2, ho, G, h1, h2⟩ := hO
    refine ⟨_, rfl, o, _, rfl, og_leaves ho, _, rfl, o, _, rfl, og_gates ho, fun x dx nx_ nd _ => ?_⟩
    have gl := ok.glen
    have n0 : 0 ≤ n := Int.le_trans ok.i0 ok.i1
    have s1 : Same H (upd (upd H dx (.own x)) x (.ins C dx [])) := fun b o e => by
      rw [upd_ne (ne_of_none e nx_), upd_ne (ne_of_none e nd)]
      exact e
    refine ⟨x, dx, n, .ref g, gs, rfl, upd_same, n0, (G.row).same s1, by omega, ok.gok, fun H2 k2 g2 => ⟨rfl, ?_⟩⟩
    have s2 : Same H H2 := Same.made nx_ nd k2
    have ho2 := s2 _ _ ho
    refine ⟨_, rfl, _, rfl, o, _, rfl, og_inputs ho2, _, rfl, o, _, rfl, og_resets ho2, _, rfl, o, _, rfl, og_nexts ho2, _, rfl, o, _, rfl, og_wish ho2, fun y dy ny nd2 _ => ?_⟩
    have s3 : Same H2 (upd (upd H2 dy (.own y)) y (.ins M dy [])) := fun b o e => by
      rw [upd_ne (ne_of_none e ny), upd_ne (ne_of_none e nd2)]
      exact e
    have rl := ok.rl
    have i1 := ok.i1
    have n7 := ok.n7
    have i0 := ok.i0
    exact ⟨y, dy, x, t1, t2, n, i, wi, gs, rs, nx, rfl, upd_same, g2.firm (Firm.of s3), ok.i0, ok.i1, seqT_same (s2.trans s3) h1, ok.rl, by omega, ok.r01, seqT_same (s2.trans s3) h2, ok.nl, ok.nb, ok.w0, ok.w1, fun H4 k4 m4 => ⟨rfl, q H4 y x (s2.trans (Same.made ny nd2 k4)) m4 (g2.firm (Firm.of (Same.made ny nd2 k4)))⟩⟩
theorem ok_tick {fV fB : Addr} {dV dB : FuncData} (F : FnP K "_law_tick" sTick f fd) (T : Lc.Tx mg) (FV : FnP K "_law_values" sValues fV dV) (gV : mg "_law_values" = some (.ref fV)) (FB : FnP K "_law_bit" sBit fB dB) (gB : mg "_law_bit" = some (.ref fB)) :
    FnOk P w K mg base CX0 3 f fd ["_law_machine", "_law_state", "_law_bits"] (spTick K) := by
  have GV : FnOk P w K mg base CX0 2 fV dV ["_law_leaves", "_law_gates", "_law_bits"] (spValues K) := ok_values FV T.lf FB gB
  have bV : Binds K dV ["_law_leaves", "_law_gates", "_law_bits"] [] := FV.bindsN fun _ _ _ _ _ _ us hl => match us, hl with | [_, _, _], _ => rfl
  have GB : FnOk P w K mg base CX0 1 fB dB ["_law_found", "_law_literal"] (spBit K) := ok_bit FB T.lf
  have bB : Binds K dB ["_law_found", "_law_literal"] [] := FB.bindsN fun _ _ _ _ _ _ us hl => match us, hl with | [_, _], _ => rfl
  refine F.ok scTick (fun vs H Q E h => ?_) (fun cdv A outer s H vs Q E hr h => ?_)
  · obtain ⟨o, b1, b2, n, i, gs, rs, nx, wi, st, ins, rfl, _⟩ := h
    rfl
  · obtain ⟨o, b1, b2, n, i, gs, rs, nx, wi, st, ins, rfl, hO, ok, hb1, hb2, h01, hn, q⟩ := h
    have hu := hu_of hr
    have hr1 := hr.mono (j := 1) (by decide)
    refine ⟨_, PSs.nox (pss_cons (ps_set (i := 3) scTick.nd rfl (Or.inr rfl) (pe_call GV hr (by rfl) gV FV.kp bV .nil pass0 (pa_cons (pe_dget hu (pv 0) pe_str (fun _ _ => rfl)) (pa_cons (pe_dget hu (pv 0) pe_str (fun _ _ => rfl))
        (pa_cons (pe_op op_catA (pe_callTy call_tuple_of (by rfl) T.lf.tuple (by decide +kernel) (pa_cons (pv 2) pa_nil)) (pe_callTy call_tuple_of (by rfl) T.lf.tuple (by decide +kernel) (pa_cons (pv 1) pa_nil))) pa_nil)))))
      (pss_one (ps_ret (pe_tup (pa_cons (pe_callTy call_tuple_of (by rfl) T.lf.tuple (by decide +kernel) (pa_cons
        (pe_lc (own := [("_law_literal", 4)]) (g := gName 4) (tt := tYes) rfl scTick.nd (pi_tup (pe_dget hu (pv 0) pe_str (fun _ _ => rfl))) (blkOk_by (N := tiN) (sc := defScope sTick) (by decide +kernel)) (fun _ _ _ _ _ => pg_name (i := 4) scTick.nd rfl (Or.inl rfl)) (fun _ _ _ _ _ => pts_nil)
          (fun _ _ _ _ _ => pe_call GB hr1 (by rfl) gB FB.kp bB .nil pass0 (pa_cons (pv 3) (pa_cons (pv 4) pa_nil)))) pa_nil))
        (pa_cons (pe_call GB hr1 (by rfl) gB FB.kp bB .nil pass0 (pa_cons (pv 3) (pa_cons (pe_dget hu (pv 0) pe_str (fun _ _ => rfl)) pa_nil))) pa_nil)))))), ?_⟩
    obtain ⟨g, t1, t2, ho, G, h1, h2⟩ := hO
    have gl := ok.glen
    have n7 := ok.n7
    have wl : (ins ++ st).length ≤ 7 := by omega
    have vl := vals_len (ins ++ st) gs
    refine ⟨_, rfl, o, _, rfl, og_leaves ho, _, rfl, o, _, rfl, og_gates ho, _, rfl, b2, _, rfl, .inr ⟨hb2, _, rfl, b1, _, rfl, .inr ⟨hb1, ?_⟩⟩⟩
    refine cat_use (K := K) hb2 hb1 (by rw [List.length_map, List.length_map, ← List.length_append]; exact Nat.le_trans wl (by decide)) fun t H1 s1 hw => ?_
    rw [← List.map_append] at hw
    refine ⟨.int n, g, t, gs, ins ++ st, rfl, G.firm (Firm.of s1), hw, h01, by rw [hn]; exact ok.gok, by omega, by omega, fun H2 l s2 nl hl => ?_⟩
    have s12 := s1.trans s2
    have ho2 := s12 _ _ ho
    have hx2 := seqT_same s12 h2
    have nb := ok.nb
    have n0 : 0 ≤ n := Int.le_trans ok.i0 ok.i1
    refine ⟨_, rfl, o, _, rfl, og_nexts ho2, t2, rfl, ⟨_, hx2⟩, fun D nD => ?_⟩
    refine lc_tup (K := K) (a := t2) (xs := nx.map V.int) (fun k H3 => Same H2 H3 ∧ H3 D = some (.lst (((nx.take k).map fun z => lit (vals (ins ++ st) gs) z).map V.int))) ⟨same_new nD, upd_same⟩ (fun k H3 _ ⟨s3, _⟩ => seqT_same s3 hx2) ?_ ?_
    · rintro k y H3 hk ⟨s3, h3⟩
      obtain ⟨z, rfl, hz1⟩ := int_at hk
      obtain ⟨z0, z1⟩ := nb z (List.mem_of_getElem? hz1)
      refine ⟨rfl, yes_of ?_⟩
      refine ⟨_, rfl, _, rfl, l, _, z, rfl, SqL.of (s3 _ _ hl), z0, by omega, ?_⟩
      refine ⟨_, h3, ?_, fun b o e => ?_, ?_⟩
      · rw [List.length_map, List.length_map]
        have nl := ok.nl
        have i0 := ok.i0
        exact Nat.lt_of_le_of_lt (List.length_take_le' _ _) (Nat.lt_of_lt_of_le (by omega : nx.length < 100) (by decide))
      · rw [upd_ne (ne_of_none e nD)]
        exact s3 _ _ e
      · rw [upd_same, take_more hz1, List.map_append, List.map_append]
        rfl
    · rintro H3 ⟨s3, h3⟩
      rw [List.length_map, List.take_length] at h3
      refine ⟨D, _, rfl, .inl ⟨SqL.of h3, fun t9 nt9 => ?_⟩⟩
      have s4 := same_new (u := .tup ((nx.map fun z => lit (vals (ins ++ st) gs) z).map V.int)) nt9
      have s34 := s3.trans s4
      have w0 := ok.w0
      have w1 := ok.w1
      refine ⟨_, rfl, _, rfl, o, _, rfl, og_wish (s34 _ _ ho2), l, _, wi, rfl, SqL.of (s34 _ _ hl), w0, by omega, ?_⟩
      refine ⟨(by show 2 ≤ sizeLine; decide), fun t8 nt8 => ?_⟩
      have s5 := same_new (u := .tup [V.ref t9, V.int (lit (vals (ins ++ st) gs) wi)]) nt8
      exact q _ t8 t9 (s12.trans (s34.trans s5)) upd_same (s5 _ _ upd_same)
end
end Dm
namespace Gc
open PySem PySem.Spec PyProof.Rows L2 Pen Dat Ki Fi Gr No Lf Cm
section
/-! ### clauses: small, and over the nodes there are -/
theorem bnd_le : ∀ {ls : List Int} {M : Nat}, (∀ l ∈ ls, l.toNat ≤ M) → bnd ls ≤ M + 1 := by
  intro ls M h
  unfold bnd
  refine Nat.succ_le_succ ?_
  induction ls with
  | nil => exact Nat.zero_le _
  | cons l r ih =>
    rw [List.foldr_cons]
    exact Nat.max_le.mpr ⟨h l List.mem_cons_self, ih fun z hz => h z (List.mem_cons_of_mem _ hz)⟩
theorem clL_len {ls : List Int} {M : Nat} (h : ∀ l ∈ ls, l.toNat ≤ M) : (clL ls).length ≤ M + 1 := by
  unfold clL
  rw [List.length_map]
  refine Nat.le_trans (List.length_filter_le _ _) ?_
  rw [List.length_map, List.length_range]
  exact bnd_le h
/-- a clause of these literals -/
def GoodC (M : Nat) (cl : List Int) : Prop := (∀ z ∈ cl, z ≠ 0 ∧ 2 * z.natAbs ≤ M) ∧ cl.length ≤ M + 1
theorem good_is {ls cl : List Int} {M : Nat} (h0 : ∀ l ∈ ls, 0 ≤ l ∧ l.toNat ≤ M) (hb : bad ls = false) (hc : IsCl ls cl) : GoodC M cl := by
  refine ⟨fun z hz => ?_, ?_⟩
  · obtain ⟨l, hl, h1, rfl⟩ := (hc.2 z).mp hz
    have := sgn_abs (h0 l hl).1
    have := (h0 l hl).2
    omega
  · rw [isCl_uniq hc (isCl_clL (fun l hl => (h0 l hl).1) hb)]
    exact clL_len fun l hl => (h0 l hl).2
theorem good_row {M : Nat} (hM : M ≤ 900) {cl : List Int} (h : GoodC M cl) : (∀ z ∈ cl, Rq.Small z) ∧ cl.length ≤ 1000 := by
  obtain ⟨a, b⟩ := h
  refine ⟨fun z hz => ?_, by omega⟩
  have := (a z hz).2
  unfold Rq.Small
  omega
end
end Gc
namespace Wm
open PySem PySem.Spec PyProof.Rows L2 Pen Dat Ki Fi Gr No Lf Cm Cn Mc
/-! ## What a clause says now, and behind -/
def sh (i : Int) (z : Int) : Int := if z > 0 then z + i else z - i
theorem sat_now {b : List Int} {gs : List (Int × Int)} {i : Nat} {cl : List Int} (hb : ∀ z ∈ cl, z ≠ 0 ∧ i + z.natAbs ≤ b.length) : satB (whole b gs) (cl.map (sh i)) = satB (b.drop i) cl := by
  have key : ∀ z ∈ cl, (whole b gs).getD ((sh i z).natAbs - 1) 0 = (b.drop i).getD (z.natAbs - 1) 0 ∧ (sh i z > 0 ↔ z > 0) := fun z hz => by
    obtain ⟨z0, z1⟩ := hb z hz
    have e : (sh i z).natAbs - 1 = i + (z.natAbs - 1) ∧ (sh i z > 0 ↔ z > 0) := by
      unfold sh
      split <;> omega
    refine ⟨?_, e.2⟩
    rw [e.1]
    have w := whole_take b gs
    have lt : i + (z.natAbs - 1) < b.length := by omega
    rw [List.getD_eq_getElem?_getD, List.getD_eq_getElem?_getD, List.getElem?_drop]
    congr 1
    rw [← List.getElem?_take_of_lt (l := whole b gs) lt, w]
  unfold satB
  rw [List.any_map]
  have : ∀ xs : List Int, (∀ z ∈ xs, z ∈ cl) → xs.any ((fun z => decide ((whole b gs).getD (z.natAbs - 1) 0 = if z > 0 then 1 else 0)) ∘ sh i) = xs.any fun z => decide ((b.drop i).getD (z.natAbs - 1) 0 = if z > 0 then 1 else 0) := by
    intro xs
    induction xs with
    | nil => intro _; rfl
    | cons z r ih =>
      intro hx
      rw [List.any_cons, List.any_cons, ih fun y hy => hx y (List.mem_cons_of_mem _ hy)]
      obtain ⟨k1, k2⟩ := key z (hx z List.mem_cons_self)
      congr 1
      show decide ((whole b gs).getD ((sh i z).natAbs - 1) 0 = if sh i z > 0 then 1 else 0) = _
      rw [k1]
      by_cases c : z > 0
      · rw [if_pos c, if_pos (k2.mpr c)]
      · rw [if_neg c, if_neg fun e => c (k2.mp e)]
  exact this cl fun _ h => h
theorem sat_led {b : List Int} {gs : List (Int × Int)} {nx cl : List Int} (h01 : B01 b) (n0 : ∀ z ∈ nx, 0 ≤ z) (hc : ∀ z ∈ cl, z ≠ 0 ∧ z.natAbs ≤ nx.length) :
    satB (nx.map fun l => lit (vals b gs) l) cl = true ↔ ∃ l ∈ cl.map (led nx), litv (whole b gs) l = 1 := by
  have w01 := whole_01 gs h01
  have el : ∀ l, lit (vals b gs) l = litv (whole b gs) l := fun l => by
    unfold litv
    rw [vals_head]
  have key : ∀ z ∈ cl, ((nx.map fun l => lit (vals b gs) l).getD (z.natAbs - 1) 0 = if z > 0 then 1 else 0) ↔ litv (whole b gs) (led nx z) = 1 := fun z hz => by
    obtain ⟨z0, z1⟩ := hc z hz
    have hj : z.natAbs - 1 < nx.length := by omega
    have g : (nx.map fun l => lit (vals b gs) l).getD (z.natAbs - 1) 0 = litv (whole b gs) (nx.getD (z.natAbs - 1) 0) := by
      rw [List.getD_eq_getElem?_getD, List.getD_eq_getElem?_getD, List.getElem?_map, List.getElem?_eq_getElem hj, ← el]
      rfl
    have g0 : 0 ≤ nx.getD (z.natAbs - 1) 0 := by
      rw [List.getD_eq_getElem?_getD, List.getElem?_eq_getElem hj]
      exact n0 _ (List.getElem_mem hj)
    rw [g]
    unfold led
    by_cases c : z > 0
    · rw [if_pos c, if_neg (by omega)]
    · rw [if_neg c, if_pos (by omega), litv_fl w01 g0]
      omega
  unfold satB
  rw [List.any_eq_true]
  constructor
  · rintro ⟨z, hz, e⟩
    exact ⟨led nx z, List.mem_map_of_mem hz, (key z hz).mp (of_decide_eq_true e)⟩
  · rintro ⟨l, hl, e⟩
    obtain ⟨z, hz, rfl⟩ := List.mem_map.mp hl
    exact ⟨z, hz, decide_eq_true ((key z hz).mpr e)⟩
theorem led_0 {nx cl : List Int} (n0 : ∀ z ∈ nx, 0 ≤ z) : ∀ l ∈ cl.map (led nx), 0 ≤ l := fun l hl => by
  obtain ⟨z, _, rfl⟩ := List.mem_map.mp hl
  have g0 : 0 ≤ nx.getD (z.natAbs - 1) 0 := by
    rw [List.getD_eq_getElem?_getD]
    cases e : nx[z.natAbs - 1]? with
    | none => exact Int.le_refl _
    | some u => exact n0 _ (List.mem_of_getElem? e)
  unfold led fl
  split <;> omega
theorem led_1 {nx cl : List Int} {M : Int} (n0 : ∀ z ∈ nx, 0 ≤ z ∧ z ≤ 2 * M + 1) (hM : 0 ≤ M) : ∀ l ∈ cl.map (led nx), 0 ≤ l ∧ l ≤ 2 * M + 1 := fun l hl => by
  obtain ⟨z, _, rfl⟩ := List.mem_map.mp hl
  have g0 : 0 ≤ nx.getD (z.natAbs - 1) 0 ∧ nx.getD (z.natAbs - 1) 0 ≤ 2 * M + 1 := by
    rw [List.getD_eq_getElem?_getD]
    cases e : nx[z.natAbs - 1]? with
    | none => exact ⟨Int.le_refl _, by show (0 : Int) ≤ _; omega⟩
    | some u => exact n0 _ (List.mem_of_getElem? e)
  unfold led fl
  split <;> omega
end Wm
namespace Abk
open PySem PySem.Spec PyProof.Rows L2 PySem.W
/-! ## sorted(row, key=abs) and set(row) of a list of ints, any law -/
def ab1 (i : Int) : Int := if i < 0 then -i else i
def byAbs (ns : List Int) : List Int := ns.mergeSort fun a b => decide (ab1 a ≤ ab1 b)
def tSortAbs (K : PySem.W.Frag) (ta : TE) : TE := fun σ H Q => ta σ H fun v H1 => ∃ (a : Addr) (ns : List Int), v = V.ref a ∧ SqL K H1 a (ns.map V.int) ∧ ∀ p, H1 p = none → Q (.ref p) (upd H1 p (.lst ((byAbs ns).map V.int)))
def IsI (v : Value) (z : Int) : Prop := ∃ t, v = .int z t
theorem isI_each : ∀ {us : List Value} {ns : List Int}, Vals (ns.map V.int) us → EachIs IsI us ns
  | us, [], h => by
    obtain rfl := Vals.zero h
    exact .nil
  | us, n :: ns, h => by
    cases h with
    | cons r t => exact .cons r (isI_each t)
theorem each_vals : ∀ {us : List Value} {ns : List Int}, EachIs IsI us ns → Vals (ns.map V.int) us
  | _, _, .nil => .nil
  | _, _, .cons r t => .cons r (each_vals t)
section
variable {X : Cx}
theorem sorted_abs {pins : List (Addr × Obj)} {s : Shared} {σ : L2.St} {H : Hp} {a : Addr} {ns : List Int} {Q : VK} {k : Nat} (hr : Room k X.A) (I : Inv X pins σ H s) (hs : SqL X.K H a (ns.map V.int)) (q : ∀ p, H p = none → Q (.ref p) (upd H p (.lst ((byAbs ns).map V.int)))) :
    wpAny (model X.prog X.w) X.A (call (.builtin "sorted") [.ref a] [(Str.ofString "key", .builtin "abs")]) (EP X pins σ Q) X.xe s := by
  obtain ⟨its, rv, hl, hz⟩ := I.list hs
  have e := isI_each rv
  have hz' : ns.length ≤ sizeLine := by rwa [List.length_map] at hz
  refine sorted_key_data (b := false) (fun z : Int => .int (ab1 z)) hl.isList e (AllAlike.of fun _ _ => by simp [alike]) (Sortable.others fun _ => ⟨by simp, by simp⟩) hz' (fun z _ => ?_) (ksk_s1 _ _) (fun _ => ksk_l1 _ _) (fun _ => ksk_t4 _ _)
    (fun v z hv _ h tk kp => ?_) fun out c h' tk kp fr hD hol eo => ?_
  · have := hr.units
    show X.A.units + 2 + 0 < cLine
    omega
  · obtain ⟨t, rfl⟩ := hv
    exact call_abs_int fun u tk' => ⟨h, tk', rfl, fun _ _ e => e, .int _ _⟩
  · rw [dataLe_int ab1] at eo
    have hlen : ((byAbs ns).map V.int).length ≤ sizeLine := by
      rw [List.length_map]
      show (ns.mergeSort _).length ≤ _
      rw [List.length_mergeSort]
      exact hz'
    exact ⟨.ref _, upd H (s.heap.objs.size + 1) (.lst ((byAbs ns).map V.int)), I.laid (t' := tk) kp (Nat.le_succ _) ⟨hlen, out, c, each_vals eo, hD⟩, rfl, q _ (I.hok.fresh (Nat.le_succ _))⟩
variable {x y : Str} {p pos p2 kpos : Pos} {e : Expr} {t : TE} {k : Nat}
theorem pe_sortAbs (hr : Room k X.A) (hg : Gl X x) (hm : X.mg x = none) (hv : bootBuiltins x = some (.builtin "sorted")) (ha : PE X e t) (hg2 : Gl X y) (hm2 : X.mg y = none) (hv2 : bootBuiltins y = some (.builtin "abs")) (hn : x ≠ "__name__" := by decide) (hdb : (x == ("__debug__" : Str)) = false := by decide)
    (hn2 : y ≠ "__name__" := by decide) (hdb2 : (y == ("__debug__" : Str)) = false := by decide)
    (hs : starEach [e] X.env = (false, eval e X.env) :: starEach [] X.env := by rfl) (he : backTo pos (starEach [e] X.env) = (false, eval e X.env) :: backTo pos (starEach [] X.env) := by rfl) (hpl : (backTo pos (starEach [e] X.env)).any (·.1) = false := by rfl)
    (hall : (backToKw pos (keywordEach [⟨some "key", .Name y p2, kpos⟩] X.env)).all (·.1.isSome) = true := by rfl) (hnone : (backToKw pos (keywordEach [⟨some "key", .Name y p2, kpos⟩] X.env)).any (·.1.isNone) = false := by rfl) (hks : (backToKw pos (keywordEach [⟨some "key", .Name y p2, kpos⟩] X.env)).filterMap (·.1) = [Str.ofString "key"] := by rfl) :
    PE X (.Call (.Name x p) [e] [⟨some "key", .Name y p2, kpos⟩] pos) (tSortAbs X.K t) := by
  refine ⟨fun pins s σ H Q I h => ?_⟩
  refine wpAny_Call_Name_kw (ld_blt I hg hm hv ?_ hn hdb)
  have pa : PA X [e] (tCons t tNil) := pa_cons ha pa_nil hs
  have h' : tCons t tNil σ H (fun vs H1 => match vs with | [v] => ∃ (a : Addr) (ns : List Int), v = V.ref a ∧ SqL X.K H1 a (ns.map V.int) ∧ ∀ p, H1 p = none → Q (.ref p) (upd H1 p (.lst ((byAbs ns).map V.int))) | _ => False) := h
  refine PyProof.Rows.callWith_kw (thn (pa.run pos pins s σ H _ I h') fun us s1 ⟨vs, H1, I1, r1, q1⟩ => ?_) he hpl hall hnone
  rw [hks]
  show wpAny _ _ (evalAll ((do let v ← eval (.Name y p2) X.env; standAt pos; pure v) :: [])) _ _ s1
  refine wpAny_evalAll_cons (wpAny_bind (ld_blt I1 hg2 hm2 hv2 (wpAny_bind (wpAny_standAt (wpAny_pure ?_))) hn2 hdb2))
  refine wpAny_evalAll_nil ?_
  match vs, r1, q1 with
  | [v], r1, ⟨a, ns, e1, hq, q2⟩ =>
    subst e1
    obtain ⟨u, rfl, ru⟩ := vals1 r1
    cases ru
    exact sorted_abs hr I1 hq q2
end
end Abk
namespace Ack
open PySem PySem.Spec PyProof.Rows L2 PySem.W
/-! ## set(row) of a list of ints, as a set whose members can be sorted -/
abbrev noneYet (w : World) : Obj := { cls := .type "set", dict := none, data := .set #[] 0 (.fresh 0 0 (!w.params.followText "set-order")) }
section
variable {prog : Program} {w : World} {A : Around} {E : Value → Shared → Prop} {s : Shared}
/-- what is known once the row is in the set at b -/
def Made (w : World) (h0 : Heap) (ns : List Int) (b : Addr) (h1 : Heap) (n : Nat) : Prop := SetR w h1 b (fun j => decide (j ∈ ns)) n ∧ n ≤ ns.length ∧ ∀ a o, h0.get? a = some o → h1.get? a = some o
theorem filled {l : Addr} {xs : Array Value} {ns : List Int} {B : Around} (hh : B.handled = none) (hl : s.heap.IsList l xs) (hi : IntsAre xs.toList ns) (hb : ns.length + 1 < scanBound) {R : Result → Shared → Prop}
    (hR : ∀ h1 tk n, Made w s.heap ns s.heap.objs.size h1 n → R (.ok (.ret .none)) { s with heap := h1, toks := tk }) :
    codeAny (model prog w) B (.builtin "set.update.loop" ⟨[.ref s.heap.objs.size, .ref (s.heap.objs.size + 1)], []⟩) R { s with heap := (s.heap.push (noneYet w)).push { cls := .type "list_iterator", data := .fields #[.ref l, .int 0 0] } } := by
  have z1 : (s.heap.push (noneYet w)).objs.size = s.heap.objs.size + 1 := Heap.size_push ..
  have ln : xs.size = ns.length := by rw [← Array.length_toList]; exact IntsAre.length hi
  have lt : l < s.heap.objs.size := let ⟨_, eo, _⟩ := hl; Heap.lt_size eo
  have nl : l ≠ s.heap.objs.size + 1 := Nat.ne_of_lt (Nat.lt_succ_of_lt lt)
  have e0 : (s.heap.push (noneYet w)).get? s.heap.objs.size = some (noneYet w) := Heap.get?_push_size _ rfl
  have e1 : ((s.heap.push (noneYet w)).push { cls := .type "list_iterator", data := .fields #[.ref l, .int 0 0] }).get? s.heap.objs.size = some (noneYet w) := Heap.get?_push_of_some _ e0
  have e2 : ((s.heap.push (noneYet w)).push { cls := .type "list_iterator", data := .fields #[.ref l, .int 0 0] }).get? (s.heap.objs.size + 1) = some { cls := .type "list_iterator", data := .fields #[.ref l, .int 0 0] } := by
    rw [← z1]
    exact Heap.get?_push_size _ rfl
  refine set_update_ints ((Walks.list (prog := prog) (w := w) (A := B.in1) (by simpa using hh) (s.heap.objs.size + 1) l nl xs).toS) s.heap.objs.size (fun m => (List.mem_cons.mp m).elim (Nat.ne_of_lt (Nat.lt_succ_self _)) fun m => Nat.ne_of_gt lt (List.mem_singleton.mp m)) ns ln hb (fun i v hv => ?_) xs.size 0 _ rfl (Nat.zero_le _) ⟨⟨_, e2, rfl, rfl⟩, (hl.push _).push _⟩ ⟨0, Nat.le_refl 0, setR_new_at e1⟩ fun s' n hm hn hS => ?_
  · have hi' : i < ns.length := by rw [← ln]; exact (Array.getElem?_eq_some_iff.mp hv).1
    obtain ⟨t, e⟩ := IntsAre.int_at hi i v (by rw [Array.getElem?_toList]; exact hv)
    exact ⟨ns[i], t, List.getElem?_eq_getElem hi', by rw [e, List.getD_eq_getElem?_getD, List.getElem?_eq_getElem hi']; rfl⟩
  · obtain ⟨h1, g, d, tk, os⟩ := s'
    obtain rfl : g = s.gens := hm.gens
    obtain rfl : d = s.drawn := hm.drawn
    obtain rfl : os = s.os := hm.os
    refine hR h1 tk n ⟨hS, by omega, fun a o e => ?_⟩
    have la := Heap.lt_size e
    refine hm.heap a o ?_ (Heap.get?_push_of_some _ (Heap.get?_push_of_some _ e))
    exact fun m => (List.mem_cons.mp m).elim (Nat.ne_of_lt la) fun m => Nat.ne_of_lt (Nat.lt_succ_of_lt la) (List.mem_singleton.mp m)
/-- set(row) -/
theorem set_list {l : Addr} {xs : Array Value} {ns : List Int} {Q : Value → Shared → Prop} (hh : A.handled = none) (hl : s.heap.IsList l xs) (hi : IntsAre xs.toList ns) (hb : ns.length + 1 < scanBound)
    (h : ∀ h1 tk n, Made w s.heap ns s.heap.objs.size h1 n → Q (.ref s.heap.objs.size) { s with heap := h1, toks := tk }) : wpAny (model prog w) A (call (.type "set") [.ref l]) Q E s := by
  have ⟨m0, m1, m2⟩ := F.called_set.mro
  have g1 := F.called_set.made; have g2 := F.called_set.sub; have g3 := F.called_set.notType; have g4 := F.called_set.canCreate; have g5 := F.typeCall_set_1 (.ref l)
  apply wpAny_call; apply codeAny_of_tree
  change wpAny _ _ (callAny (.type "set") _) _ _ _
  apply wpAny_pure; refine ⟨Code.quiet_builtin _ (by decide +kernel), codeAny_builtin F.entry_type_call ?_⟩; rw [Around.under_plain (weight_type_call_type "set" [.ref l] []) rfl]
  repeat any_goals first | assumption | wp_step
  refine codeAny_mono (code_set_led1 (.ref l) (E := E) (Q₁ := fun v u => v = .ref s.heap.objs.size ∧ u = { s with heap := s.heap.push (noneYet w) }) ⟨rfl, rfl⟩) fun r u hr => ?_
  have e0 : (s.heap.push (noneYet w)).get? s.heap.objs.size = some (noneYet w) := Heap.get?_push_size _ rfl
  rcases r with _ | (_ | _ | _ | v)
  case ok.ret =>
    obtain ⟨rfl, rfl⟩ := hr
    have ty : Shared.TypeIs { s with heap := s.heap.push (noneYet w) } (.ref s.heap.objs.size) "set" := ⟨_, e0, rfl⟩
    have g6 := F.called_set.init.lookup; have g7 := F.called_set.init.bind (.ref s.heap.objs.size)
    repeat any_goals first | assumption | wp_step
    refine codeAny_mono (codeAny_call_builtin (R := wants (fun v u => v = .none ∧ ∃ h1 tk n, u = { s with heap := h1, toks := tk } ∧ Made w s.heap ns s.heap.objs.size h1 n) E) F.called_set.init.plain F.entry_set_init (check_set_init_1 ty ?_)) fun r2 u2 hr2 => ?_
    · obtain ⟨⟨oc, od, ob, os⟩, eo, c1, nn, c2⟩ := hl
      obtain rfl : oc = .type "list" := c1
      obtain rfl : ob = .seq xs nn := c2
      have eo' := Heap.get?_push_of_some (noneYet w) eo
      have li : (s.heap.push (noneYet w)).IsList l xs := ⟨_, eo', rfl, nn, rfl⟩
      have k1 := F.sub_list_set; have k2 := F.sub_list_frozenset
      have k3 : (Value.type "list" == Value.type "dict") = false := by decide
      unfold Builtin.«set.__init__» Builtin.Frozenset.updateFrom noKeywords; generalize pk : pyIter = PI
      wp_walk
      subst pk
      refine wpAny_pyIter_list li (wpAny_bind (wpAny_runValue ?_))
      have z1 : (s.heap.push (noneYet w)).objs.size = s.heap.objs.size + 1 := Heap.size_push ..
      rw [z1]
      exact filled (by simp [hh]) ⟨_, eo, rfl, nn, rfl⟩ hi hb fun h1 tk n md => wpAny_pure (wpAny_pure ⟨rfl, h1, tk, n, rfl, md⟩)
    · rcases r2 with _ | (_ | _ | _ | v2)
      case ok.ret =>
        obtain ⟨rfl, h1, tk, n, rfl, md⟩ := hr2
        repeat any_goals first | assumption | wp_step
        exact h h1 tk n md
      all_goals first | exact hr2 | exact hr2.elim
  all_goals first | exact hr | exact hr.elim
end
section
variable {X : Cx}
def rSetL (K : PySem.W.Frag) (w : World) : List V → Hp → VK → Prop := fun vs H Q => ∃ (a : Addr) (ns : List Int), vs = [V.ref a] ∧ SqL K H a (ns.map V.int) ∧ ns.length < 1000 ∧ ∀ (p : Addr) (n : Nat), n ≤ ns.length → H p = none → Q (.ref p) (upd H p (SetO w p (fun j => decide (j ∈ ns)) n))
theorem call_setL (hc : X.calm = true) : CallR X (.type "set") (rSetL X.K X.w) := by
  intro pins s σ H vs us Q I r h
  obtain ⟨a, ns, rfl, hs, hz, q⟩ := h
  obtain rfl := Vals.ref1 r
  obtain ⟨its, rv, pl, _⟩ := I.list hs
  refine set_list (ns := ns) (I.ok.hd hc) pl.isList (by simpa using rv.ints) (by unfold scanBound; omega) fun h1 tk n md => ?_
  obtain ⟨m1, m2, m3⟩ := md
  exact ⟨.ref _, upd H s.heap.objs.size (SetO X.w s.heap.objs.size (fun j => decide (j ∈ ns)) n), I.laid (t' := tk) m3 (Nat.le_refl _) (setO_new m1), rfl, q _ n m2 (I.hok.fresh (Nat.le_refl _))⟩
end
end Ack
namespace Ju
open PySem PySem.Spec PyProof.Rows L2 Pen Dat Ki Fi Gr No Lf Cm Cn Cp Cq Mc
def spOppo (K : PySem.W.Frag) : Sp := fun vs H Q _ => ∃ v : V, vs = [v] ∧ ((v = .non ∧ Q .non H) ∨ ∃ (c : Addr) (cl : List Int), v = .ref c ∧ SqT K H c (cl.map V.int) ∧ cl.length ≤ 500 ∧ ∀ (H' : Hp) (t : Addr), Same H H' → H' t = some (.tup ((cl.map fun z => -z).map V.int)) → Q (.ref t) H')
def spAgainst (K : PySem.W.Frag) (M : Addr) : Sp := fun vs H Q _ => ∃ (p c : Addr) (i : Int) (nx cl : List Int), vs = [.ref p, .ref c] ∧ MachAt K M H p i nx ∧ SqT K H c (cl.map V.int) ∧ cl.length ≤ 400 ∧ (∀ z ∈ cl, z ≠ 0 ∧ z.natAbs ≤ nx.length) ∧ (∀ z ∈ nx, 0 ≤ z) ∧
  (bad (cl.map (led nx)) = true → ∀ H', Same H H' → Q .non H') ∧ (bad (cl.map (led nx)) = false → ∀ (H' : Hp) (t : Addr) (c2 : List Int), Same H H' → IsCl (cl.map (led nx)) c2 → H' t = some (.tup ((c2.map fun z => -z).map V.int)) → Q (.ref t) H')
theorem nodup_le : ∀ {xs ys : List Int}, xs.Nodup → (∀ z ∈ xs, z ∈ ys) → xs.length ≤ ys.length
  | [], _, _, _ => Nat.zero_le _
  | x :: xs, ys, hn, hs => by
    obtain ⟨h1, h2⟩ := List.nodup_cons.mp hn
    have hx := hs x List.mem_cons_self
    have t := nodup_le (ys := ys.erase x) h2 fun z hz => (List.mem_erase_of_ne (fun e : z = x => h1 (by rw [← e]; exact hz))).mpr (hs z (List.mem_cons_of_mem _ hz))
    have l := List.length_erase_of_mem hx
    have p := List.length_pos_of_mem hx
    rw [List.length_cons]
    omega
theorem isCl_le {ls cl : List Int} (h : IsCl ls cl) : cl.length ≤ ls.length := by
  have nd : cl.Nodup := List.Pairwise.imp (fun {a b} hab e => by
    subst e
    exact absurd hab (Nat.lt_irrefl _)) h.1
  have t := nodup_le (ys := ls.map sgn) nd fun z hz => by
    obtain ⟨l, hl, _, rfl⟩ := (h.2 z).mp hz
    exact List.mem_map_of_mem hl
  rwa [List.length_map] at t
def nowM (i : Int) (cl : List Int) : List Int := cl.map fun z => if z > 0 then z + i else z - i
def spGiven (K : PySem.W.Frag) (C M : Addr) : Sp := fun vs H Q _ => ∃ (p cs x : Addr) (n : Nat) (i : Int) (nx : List Int) (wi : Int) (gs : List (Int × Int)) (us : List V) (cls : List (List Int)), vs = [.ref p, .ref cs] ∧ MJ K M H p x i nx wi ∧ GraphAt K C H x n gs ∧ okG (2 * (n : Int) + 1) gs = true ∧ gs.length ≤ 200 ∧
  SqT K H cs us ∧ All2 (Tu K H) us cls ∧ cls.length ≤ 100 ∧ (∀ cl ∈ cls, cl.length ≤ 1000) ∧ ∀ (H' : Hp) (t : Addr) (ws : List V), Same H H' → H' t = some (.tup ws) → All2 (Tu K H') ws (clauses n gs ++ cls.map (nowM i)) → Q (.ref t) H'
theorem a2_app {β : Type} {R : V → β → Prop} : ∀ {xs as : List V} {ys bs : List β}, All2 R xs ys → All2 R as bs → All2 R (xs ++ as) (ys ++ bs)
  | _, _, _, _, .nil, h => h
  | _, _, _, _, .cons r t, h => .cons r (a2_app t h)
def spAWish (K : PySem.W.Frag) (M : Addr) : Sp := fun vs H Q _ => ∃ (p x : Addr) (i : Int) (nx : List Int) (wi : Int), vs = [.ref p] ∧ MJ K M H p x i nx wi ∧ 0 ≤ wi ∧
  (bad [wi] = true → ∀ H', Same H H' → Q .non H') ∧ (bad [wi] = false → ∀ (H' : Hp) (t : Addr) (c2 : List Int), Same H H' → IsCl [wi] c2 → H' t = some (.tup ((c2.map fun z => -z).map V.int)) → Q (.ref t) H')
section
variable {P : Program} {w : World} {K : PySem.W.Frag} {mg : Str → Option Value} {base : Heap} {f C M : Addr} {fd : FuncData}
abbrev nOpp : List Str := ["clause", "literal"]
theorem scOpp : FnScope nOpp ["clause"] (defScope sOppositesOf) := ⟨rfl, rfl, rfl, by decide +kernel, rfl, by decide +kernel, by decide +kernel⟩
abbrev nAgainst : List Str := ["machine", "clause"]
theorem scAgainst : FnScope nAgainst ["machine", "clause"] (defScope sAgainst) := ⟨rfl, rfl, rfl, by decide +kernel, rfl, by decide +kernel, by decide +kernel⟩
abbrev nAWish : List Str := ["machine"]
theorem scAWish : FnScope nAWish ["machine"] (defScope sAgainstWish) := ⟨rfl, rfl, rfl, by decide +kernel, rfl, by decide +kernel, by decide +kernel⟩
abbrev nGiven : List Str := ["machine", "clauses", "clause"]
theorem scGiven : FnScope nGiven ["machine", "clauses"] (defScope sGivenOf) := ⟨rfl, rfl, rfl, by decide +kernel, rfl, by decide +kernel, by decide +kernel⟩
theorem int_at {xs : List Int} {i : Nat} {y : V} (h : (xs.map V.int)[i]? = some y) : ∃ z, y = V.int z ∧ xs[i]? = some z := by
  rw [List.getElem?_map] at h
  cases e : xs[i]? with
  | none =>
    rw [e] at h
    cases h
  | some u =>
    rw [e] at h
    exact ⟨u, (Option.some.inj h).symm, rfl⟩
theorem ok_oppo (F : FnP K "opposites_of" sOppositesOf f fd) (T : Mc.Tx K mg C M) : FnOk P w K mg base CX0 1 f fd ["clause"] (spOppo K) := by
  refine F.ok scOpp (fun vs H Q E h => ?_) (fun cdv A outer s H vs Q E hr h => ?_)
  · obtain ⟨v, rfl, _⟩ := h
    rfl
  · obtain ⟨v, rfl, h⟩ := h
    refine ⟨_, PSs.nox (pss_one (ps_ret (pe_ifExp (pt_cmpR op_isN (pv 0) pe_non (nomark _)) pe_non (pe_callTy (T := "tuple") (r := rTupOf K) (by exact call_tuple_of) (by rfl) T.gr.ki.tuple (by decide +kernel) (pa_cons (pe_lc (own := [("literal", 1)]) (g := gName 1) (tt := tYes) rfl scOpp.nd (pi_tup (pv 0)) (blkOk_by (N := nOpp) (sc := defScope sOppositesOf) (by decide +kernel)) (fun _ _ _ _ _ => pg_name (i := 1) scOpp.nd rfl (Or.inl rfl)) (fun _ _ _ _ _ => pts_nil) (fun _ _ _ _ _ => (pe_un un_neg (pv 1)))) pa_nil))))), ?_⟩
    rcases h with ⟨rfl, q⟩ | ⟨c, cl, rfl, hc, hz, q⟩
    · exact ⟨_, rfl, rfl, _, rfl, iteT q⟩
    · refine ⟨_, rfl, rfl, _, rfl, iteF ?_⟩
      refine ⟨_, rfl, c, rfl, ⟨_, hc⟩, fun D nD => ?_⟩
      refine lc_tup (K := K) (a := c) (xs := cl.map V.int) (fun i H2 => Same H H2 ∧ H2 D = some (.lst (((cl.take i).map fun z => -z).map V.int))) ⟨same_new nD, upd_same⟩ (fun i H2 _ ⟨s2, _⟩ => seqT_same s2 hc) ?_ ?_
      · rintro i y H2 hi ⟨s2, h2⟩
        obtain ⟨a, rfl, ha⟩ := int_at hi
        refine ⟨rfl, yes_of ?_⟩
        refine ⟨_, rfl, a, rfl, _, h2, ?_, fun b o e => ?_, ?_⟩
        · rw [List.length_map, List.length_map]
          exact Nat.lt_of_le_of_lt (List.length_take_le' _ _) (Nat.lt_of_le_of_lt hz (by decide))
        · rw [upd_ne (ne_of_none e nD)]
          exact s2 _ _ e
        · rw [upd_same, take_more ha, List.map_append, List.map_append]
          rfl
      · rintro H2 ⟨s2, h2⟩
        rw [List.length_map, List.take_length] at h2
        exact ⟨D, _, rfl, .inl ⟨SqL.of h2, fun t nt => q _ t (s2.trans (same_new nt)) upd_same⟩⟩
theorem ok_against (F : FnP K "against" sAgainst f fd) (T : Mc.Tx K mg C M)
    {fO fB : Addr} {dO dB : FuncData}
    (GO : FnOk P w K mg base CX0 1 fO dO ["clause"] (spOppo K)) (gO : mg "opposites_of" = some (.ref fO)) (kO : PySem.W.keepIn K (.ref fO) = true) (bO : Binds K dO ["clause"] [])
    (GB : FnOk P w K mg base CX0 2 fB dB ["machine", "clause"] (spBehind K M)) (gB : mg "behind" = some (.ref fB)) (kB : PySem.W.keepIn K (.ref fB) = true) (bB : Binds K dB ["machine", "clause"] [])
    : FnOk P w K mg base CX0 3 f fd ["machine", "clause"] (spAgainst K M) := by
  refine F.ok scAgainst (fun vs H Q E h => ?_) (fun cdv A outer s H vs Q E hr h => ?_)
  · obtain ⟨p, c, i, nx, cl, rfl, _⟩ := h
    rfl
  · obtain ⟨p, c, i, nx, cl, rfl, hM, hc, hz, h1, h2, q1, q2⟩ := h
    refine ⟨_, PSs.nox (pss_one (ps_ret (pe_call GO (hr.mono (by decide)) (by rfl) gO kO bO .nil pass0 (pa_cons (pe_call GB (hr.mono (by decide)) (by rfl) gB kB bB .nil pass0 (pa_cons (pv 0) (pa_cons (pv 1) pa_nil))) pa_nil)))), ?_⟩
    refine ⟨_, rfl, _, rfl, p, c, i, nx, cl, rfl, hM, hc, hz, h1, h2, fun hb H1 s1 => ⟨.non, rfl, .inl ⟨rfl, q1 hb H1 s1⟩⟩, fun hb H1 t c2 s1 hcl ht => ?_⟩
    refine ⟨.ref t, rfl, .inr ⟨t, c2, rfl, SqT.of ht, ?_, fun H2 t2 s2 ht2 => q2 hb H2 t2 c2 (s1.trans s2) hcl ht2⟩⟩
    have := isCl_le hcl
    rw [List.length_map] at this
    omega
theorem ok_awish (F : FnP K "against_wish" sAgainstWish f fd) (T : Mc.Tx K mg C M)
    {fO fC : Addr} {dO dC : FuncData}
    (GO : FnOk P w K mg base CX0 1 fO dO ["clause"] (spOppo K)) (gO : mg "opposites_of" = some (.ref fO)) (kO : PySem.W.keepIn K (.ref fO) = true) (bO : Binds K dO ["clause"] [])
    (GC : FnOk P w K mg base CX0 1 fC dC ["literals"] (spCl K)) (gC : mg "clause_of" = some (.ref fC)) (kC : PySem.W.keepIn K (.ref fC) = true) (bC : Binds K dC ["literals"] [])
    : FnOk P w K mg base CX0 3 f fd ["machine"] (spAWish K M) := by
  refine F.ok scAWish (fun vs H Q E h => ?_) (fun cdv A outer s H vs Q E hr h => ?_)
  · obtain ⟨p, x, i, nx, wi, rfl, _⟩ := h
    rfl
  · obtain ⟨p, x, i, nx, wi, rfl, hM, w0, q1, q2⟩ := h
    refine ⟨_, PSs.nox (pss_one (ps_ret (pe_call GO (hr.mono (by decide)) (by rfl) gO kO bO .nil pass0 (pa_cons (pe_call GC (hr.mono (by decide)) (by rfl) gC kC bC .nil pass0 (pa_cons (pe_tup (pa_cons (pe_fld (pv 0) rfl) pa_nil)) pa_nil)) pa_nil)))), ?_⟩
    obtain ⟨dx, fs, t, h1, h2, h3, h4, h5, h6⟩ := id hM
    refine ⟨_, rfl, p, M, dx, fs, _, rfl, h1, T.cl, T.nW, h6, (by show 1 ≤ sizeLine; decide), fun tw ntw => ?_⟩
    have s0 := same_new (u := .tup [V.int wi]) ntw
    refine ⟨.ref tw, [wi], rfl, ⟨tw, rfl, .inr (SqT.of upd_same)⟩, fun l hl => by rw [List.mem_singleton.mp hl]; exact w0, (by show 1 ≤ 500; decide), fun hb H1 s1 => ⟨.non, rfl, .inl ⟨rfl, q1 hb H1 (s0.trans s1)⟩⟩, fun hb H1 t1 c2 s1 hcl ht => ?_⟩
    refine ⟨.ref t1, rfl, .inr ⟨t1, c2, rfl, SqT.of ht, Nat.le_trans (isCl_le hcl) (by show 1 ≤ 500; decide), fun H2 t2 s2 ht2 => q2 hb H2 t2 c2 (s0.trans (s1.trans s2)) hcl ht2⟩⟩
theorem ok_given (F : FnP K "given_of" sGivenOf f fd) (T : Mc.Tx K mg C M)
    {fC fN : Addr} {dC dN : FuncData}
    (GC : FnOk P w K mg base CX0 2 fC dC ["graph"] (spCls K C)) (gC : mg "clauses_of" = some (.ref fC)) (kC : PySem.W.keepIn K (.ref fC) = true) (bC : Binds K dC ["graph"] [])
    (GN : FnOk P w K mg base CX0 1 fN dN ["machine", "clause"] (spNow K M)) (gN : mg "now" = some (.ref fN)) (kN : PySem.W.keepIn K (.ref fN) = true) (bN : Binds K dN ["machine", "clause"] [])
    : FnOk P w K mg base CX0 3 f fd ["machine", "clauses"] (spGiven K C M) := by
  refine F.ok scGiven (fun vs H Q E h => ?_) (fun cdv A outer s H vs Q E hr h => ?_)
  · obtain ⟨p, cs, x, n, i, nx, wi, gs, us, cls, rfl, _⟩ := h
    rfl
  · obtain ⟨p, cs, x, n, i, nx, wi, gs, us, cls, rfl, hM, hG, hok, hz, hcs, hus, hl, hcl, q⟩ := h
    refine ⟨_, PSs.nox (pss_one (ps_ret (pe_tup (StX.pa_star (pe_call GC (hr.mono (by decide)) (by rfl) gC kC bC .nil pass0 (pa_cons (pe_fld (pv 0) rfl) pa_nil)) (StX.pa_star (pe_lc (own := [("clause", 2)]) (g := gName 2) (tt := tYes) rfl scGiven.nd (pi_tup (pv 1)) (blkOk_by (N := nGiven) (sc := defScope sGivenOf) (by decide +kernel)) (fun _ _ _ _ _ => pg_name (i := 2) scGiven.nd rfl (Or.inl rfl)) (fun _ _ _ _ _ => pts_nil) (fun _ _ _ _ _ => (pe_call GN (hr.mono (by decide)) (by rfl) gN kN bN .nil pass0 (pa_cons (pv 0) (pa_cons (pv 2) pa_nil))))) pa_nil))))), ?_⟩
    obtain ⟨dx, fs, t, h1, h2, h3, h4, h5, h6⟩ := id hM
    refine ⟨_, rfl, p, M, dx, fs, _, rfl, h1, T.cl, T.nG, h5, x, n, gs, rfl, hG, hok, hz, fun H1 t1 ws s1 ht1 ha1 => ⟨t1, ws, rfl, .inl (SqT.of ht1), ?_⟩⟩
    have hcs1 := seqT_same s1 hcs
    have hM1 := hM.same s1
    have hus1 : All2 (Tu K H1) us cls := hus.imp fun _ _ h => h.firm (Firm.of s1)
    refine ⟨_, rfl, cs, rfl, ⟨_, hcs1⟩, fun D nD => ?_⟩
    refine lc_tup (K := K) (a := cs) (xs := us) (fun j H2 => Same H1 H2 ∧ ∃ vs : List V, H2 D = some (.lst vs) ∧ All2 (Tu K H2) vs ((cls.take j).map (nowM i))) ⟨same_new nD, [], upd_same, .nil⟩ (fun j H2 _ ⟨s2, _⟩ => seqT_same s2 hcs1) ?_ ?_
    · rintro j y H2 hj ⟨s2, vs, h2', a2⟩
      obtain ⟨cl, hcl1, qc, rfl, hqc⟩ := hus1.get hj
      have hjl : j < cls.length := (List.getElem?_eq_some_iff.mp hcl1).1
      refine ⟨rfl, yes_of ?_⟩
      refine ⟨_, rfl, _, rfl, p, qc, i, nx, cl, rfl, (hM1.same s2).at_, SqT.of (s2 _ _ hqc), hcl cl (List.mem_of_getElem? hcl1), fun H3 t3 s3 ht3 => ?_⟩
      have h3' := s3 _ _ h2'
      have fi : Firm H3 (upd H3 D (.lst (vs ++ [.ref t3]))) := Firm.upd h3' rfl
      refine ⟨_, h3', ?_, fun b o e => ?_, vs ++ [.ref t3], upd_same, ?_⟩
      · rw [a2.len, List.length_map, List.length_take]
        exact Nat.lt_of_le_of_lt (Nat.min_le_left _ _) (Nat.lt_of_lt_of_le (by omega : j < 200) (by decide))
      · rw [upd_ne (ne_of_none e nD)]
        exact s3 _ _ (s2 _ _ e)
      · rw [take_more hcl1, List.map_append]
        exact (a2.imp fun _ _ h => (h.firm (Firm.of s3)).firm fi).snoc ⟨t3, rfl, fi _ _ ht3 rfl⟩
    · rintro H2 ⟨s2, vs, h2', a2⟩
      rw [hus1.len, List.take_length] at a2
      have lc := clauses_len gs n
      refine ⟨D, vs, rfl, .inr (SqL.of h2'), ?_, fun tn ntn => ?_⟩
      · rw [List.append_nil, List.length_append, ha1.len, a2.len, List.length_map]
        exact Nat.le_trans (by omega : (clauses n gs).length + cls.length ≤ 700) (by decide)
      · have sn := same_new (u := .tup (ws ++ (vs ++ []))) ntn
        refine q _ tn (ws ++ vs) (s1.trans (s2.trans sn)) (by rw [upd_same, List.append_nil]) (a2_app (ha1.imp fun _ _ h => h.firm (Firm.of (s2.trans sn))) (a2.imp fun _ _ h => h.firm (Firm.of sn)))
end
end Ju
namespace Jv
open PySem PySem.Spec PyProof.Rows L2 Pen Dat Ki Fi Gr No Lf Cm Cn Cp Cq Mc Lc Dm Wm Ju Abk Ack
/-! ## k44: what the law itself says -/
structure Tx (mg : Str → Option Value) : Prop where
  range : mg "range" = none
  sorted : mg "sorted" = none
  set : mg "set" = none
  dict : mg "dict" = none
  enum : mg "enumerate" = none
  tuple : mg "tuple" = none
  list : mg "list" = none
  int : mg "int" = none
  abs : mg "abs" = none
  len : mg "len" = none
structure SortedM (ns cl : List Int) : Prop where
  up : cl.Pairwise fun a b => ab1 a ≤ ab1 b
  nd : cl.Nodup
  mem : ∀ z, z ∈ cl ↔ z ∈ ns
theorem byAbs_ok {ns ms : List Int} (h : ms.Pairwise (· < ·)) (hm : ∀ z, z ∈ ms ↔ z ∈ ns) : SortedM ns (byAbs ms) := by
  have pm := List.mergeSort_perm ms fun a b => decide (ab1 a ≤ ab1 b)
  refine ⟨?_, pm.nodup_iff.mpr (h.imp fun {a b} l e => by omega), fun z => (pm.mem_iff).trans (hm z)⟩
  have := List.pairwise_mergeSort (le := fun a b => decide (ab1 a ≤ ab1 b)) (fun a b c x y => decide_eq_true (Int.le_trans (of_decide_eq_true x) (of_decide_eq_true y))) (fun a b => by
    rcases Int.le_total (ab1 a) (ab1 b) with x | x
    · simp [x]
    · simp [x]) ms
  exact this.imp fun {a b} x => of_decide_eq_true x
theorem isCl_sorted {ls cl : List Int} (h0 : ∀ l ∈ ls, 0 ≤ l) (hb : bad ls = false) (h : SortedM ((ls.filter fun l => decide (l > 1)).map sgn) cl) : IsCl ls cl := by
  have mem : ∀ z, z ∈ cl ↔ ∃ l ∈ ls, 1 < l ∧ z = sgn l := fun z => by
    rw [h.mem, List.mem_map]
    constructor
    · rintro ⟨l, hl, rfl⟩
      obtain ⟨a, b⟩ := List.mem_filter.mp hl
      exact ⟨l, a, of_decide_eq_true b, rfl⟩
    · rintro ⟨l, hl, h1, rfl⟩
      exact ⟨l, List.mem_filter.mpr ⟨hl, decide_eq_true h1⟩, rfl⟩
  refine ⟨?_, mem⟩
  obtain ⟨b1, b2⟩ := not_bad hb
  have nd : cl.Pairwise fun a b => a ≠ b := h.nd
  refine (h.up.and nd).imp_of_mem fun {a b} ha hb' ⟨hle, hne⟩ => ?_
  obtain ⟨l, hl, l1, rfl⟩ := (mem a).mp ha
  obtain ⟨m, hm, m1, rfl⟩ := (mem b).mp hb'
  have e1 := sgn_abs (h0 l hl)
  have e2 := sgn_abs (h0 m hm)
  have z1 : ab1 (sgn l) = ((sgn l).natAbs : Int) := by unfold ab1; split <;> omega
  have z2 : ab1 (sgn m) = ((sgn m).natAbs : Int) := by unfold ab1; split <;> omega
  rcases Nat.lt_or_ge (sgn l).natAbs (sgn m).natAbs with x | x
  · exact x
  · have e : l / 2 = m / 2 := by omega
    by_cases lm : l = m
    · exact absurd (by rw [lm]) hne
    · have f : m = fl l := by unfold fl; omega
      exact absurd (f ▸ hm) (b2 l hl)
theorem lay_list : ∀ ns : List Int, PyData.canLayAll0 (ns.map .int) = true ∧ PyData.depthAll (ns.map .int) = 0
  | [] => ⟨rfl, rfl⟩
  | n :: ns => by
    obtain ⟨a, b⟩ := lay_list ns
    refine ⟨?_, ?_⟩
    · show (true && PyData.canLayAll0 (ns.map .int)) = true
      rw [a]
      rfl
    · show max 0 (PyData.depthAll (ns.map .int)) = 0
      rw [b]
      rfl
theorem sh_list (ns : List Int) : SeqAt.shaped (.list (ns.map .int)) = true := by
  obtain ⟨a, b⟩ := lay_list ns
  show (PyData.canLayAll0 (ns.map .int) && decide (PyData.depthAll (ns.map .int) + 1 ≤ 64)) = true
  rw [a, b]
  rfl
theorem ne_nil_eqv (xs : List Int) : (!PyData.eqv (.list (xs.map .int)) (.list [])) = decide (xs ≠ []) := by
  cases xs with
  | nil => rfl
  | cons x r => simp [PyData.eqv, PyData.eqvAll]
theorem nil_eqv (xs : List Int) : PyData.eqv (.list (xs.map .int)) (.list []) = decide (xs = []) := by
  cases xs with
  | nil => rfl
  | cons x r => simp [PyData.eqv, PyData.eqvAll]
theorem sgn_mul (l : Int) : l / 2 * (1 - 2 * (l % 2)) = sgn l := by
  unfold sgn
  by_cases h : l % 2 = 1
  · rw [if_pos h, h]
    omega
  · rw [if_neg h, show l % 2 = 0 by omega]
    omega
def spDC : Sp := fun vs H Q _ => ∃ (p c : Addr) (k : Nat) (m : Int), vs = [.ref p, .int m, .int 2] ∧ PenC H p c k ∧ k ≤ 100000000 ∧ 1 ≤ m ∧ m ≤ 4 ∧ ∀ (H' : Hp) (t : Addr) (cl : List Int), PenC H' p c (k + 9) → But p H H' → H' t = some (.tup (cl.map V.int)) → StC m cl → Q (.ref t) H'
def spSorted (K : PySem.W.Frag) : Sp := fun vs H Q _ => ∃ (a : Addr) (ns : List Int), vs = [.ref a] ∧ SqL K H a (ns.map V.int) ∧ ns.length < 60 ∧ ∀ (H' : Hp) (t : Addr) (cl : List Int), Same H H' → H' t = some (.tup (cl.map V.int)) → SortedM ns cl → Q (.ref t) H'
def spFits (K : PySem.W.Frag) : Sp := fun vs H Q _ => ∃ (v : V) (c : Addr) (as cl : List Int), vs = [v, .ref c] ∧ SeqI K H v as ∧ SqT K H c (cl.map V.int) ∧ (∀ z ∈ cl, z ≠ 0 ∧ z.natAbs ≤ as.length) ∧ cl.length ≤ 1000 ∧ ∀ H', Same H H' → Q (.bl (satB as cl)) H'
def spGate (K : PySem.W.Frag) : Sp := fun vs H Q _ => ∃ (v : V) (ls : List Int), vs = [v] ∧ SeqI K H v ls ∧ (∀ l ∈ ls, 0 ≤ l) ∧ ls.length < 60 ∧ (bad ls = true → ∀ H', Same H H' → Q .non H') ∧
  (bad ls = false → ∀ (H' : Hp) (t : Addr) (cl : List Int), Same H H' → IsCl ls cl → H' t = some (.tup (cl.map V.int)) → Q (.ref t) H')
def spGraphs (K : PySem.W.Frag) : Sp := fun vs H Q _ => ∃ (o : Addr) (n : Nat) (i : Int) (gs : List (Int × Int)) (rs nx : List Int) (wi : Int), vs = [.ref o] ∧ OwnAt K H o n i gs rs nx wi ∧ okG (2 * (n : Int) + 1) gs = true ∧ gs.length ≤ 60 ∧
  ∀ (H' : Hp) (t : Addr) (ws : List V), Same H H' → H' t = some (.tup ws) → All2 (Tu K H') ws (clauses n gs) → Q (.ref t) H'
def spLGiven (K : PySem.W.Frag) : Sp := fun vs H Q _ => ∃ (o cs : Addr) (n : Nat) (i : Int) (gs : List (Int × Int)) (rs nx : List Int) (wi : Int) (us : List V) (cls : List (List Int)), vs = [.ref o, .ref cs] ∧ OwnAt K H o n i gs rs nx wi ∧ okG (2 * (n : Int) + 1) gs = true ∧ gs.length ≤ 60 ∧
  SqT K H cs us ∧ All2 (Tu K H) us cls ∧ cls.length ≤ 100 ∧ (∀ cl ∈ cls, cl.length ≤ 1000) ∧ ∀ (H' : Hp) (t : Addr) (ws : List V), Same H H' → SqT K H' t ws → All2 (Tu K H') ws (clauses n gs ++ cls.map (nowM i)) → Q (.ref t) H'
/-- what is told for a row of literals -/
def Tk (H : Hp) (v : V) (ls : List Int) : Prop := (v = .non ∧ bad ls = true) ∨ ∃ (t : Addr) (c2 : List Int), v = .ref t ∧ bad ls = false ∧ IsCl ls c2 ∧ H t = some (.tup ((c2.map fun z => -z).map V.int))
theorem Tk.firm {H H' : Hp} {v : V} {ls : List Int} (s : Firm H H') (h : Tk H v ls) : Tk H' v ls := h.imp id fun ⟨t, c2, a, b, c, d⟩ => ⟨t, c2, a, b, c, s _ _ d rfl⟩
def spLARow (K : PySem.W.Frag) : Sp := fun vs H Q _ => ∃ (a : Addr) (ls : List Int), vs = [.ref a] ∧ SqL K H a (ls.map V.int) ∧ (∀ l ∈ ls, 0 ≤ l) ∧ ls.length < 60 ∧ ∀ (H' : Hp) (v : V), Same H H' → Tk H' v ls → Q v H'
def spLAgainst (K : PySem.W.Frag) : Sp := fun vs H Q _ => ∃ (o c : Addr) (n i : Int) (gs : List (Int × Int)) (rs nx : List Int) (wi : Int) (cl : List Int), vs = [.ref o, .ref c] ∧ OwnAt K H o n i gs rs nx wi ∧ SqT K H c (cl.map V.int) ∧ cl.length < 60 ∧ (∀ z ∈ cl, z ≠ 0 ∧ z.natAbs ≤ nx.length) ∧ (∀ z ∈ nx, 0 ≤ z) ∧
  ∀ (H' : Hp) (v : V), Same H H' → Tk H' v (cl.map (led nx)) → Q v H'
def spTasks (K : PySem.W.Frag) : Sp := fun vs H Q _ => ∃ (o cs : Addr) (n i : Int) (gs : List (Int × Int)) (rs nx : List Int) (wi : Int) (us : List V) (cls : List (List Int)), vs = [.ref o, .ref cs] ∧ OwnAt K H o n i gs rs nx wi ∧ 0 ≤ wi ∧ (∀ z ∈ nx, 0 ≤ z) ∧ SqT K H cs us ∧ All2 (Tu K H) us cls ∧ cls.length ≤ 100 ∧ (∀ cl ∈ cls, cl.length < 60 ∧ ∀ z ∈ cl, z ≠ 0 ∧ z.natAbs ≤ nx.length) ∧
  ∀ (H' : Hp) (D : Addr) (ws : List V), Same H H' → H' D = some (.lst ws) → All2 (Tk H') ws (cls.map (fun cl => cl.map (led nx)) ++ [[wi]]) → Q (.ref D) H'
def spInSet (K : PySem.W.Frag) : Sp := fun vs H Q _ => ∃ (cs : Addr) (v : V) (us : List V) (cls : List (List Int)) (as : List Int), vs = [.ref cs, v] ∧ SqT K H cs us ∧ All2 (Tu K H) us cls ∧ cls.length ≤ 1000 ∧ (∀ cl ∈ cls, cl.length ≤ 1000 ∧ ∀ z ∈ cl, z ≠ 0 ∧ z.natAbs ≤ as.length) ∧ SeqI K H v as ∧ ∀ H', Same H H' → Q (.bl (cls.all (satB as))) H'
def spATrue (K : PySem.W.Frag) : Sp := fun vs H Q _ => ∃ (l c : Addr) (x : Int) (as cl : List Int), vs = [.ref l, .ref c] ∧ SqL K H l ((x :: as).map V.int) ∧ SqT K H c (cl.map V.int) ∧ cl.length ≤ 1000 ∧ as.length ≤ 1000 ∧ (∀ z ∈ cl, z ≠ 0 ∧ z.natAbs ≤ as.length) ∧ ∀ H', Same H H' → Q (.bl (cl.all fun z => satB as [z])) H'
def spSmall (K : PySem.W.Frag) : Sp := fun vs H Q _ => ∃ (p c : Addr) (k : Nat), vs = [.ref p] ∧ PenC H p c k ∧ k ≤ 10000 ∧ ∀ (H' : Hp) (o : Addr) (i r : Nat) (gs : List (Int × Int)) (rs nx : List Int) (wi : Int), PenC H' p c (k + 100) → But p H H' → OwnAt K H' o ((i + r : Nat) : Int) i gs rs nx wi → OwnOk ((i + r : Nat) : Int) i gs rs nx wi → o ≠ p → i ≤ 2 → 1 ≤ r → r ≤ 3 → Q (.ref o) H'
def spSRow (K : PySem.W.Frag) : Sp := fun vs H Q _ => ∃ (p c : Addr) (k : Nat) (m : Int), vs = [.ref p, .int m] ∧ PenC H p c k ∧ k ≤ 10000000 ∧ 1 ≤ m ∧ m ≤ 4 ∧ ∀ (H' : Hp) (t : Addr) (us : List V) (cls : List (List Int)), PenC H' p c (k + 61) → But p H H' → SqT K H' t us → All2 (Tu K H') us cls → cls.length ≤ 3 → (∀ cl ∈ cls, StC m cl) → Q (.ref t) H'
def spSpiced (K : PySem.W.Frag) : Sp := fun vs H Q _ => ∃ (p c o : Addr) (k : Nat) (n i : Int) (gs : List (Int × Int)) (rs nx : List Int) (wi : Int), vs = [.ref p, .ref o] ∧ PenC H p c k ∧ k ≤ 1000000 ∧ OwnAt K H o n i gs rs nx wi ∧ OwnOk n i gs rs nx wi ∧ o ≠ p ∧ 0 < nx.length ∧
  ∀ (H' : Hp) (o2 : Addr) (nx2 : List Int) (wi2 : Int), PenC H' p c (k + 10) → But p H H' → OwnAt K H' o2 n i gs rs nx2 wi2 → OwnOk n i gs rs nx2 wi2 → o2 ≠ p → Q (.ref o2) H'
section
variable {P : Program} {w : World} {K : PySem.W.Frag} {mg : Str → Option Value} {base : Heap} {f C M : Addr} {fd : FuncData}
abbrev nDC : List Str := ["_law_pen_here", "_law_many", "_law_most", "_law_variable", "_law_some"]
theorem scDC : FnScope nDC ["_law_pen_here", "_law_many", "_law_most"] (defScope sLDrawnClause) := ⟨rfl, rfl, rfl, by decide +kernel, rfl, by decide +kernel, by decide +kernel⟩
abbrev nFits : List Str := ["_law_assignment", "_law_clause", "_law_number"]
theorem scFits : FnScope nFits ["_law_assignment", "_law_clause"] (defScope sLFits) := ⟨rfl, rfl, rfl, by decide +kernel, rfl, by decide +kernel, by decide +kernel⟩
abbrev nGateL : List Str := ["_law_literals", "_law_literal", "_law_left"]
theorem scGateL : FnScope nGateL ["_law_literals"] (defScope sLGateClause) := ⟨rfl, rfl, rfl, by decide +kernel, rfl, by decide +kernel, by decide +kernel⟩
abbrev nGraphs : List Str := ["_law_machine", "_law_found", "_law_k", "_law_one", "_law_two", "_law_gate", "_law_row", "_law_clause"]
theorem scGraphs : FnScope nGraphs ["_law_machine"] (defScope sLGraphClauses) := ⟨rfl, rfl, rfl, by decide +kernel, rfl, by decide +kernel, by decide +kernel⟩
abbrev nLGiven : List Str := ["_law_machine", "_law_clauses", "_law_by", "_law_clause", "_law_number", "_law_moved"]
theorem scLGiven : FnScope nLGiven ["_law_machine", "_law_clauses"] (defScope sLGiven) := ⟨rfl, rfl, rfl, by decide +kernel, rfl, by decide +kernel, by decide +kernel⟩
abbrev nLAgainst : List Str := ["_law_machine", "_law_clause", "_law_literals", "_law_number", "_law_literal"]
theorem scLAgainst : FnScope nLAgainst ["_law_machine", "_law_clause"] (defScope sLAgainst) := ⟨rfl, rfl, rfl, by decide +kernel, rfl, by decide +kernel, by decide +kernel⟩
abbrev nLARow : List Str := ["_law_literals", "_law_found", "_law_number"]
theorem scLARow : FnScope nLARow ["_law_literals"] (defScope sLAgainstRow) := ⟨rfl, rfl, rfl, by decide +kernel, rfl, by decide +kernel, by decide +kernel⟩
abbrev nTasks : List Str := ["_law_machine", "_law_clauses", "_law_clause"]
theorem scTasks : FnScope nTasks ["_law_machine", "_law_clauses"] (defScope sLTasks) := ⟨rfl, rfl, rfl, by decide +kernel, rfl, by decide +kernel, by decide +kernel⟩
abbrev nInSet : List Str := ["_law_clauses", "_law_state", "_law_clause"]
theorem scInSet : FnScope nInSet ["_law_clauses", "_law_state"] (defScope sLInSet) := ⟨rfl, rfl, rfl, by decide +kernel, rfl, by decide +kernel, by decide +kernel⟩
abbrev nSmall : List Str := ["_law_pen_here"]
theorem scSmall : FnScope nSmall ["_law_pen_here"] (defScope sLSmallMachine) := ⟨rfl, rfl, rfl, by decide +kernel, rfl, by decide +kernel, by decide +kernel⟩
abbrev nSRow : List Str := ["_law_pen_here", "_law_many", "_law_k"]
theorem scSRow : FnScope nSRow ["_law_pen_here", "_law_many"] (defScope sLStateRow) := ⟨rfl, rfl, rfl, by decide +kernel, rfl, by decide +kernel, by decide +kernel⟩
abbrev nATrue : List Str := ["_law_nodes", "_law_literals", "_law_number"]
theorem scATrue : FnScope nATrue ["_law_nodes", "_law_literals"] (defScope sLAllTrue) := ⟨rfl, rfl, rfl, by decide +kernel, rfl, by decide +kernel, by decide +kernel⟩
abbrev nSorted : List Str := ["_law_numbers"]
theorem scSorted : FnScope nSorted ["_law_numbers"] (defScope sLSorted) := ⟨rfl, rfl, rfl, by decide +kernel, rfl, by decide +kernel, by decide +kernel⟩
theorem ok_dc (F : FnP K "_law_drawn_clause" sLDrawnClause f fd) (T : Tx mg)
    {fD fK : Addr} {dD dK : FuncData}
    (GD : FnOk P w K mg base CX0 1 fD dD ["_law_pen_here", "_law_many"] (spDraw)) (gD : mg "_law_draw" = some (.ref fD)) (kD : PySem.W.keepIn K (.ref fD) = true) (bD : Binds K dD ["_law_pen_here", "_law_many"] [])
    (GK : FnOk P w K mg base CX0 2 fK dK ["_law_pen_here", "_law_some"] (spPick K)) (gK : mg "_law_pick" = some (.ref fK)) (kK : PySem.W.keepIn K (.ref fK) = true) (bK : Binds K dK ["_law_pen_here", "_law_some"] [])
    : FnOk P w K mg base CX0 3 f fd ["_law_pen_here", "_law_many", "_law_most"] spDC := by
  refine F.ok scDC (fun vs H Q E h => ?_) (fun cdv A outer s H vs Q E hr h => ?_)
  · obtain ⟨p, c, k, m, rfl, _⟩ := h
    rfl
  · obtain ⟨p, c, k, m, rfl, hP, hk, m1, m4, q⟩ := h
    refine ⟨_, PSs.nox (pss_cons (ps_setLc (i := 4) (own := [("_law_variable", 3)]) (g := gName 3) (by rfl) scDC.nd rfl rfl (sw_true rfl rfl rfl (by decide +kernel)) (pi_range2 (by rfl) T.range (pa_cons pe_int (pa_cons (pe_op op_add (pv 1) pe_int) pa_nil))) (blkOk_by (N := nDC) (sc := defScope sLDrawnClause) (by decide +kernel)) (fun _ _ _ _ _ => pg_name (i := 3) scDC.nd rfl (Or.inl rfl)) (fun _ _ _ _ _ => pts_one (pt_cmpR op_lt (pe_call GD (hr.mono (by decide)) (by rfl) gD kD bD .nil pass0 (pa_cons (pv 0) (pa_cons (pv 1) pa_nil))) (pv 2) (nomark _))) (fun _ _ _ _ _ => (pv 3)))
      (C8.pss_cut (ps_set (i := 4) scDC.nd rfl (Or.inl rfl) (pe_ifExp (pt_cmpR (op_neD hr.units) (pv 4) (pe_lst pa_nil) (nomark _)) (pv 4) (pe_lst (pa_cons (pe_op op_add pe_int (pe_call GD (hr.mono (by decide)) (by rfl) gD kD bD .nil pass0 (pa_cons (pv 0) (pa_cons (pv 1) pa_nil)))) pa_nil))))
      (pss_one (ps_ret (pe_callTy (T := "tuple") (r := rTupOf K) (by exact call_tuple_of) (by rfl) T.tuple (by decide +kernel) (pa_cons (pe_lc (own := [("_law_variable", 3)]) (g := gName 3) (tt := tYes) rfl scDC.nd (pi_list (pv 4)) (blkOk_by (N := nDC) (sc := defScope sLDrawnClause) (by decide +kernel)) (fun _ _ _ _ _ => pg_name (i := 3) scDC.nd rfl (Or.inl rfl)) (fun _ _ _ _ _ => pts_nil) (fun _ _ _ _ _ => (pe_op op_mul (pv 3) (pe_call GK (hr.mono (by decide)) (by rfl) gK kK bK .nil pass0 (pa_cons (pv 0) (pa_cons (pe_lst (pa_cons pe_int (pa_cons (pe_un un_neg pe_int) pa_nil))) pa_nil)))))) pa_nil)))))), ?_⟩
    refine ⟨_, rfl, _, _, rfl, rfl, 1, m + 1, rfl, ⟨by decide, by decide, by omega, by omega⟩, fun D nD => ?_⟩
    obtain ⟨Dp, Dc⟩ := hP.free nD
    have en : (m + 1 - 1).toNat = m.toNat := by omega
    rw [en]
    refine lc_range (lo := 1) (n := m.toNat) (fun j H' => PenC H' p c (k + j) ∧ But p H H' ∧ ∃ xs : List Int, H' D = some (.lst (xs.map V.int)) ∧ xs.length ≤ j ∧ ∀ z ∈ xs, 1 ≤ z ∧ z ≤ m) ⟨hP.same (same_new nD), But.of_same (same_new nD), [], upd_same, Nat.le_refl _, fun z h => by cases h⟩ ?_ ?_
    · rintro j H1 hj ⟨P1, B1, xs, h1, l1, a1⟩
      refine ⟨rfl, ?_⟩
      refine ⟨_, rfl, _, rfl, p, c, k + j, m, rfl, P1, by omega, by omega, by omega, fun d H2 d0 d1 P2 B2 => ?_⟩
      have h2 := B2 _ _ h1 Dp
      refine ⟨_, rfl, _, _, rfl, rfl, _, rfl, ite2 (fun _ => ?_) (fun _ => ?_)⟩
      · refine ⟨_, rfl, _, h2, ?_, P2.upd Dp Dc, fun b o e ne => ?_, xs ++ [1 + (j : Int)], ?_, ?_, fun z hz => ?_⟩
        · rw [List.length_map]
          exact Nat.lt_of_lt_of_le (by omega : xs.length < 10) (by decide)
        · rw [upd_ne (ne_of_none e nD)]
          exact B2 _ _ (B1 _ _ e ne) ne
        · rw [upd_same, List.map_append]
          rfl
        · rw [List.length_append]
          show xs.length + 1 ≤ j + 1
          omega
        · rcases List.mem_append.mp hz with h | h
          · exact a1 z h
          · rw [List.mem_singleton.mp h]
            omega
      · exact ⟨P2, B1.trans B2, xs, h2, by omega, a1⟩
    rintro H1 ⟨P1, B1, xs, h1, l1, a1⟩
    have m0 : (m.toNat : Int) = m := by omega
    refine ⟨fun σ H' => ∃ (D2 : Addr) (ys : List Int), σ = [some (.ref p), some (.int m), some (.int 2), none, some (.ref D2)] ∧ PenC H' p c (k + 5) ∧ But p H H' ∧ H' D2 = some (.lst (ys.map V.int)) ∧ D2 ≠ p ∧ (ys.length : Int) ≤ m ∧ ∀ z ∈ ys, 1 ≤ z ∧ z ≤ m, ?_, ?_⟩
    · refine ⟨_, rfl, (by show 0 ≤ sizeLine; decide), fun D0 n0 => ?_⟩
      have h1' := same_new (u := .lst []) n0 _ _ h1
      refine ⟨_, _, .lst (SqL.of h1') (ints_dp _), .lst (SqL.of upd_same) .nil, sh_list _, by decide +kernel, _, rfl, ?_⟩
      rw [ne_nil_eqv]
      have P2 := P1.same (same_new (u := .lst []) n0)
      have B2 : But p H (upd H1 D0 (.lst [])) := B1.trans (But.of_same (same_new n0))
      refine ite2 (fun _ => ?_) (fun _ => ?_)
      · exact ⟨_, rfl, D, xs, rfl, P2.more (by omega), B2, h1', Dp, by omega, a1⟩
      · refine ⟨_, rfl, _, rfl, p, c, _, m, rfl, P2, by omega, by omega, by omega, fun d H3 d0 d1 P3 B3 => ⟨_, _, rfl, rfl, (by show 1 ≤ sizeLine; decide), fun D3 n3 => ?_⟩⟩
        have s3 := same_new (u := .lst [V.int (1 + d)]) n3
        refine ⟨D3, [1 + d], rfl, (P3.same s3).more (by omega), B2.trans (B3.trans (But.of_same s3)), upd_same, (P3.free n3).1, by show ((1 : Nat) : Int) ≤ m; omega, fun z hz => ?_⟩
        rw [List.mem_singleton.mp hz]
        omega
    clear P1 B1 h1 l1 a1 nD Dp Dc
    rintro σ H1 ⟨D2, ys, rfl, P1, B1, h1, ne, l1, a1⟩
    refine ⟨_, rfl, D2, rfl, ⟨_, SqL.of h1⟩, fun D nD => ?_⟩
    obtain ⟨Dp, Dc⟩ := P1.free nD
    refine lc_list (K := K) (a := D2) (xs := ys.map V.int) (fun j H' => PenC H' p c (k + 5 + j) ∧ But p H1 H' ∧ ∃ xs : List Int, H' D = some (.lst (xs.map V.int)) ∧ xs.length = j ∧ ∀ z ∈ xs, z ≠ 0 ∧ (z.natAbs : Int) ≤ m) ⟨P1.same (same_new nD), But.of_same (same_new nD), [], upd_same, rfl, fun z h => by cases h⟩ (fun j H' _ ⟨_, B, _⟩ => SqL.of (B _ _ h1 ne)) ?_ ?_
    · rintro j y H2 hj ⟨P2, B2, xs, h2, l2, a2⟩
      obtain ⟨z, rfl, hz⟩ := Lc.int_at hj
      have hj2 := (List.getElem?_eq_some_iff.mp hz).1
      obtain ⟨z1, z2⟩ := a1 z (List.mem_of_getElem? hz)
      refine ⟨rfl, yes_of ?_⟩
      refine ⟨_, rfl, _, rfl, _, rfl, (by show 2 ≤ sizeLine; decide), fun L nL => ?_⟩
      have sL := same_new (u := .lst [V.int 1, V.int (-1)]) nL
      refine ⟨p, c, L, _, [V.int 1, V.int (-1)], rfl, P2.same sL, by omega, (P2.free nL).1, SqL.of upd_same, (by show 0 < 2; decide), (by show 2 ≤ 1000; decide), fun v e H3 hv P3 B3 => ?_⟩
      obtain ⟨x, rfl, hx⟩ : ∃ x : Int, v = .int x ∧ (x = 1 ∨ x = -1) := by
        match e, hv with
        | 0, hv => exact ⟨1, (Option.some.inj hv).symm, .inl rfl⟩
        | 1, hv => exact ⟨-1, (Option.some.inj hv).symm, .inr rfl⟩
        | e + 2, hv => cases hv
      have h3 := B3 _ _ (sL _ _ h2) Dp
      refine ⟨z, x, rfl, rfl, .inl ⟨by omega, by omega⟩, _, h3, ?_, P3.upd Dp Dc, fun b o e ne => ?_, xs ++ [z * x], ?_, by rw [List.length_append, l2]; rfl, fun y hy => ?_⟩
      · rw [List.length_map]
        exact Nat.lt_of_lt_of_le (by omega : xs.length < 10) (by decide)
      · rw [upd_ne (ne_of_none e nD)]
        exact B3 _ _ (sL _ _ (B2 _ _ e ne)) ne
      · rw [upd_same, List.map_append]
        rfl
      · rcases List.mem_append.mp hy with h | h
        · exact a2 y h
        · rw [List.mem_singleton.mp h]
          rcases hx with rfl | rfl <;> omega
    · rintro H2 ⟨P2, B2, xs, h2, l2, a2⟩
      rw [List.length_map] at l2 P2
      refine ⟨D, _, rfl, .inl ⟨SqL.of h2, fun t nt => ?_⟩⟩
      have st := same_new (u := .tup (xs.map V.int)) nt
      exact q _ t xs ((P2.same st).more (by omega)) (B1.trans (B2.trans (But.of_same st))) upd_same ⟨by omega, a2⟩
theorem ok_sorted (F : FnP K "_law_sorted" sLSorted f fd) (T : Tx mg) : FnOk P w K mg base CX0 1 f fd ["_law_numbers"] (spSorted K) := by
  refine F.ok scSorted (fun vs H Q E h => ?_) (fun cdv A outer s H vs Q E hr h => ?_)
  · obtain ⟨a, ns, rfl, _⟩ := h
    rfl
  · obtain ⟨a, ns, rfl, hs, hz, q⟩ := h
    refine ⟨_, PSs.nox (pss_one (ps_ret (pe_callTy (T := "tuple") (r := rTupOf K) (by exact call_tuple_of) (by rfl) T.tuple (by decide +kernel) (pa_cons (pe_sortAbs hr (by rfl) T.sorted (by decide +kernel) (pe_callB (cr_sortedSet rfl) (by rfl) T.sorted (by decide +kernel) (pa_cons (pe_callTy (call_setL rfl) (by rfl) T.set (by decide +kernel) (pa_cons (pv 0) pa_nil)) pa_nil)) (by rfl) T.abs (by decide +kernel)) pa_nil)))), ?_⟩
    refine ⟨_, rfl, a, ns, rfl, hs, by omega, fun u n hn nu => ?_⟩
    have s1 := same_new (u := SetO w u (fun j => decide (j ∈ ns)) n) nu
    refine ⟨u, _, n, rfl, upd_same, by omega, fun ms p2 up mem lm np => ?_⟩
    have s2 := same_new (u := .lst (ms.map V.int)) np
    refine ⟨p2, ms, rfl, SqL.of upd_same, fun p3 np3 => ?_⟩
    have s3 := same_new (u := .lst ((byAbs ms).map V.int)) np3
    refine ⟨p3, _, rfl, .inl ⟨SqL.of upd_same, fun t nt => ?_⟩⟩
    exact q _ t _ (s1.trans (s2.trans (s3.trans (same_new nt)))) upd_same (byAbs_ok up fun z => (mem z).trans decide_eq_true_iff)
theorem ok_fits (F : FnP K "_law_fits" sLFits f fd) (T : Tx mg) : FnOk P w K mg base CX0 1 f fd ["_law_assignment", "_law_clause"] (spFits K) := by
  refine F.ok scFits (fun vs H Q E h => ?_) (fun cdv A outer s H vs Q E hr h => ?_)
  · obtain ⟨v, c, as, cl, rfl, _⟩ := h
    rfl
  · obtain ⟨v, c, as, cl, rfl, ⟨r, rfl, hr1⟩, hc, hz, hl, q⟩ := h
    let fit : Int → Bool := fun z => decide (as.getD (z.natAbs - 1) 0 = if z > 0 then 1 else 0)
    have ek : ∀ z : Int, decide (V.int (as.getD (z.natAbs - 1) 0) = V.int (if decide (z > 0) = true then 1 else 0)) = fit z := fun z => by
      have e1 : (if decide (z > 0) = true then (1 : Int) else 0) = if z > 0 then 1 else 0 := by
        by_cases c1 : z > 0
        · rw [if_pos (decide_eq_true c1), if_pos c1]
        · rw [if_neg (fun e => c1 (of_decide_eq_true e)), if_neg c1]
      rw [e1]
      show decide _ = decide _
      refine decide_eq_decide.mpr ⟨fun e => V.int.inj e, fun e => congrArg V.int e⟩
    rcases hr1 with hr1 | hr1
    · refine ⟨_, PSs.nox (pss_one (ps_ret (pe_cmpR (op_neD hr.units) (pe_lc (own := [("_law_number", 2)]) (g := gName 2) rfl scFits.nd (pi_tup (pv 1)) (blkOk_by (N := nFits) (sc := defScope sLFits) (by decide +kernel)) (fun _ _ _ _ _ => pg_name (i := 2) scFits.nd rfl (Or.inl rfl)) (fun _ _ _ _ _ => pts_one (pt_cmpR op_eq (pe_ix (r := L2.rIxL K) (by exact ix_list) (pv 0) (pe_op op_sub (pe_callB call_abs (by rfl) T.abs (by decide +kernel) (pa_cons (pv 2) pa_nil)) pe_int) (fun _ _ => rfl)) (pe_callTy call_int1 (by rfl) T.int (by decide +kernel) (pa_cons (pe_cmpR op_gt (pv 2) pe_int (nomark _)) pa_nil)) (nomark _))) (fun _ _ _ _ _ => pe_int)) (pe_lst pa_nil) (nomark _)))), ?_⟩
      refine ⟨_, rfl, c, rfl, ⟨_, hc⟩, fun D nD => ?_⟩
      refine lc_tup (K := K) (a := c) (xs := cl.map V.int) (fun i H2 => Same H H2 ∧ H2 D = some (.lst ((List.replicate (cnt fit (cl.take i)) (1 : Int)).map V.int))) ⟨same_new nD, by rw [upd_same]; rfl⟩ (fun i H2 _ ⟨s2, _⟩ => seqT_same s2 hc) ?_ ?_
      · rintro i y H2 hi ⟨s2, h2⟩
        obtain ⟨z, rfl, hz1⟩ := Lc.int_at hi
        obtain ⟨z0, z1⟩ := hz z (List.mem_of_getElem? hz1)
        have ej : (if z < 0 then -z else z) - 1 = ((z.natAbs - 1 : Nat) : Int) := by
          split <;> omega
        have more := cnt_more fit hz1
        refine ⟨rfl, ?_⟩
        refine ⟨_, rfl, _, rfl, _, rfl, _, _, rfl, rfl, r, _, _, _, rfl, rfl, s2.seq hr1, at_of ej (getD_of (by omega)), _, rfl, _, _, rfl, rfl, .inr ⟨_, rfl, ?_⟩⟩
        refine ⟨rfl, _, rfl, ?_⟩
        rw [ek]
        by_cases c1 : fit z = true
        · rw [if_pos c1] at more
          rw [c1]
          refine iteT ⟨_, h2, ?_, fun b o e => ?_, ?_⟩
          · rw [List.length_map, List.length_replicate]
            have e1 := cnt_le fit (cl.take i)
            rw [List.length_take] at e1
            exact Nat.lt_of_lt_of_le (by omega : cnt fit (cl.take i) < 1001) (by decide)
          · rw [upd_ne (ne_of_none e nD)]
            exact s2 _ _ e
          · rw [upd_same, more, List.replicate_succ', List.map_append]
            rfl
        · rw [if_neg c1] at more
          rw [Bool.eq_false_iff.mpr c1]
          refine iteF ⟨s2, ?_⟩
          rw [more]
          exact h2
      · rintro H2 ⟨s2, h2⟩
        rw [List.length_map, List.take_length] at h2
        refine ⟨(by show 0 ≤ sizeLine; decide), fun l nl => ?_⟩
        have sl := same_new (u := .lst []) nl
        refine ⟨_, _, .lst (SqL.of (sl _ _ h2)) (ints_dp _), .lst (SqL.of upd_same) .nil, ones_shaped _, (by rfl), ?_⟩
        rw [ones_ne, cnt_pos]
        exact q _ (s2.trans sl)
    · refine ⟨_, PSs.nox (pss_one (ps_ret (pe_cmpR (op_neD hr.units) (pe_lc (own := [("_law_number", 2)]) (g := gName 2) rfl scFits.nd (pi_tup (pv 1)) (blkOk_by (N := nFits) (sc := defScope sLFits) (by decide +kernel)) (fun _ _ _ _ _ => pg_name (i := 2) scFits.nd rfl (Or.inl rfl)) (fun _ _ _ _ _ => pts_one (pt_cmpR op_eq (pe_ix (r := L2.rIxT K) (by exact ix_tup) (pv 0) (pe_op op_sub (pe_callB call_abs (by rfl) T.abs (by decide +kernel) (pa_cons (pv 2) pa_nil)) pe_int) (fun _ _ => rfl)) (pe_callTy call_int1 (by rfl) T.int (by decide +kernel) (pa_cons (pe_cmpR op_gt (pv 2) pe_int (nomark _)) pa_nil)) (nomark _))) (fun _ _ _ _ _ => pe_int)) (pe_lst pa_nil) (nomark _)))), ?_⟩
      refine ⟨_, rfl, c, rfl, ⟨_, hc⟩, fun D nD => ?_⟩
      refine lc_tup (K := K) (a := c) (xs := cl.map V.int) (fun i H2 => Same H H2 ∧ H2 D = some (.lst ((List.replicate (cnt fit (cl.take i)) (1 : Int)).map V.int))) ⟨same_new nD, by rw [upd_same]; rfl⟩ (fun i H2 _ ⟨s2, _⟩ => seqT_same s2 hc) ?_ ?_
      · rintro i y H2 hi ⟨s2, h2⟩
        obtain ⟨z, rfl, hz1⟩ := Lc.int_at hi
        obtain ⟨z0, z1⟩ := hz z (List.mem_of_getElem? hz1)
        have ej : (if z < 0 then -z else z) - 1 = ((z.natAbs - 1 : Nat) : Int) := by
          split <;> omega
        have more := cnt_more fit hz1
        refine ⟨rfl, ?_⟩
        refine ⟨_, rfl, _, rfl, _, rfl, _, _, rfl, rfl, r, _, _, _, rfl, rfl, seqT_same s2 hr1, at_of ej (getD_of (by omega)), _, rfl, _, _, rfl, rfl, .inr ⟨_, rfl, ?_⟩⟩
        refine ⟨rfl, _, rfl, ?_⟩
        rw [ek]
        by_cases c1 : fit z = true
        · rw [if_pos c1] at more
          rw [c1]
          refine iteT ⟨_, h2, ?_, fun b o e => ?_, ?_⟩
          · rw [List.length_map, List.length_replicate]
            have e1 := cnt_le fit (cl.take i)
            rw [List.length_take] at e1
            exact Nat.lt_of_lt_of_le (by omega : cnt fit (cl.take i) < 1001) (by decide)
          · rw [upd_ne (ne_of_none e nD)]
            exact s2 _ _ e
          · rw [upd_same, more, List.replicate_succ', List.map_append]
            rfl
        · rw [if_neg c1] at more
          rw [Bool.eq_false_iff.mpr c1]
          refine iteF ⟨s2, ?_⟩
          rw [more]
          exact h2
      · rintro H2 ⟨s2, h2⟩
        rw [List.length_map, List.take_length] at h2
        refine ⟨(by show 0 ≤ sizeLine; decide), fun l nl => ?_⟩
        have sl := same_new (u := .lst []) nl
        refine ⟨_, _, .lst (SqL.of (sl _ _ h2)) (ints_dp _), .lst (SqL.of upd_same) .nil, ones_shaped _, (by rfl), ?_⟩
        rw [ones_ne, cnt_pos]
        exact q _ (s2.trans sl)
theorem ok_gate (F : FnP K "_law_gate_clause" sLGateClause f fd) (T : Tx mg)
    {fG fO : Addr} {dG dO : FuncData}
    (GG : FnOk P w K mg base CX0 1 fG dG ["_law_literal"] (spFlip)) (gG : mg "_law_flip" = some (.ref fG)) (kG : PySem.W.keepIn K (.ref fG) = true) (bG : Binds K dG ["_law_literal"] [])
    (GO : FnOk P w K mg base CX0 1 fO dO ["_law_numbers"] (spSorted K)) (gO : mg "_law_sorted" = some (.ref fO)) (kO : PySem.W.keepIn K (.ref fO) = true) (bO : Binds K dO ["_law_numbers"] [])
    : FnOk P w K mg base CX0 2 f fd ["_law_literals"] (spGate K) := by
  refine F.ok scGateL (fun vs H Q E h => ?_) (fun cdv A outer s H vs Q E hr h => ?_)
  · obtain ⟨v, ls, rfl, _⟩ := h
    rfl
  · obtain ⟨v, ls, rfl, ⟨r, rfl, hr1⟩, h0, hz, q1, q2⟩ := h
    let op : Int → Bool := fun l => decide (fl l ∈ ls)
    rcases hr1 with hr1 | hr1
    · refine ⟨_, PSs.nox (pss_cons (ps_if (PW.pt (pw_or (pt_cmpR (r := rIn K false) (by exact op_in_seq) pe_int (pv 0) (by rfl)) (pw_or1 (pt_cmpR (op_neD hr.units) (pe_lc (own := [("_law_literal", 1)]) (g := gName 1) rfl scGateL.nd (pi_list (pv 0)) (blkOk_by (N := nGateL) (sc := defScope sLGateClause) (by decide +kernel)) (fun _ _ _ _ _ => pg_name (i := 1) scGateL.nd rfl (Or.inl rfl)) (fun _ _ _ _ _ => pts_one (pt_cmpR (r := rIn K false) (by exact op_in_seq) (pe_call GG (hr.mono (by decide)) (by rfl) gG kG bG .nil pass0 (pa_cons (pv 1) pa_nil)) (pv 0) (by rfl))) (fun _ _ _ _ _ => pe_int)) (pe_lst pa_nil) (nomark _)))))
        (pss_one (ps_ret pe_non))
        pss_nil)
      (pss_cons (ps_setLc (i := 2) (own := [("_law_literal", 1)]) (g := gName 1) (by rfl) scGateL.nd rfl rfl (sw_true rfl rfl rfl (by decide +kernel)) (pi_list (pv 0)) (blkOk_by (N := nGateL) (sc := defScope sLGateClause) (by decide +kernel)) (fun _ _ _ _ _ => pg_name (i := 1) scGateL.nd rfl (Or.inl rfl)) (fun _ _ _ _ _ => pts_one (pt_cmpR op_gt (pv 1) pe_int (nomark _))) (fun _ _ _ _ _ => (pv 1)))
      (pss_one (ps_ret (pe_call GO (hr.mono (by decide)) (by rfl) gO kO bO .nil pass0 (pa_cons (pe_lc (own := [("_law_literal", 1)]) (g := gName 1) (tt := tYes) rfl scGateL.nd (pi_list (pv 2)) (blkOk_by (N := nGateL) (sc := defScope sLGateClause) (by decide +kernel)) (fun _ _ _ _ _ => pg_name (i := 1) scGateL.nd rfl (Or.inl rfl)) (fun _ _ _ _ _ => pts_nil) (fun _ _ _ _ _ => (pe_op op_mul (pe_op op_fdiv (pv 1) pe_int) (pe_op op_sub pe_int (pe_op op_mul pe_int (pe_op op_mod (pe_callTy call_int1 (by rfl) T.int (by decide +kernel) (pa_cons (pv 1) pa_nil)) pe_int)))))) pa_nil)))))), ?_⟩
      refine ⟨_, rfl, r, _, rfl, .inl hr1, rfl, flat_ints ls, _, rfl, ?_⟩
      show if inV (.int 1) (ls.map V.int) = true then _ else _
      rw [inV_int]
      refine ite2 (fun c1 => q1 (bad_of (.inl (of_decide_eq_true c1))) H (Same.refl _)) (fun c1 => ?_)
      have n1 : ¬ (1 : Int) ∈ ls := fun m => c1 (decide_eq_true m)
      refine ⟨_, rfl, r, rfl, ⟨_, hr1⟩, fun D nD => ?_⟩
      refine lc_list (K := K) (a := r) (xs := ls.map V.int) (fun i H2 => Same H H2 ∧ H2 D = some (.lst ((List.replicate (cnt op (ls.take i)) (1 : Int)).map V.int))) ⟨same_new nD, by rw [upd_same]; rfl⟩ (fun i H2 _ ⟨s2, _⟩ => s2.seq hr1) ?_ ?_
      · rintro i y H2 hi ⟨s2, h2⟩
        obtain ⟨l, rfl, hl⟩ := Lc.int_at hi
        have more := cnt_more op hl
        refine ⟨rfl, ?_⟩
        refine ⟨_, rfl, l, rfl, _, rfl, r, _, rfl, .inl (s2.seq hr1), rfl, flat_ints ls, _, rfl, ?_⟩
        show if inV (.int (fl l)) (ls.map V.int) = true then _ else _
        rw [inV_int]
        by_cases c2 : op l = true
        · rw [if_pos c2] at more
          refine ite2 (fun _ => ⟨_, h2, ?_, fun b o e => ?_, ?_⟩) (fun z => absurd c2 z)
          · rw [List.length_map, List.length_replicate]
            have e1 := cnt_le op (ls.take i)
            rw [List.length_take] at e1
            exact Nat.lt_of_lt_of_le (by omega : cnt op (ls.take i) < 1001) (by decide)
          · rw [upd_ne (ne_of_none e nD)]
            exact s2 _ _ e
          · rw [upd_same, more, List.replicate_succ', List.map_append]
            rfl
        · rw [if_neg c2] at more
          refine ite2 (fun z => absurd z c2) (fun _ => ⟨s2, ?_⟩)
          rw [more]
          exact h2
      rintro H2 ⟨s2, h2⟩
      rw [List.length_map, List.take_length] at h2
      refine ⟨(by show 0 ≤ sizeLine; decide), fun l nl => ?_⟩
      have sl := same_new (u := .lst []) nl
      refine ⟨_, _, .lst (SqL.of (sl _ _ h2)) (ints_dp _), .lst (SqL.of upd_same) .nil, ones_shaped _, (by rfl), _, rfl, ?_⟩
      rw [ones_ne, cnt_pos]
      have s3 := s2.trans sl
      refine ite2 (fun c2 => ?_) (fun c2 => ?_)
      · obtain ⟨l, hl, ho⟩ := List.any_eq_true.mp c2
        exact q1 (bad_of (.inr ⟨l, hl, of_decide_eq_true ho⟩)) _ s3
      have nb : bad ls = false := by
        cases hb : bad ls with
        | false => rfl
        | true =>
          rcases is_bad hb with z | ⟨l, hl, z⟩
          · exact absurd z n1
          · exact absurd (List.any_eq_true.mpr ⟨l, hl, decide_eq_true z⟩) c2
      have hr3 := s3.seq hr1
      refine ⟨_, rfl, r, rfl, ⟨_, hr3⟩, fun E0 nE => ?_⟩
      generalize upd H2 l (.lst []) = H3 at s3 hr3 nE ⊢
      refine lc_list (K := K) (a := r) (xs := ls.map V.int) (fun i H4 => Same H3 H4 ∧ H4 E0 = some (.lst (((ls.take i).filter fun l => decide (l > 1)).map V.int))) ⟨same_new nE, upd_same⟩ (fun i H4 _ ⟨s4, _⟩ => s4.seq hr3) ?_ ?_
      · rintro i y H4 hi ⟨s4, h4⟩
        obtain ⟨l, rfl, hl⟩ := Lc.int_at hi
        have lt := (List.getElem?_eq_some_iff.mp hl).1
        refine ⟨rfl, _, rfl, _, _, rfl, rfl, _, rfl, ite2 (fun c3 => ?_) (fun c3 => ?_)⟩
        · refine ⟨_, rfl, _, h4, ?_, fun b o e => ?_, ?_⟩
          · rw [List.length_map]
            exact Nat.lt_of_le_of_lt (List.length_filter_le _ _) (Nat.lt_of_le_of_lt (List.length_take_le _ _) (Nat.lt_of_lt_of_le (by omega : i < 60) (by decide)))
          · rw [upd_ne (ne_of_none e nE)]
            exact s4 _ _ e
          · rw [upd_same, take_more hl, List.filter_append, List.map_append, show List.filter (fun l => decide (l > 1)) [l] = [l] from List.filter_cons_of_pos (p := fun l => decide (l > 1)) c3]
            rfl
        · refine ⟨s4, ?_⟩
          rw [take_more hl, List.filter_append, show List.filter (fun l => decide (l > 1)) [l] = [] from List.filter_cons_of_neg (p := fun l => decide (l > 1)) c3, List.append_nil]
          exact h4
      rintro H4 ⟨s4, h4⟩
      rw [List.length_map, List.take_length] at h4
      have fl2 : (ls.filter fun l => decide (l > 1)).length ≤ ls.length := List.length_filter_le _ _
      refine ⟨_, rfl, E0, rfl, ⟨_, SqL.of h4⟩, fun G0 nG => ?_⟩
      refine lc_list (K := K) (a := E0) (xs := (ls.filter fun l => decide (l > 1)).map V.int) (fun i H5 => Same H4 H5 ∧ H5 G0 = some (.lst ((((ls.filter fun l => decide (l > 1)).take i).map sgn).map V.int))) ⟨same_new nG, upd_same⟩ (fun i H5 _ ⟨s5, _⟩ => SqL.of (s5 _ _ h4)) ?_ ?_
      · rintro i y H5 hi ⟨s5, h5⟩
        obtain ⟨l, rfl, hl⟩ := Lc.int_at hi
        have lt := (List.getElem?_eq_some_iff.mp hl).1
        refine ⟨rfl, yes_of ?_⟩
        refine ⟨_, rfl, _, _, rfl, rfl, ⟨by decide, by decide⟩, ?_⟩
        refine ⟨_, rfl, .inl ⟨_, rfl, _, _, rfl, rfl, (by show (0 : Int) < 2; decide), _, _, rfl, rfl, .inl ⟨by decide, by decide⟩, _, _, rfl, rfl, _, _, rfl, rfl, .inr ⟨by omega, by omega⟩, ?_⟩⟩
        refine ⟨_, h5, ?_, fun b o e => ?_, ?_⟩
        · rw [List.length_map, List.length_map]
          exact Nat.lt_of_le_of_lt (List.length_take_le _ _) (Nat.lt_of_lt_of_le (by omega : i < 60) (by decide))
        · rw [upd_ne (ne_of_none e nG)]
          exact s5 _ _ e
        · rw [upd_same, take_more hl, List.map_append, List.map_append]
          show some (HO.lst (_ ++ [V.int (l / 2 * (1 - 2 * (l % 2)))])) = some (HO.lst (_ ++ [V.int (sgn l)]))
          rw [sgn_mul]
      rintro H5 ⟨s5, h5⟩
      rw [List.length_map, List.take_length] at h5
      have s6 := s3.trans (s4.trans s5)
      exact ⟨G0, _, rfl, SqL.of h5, by rw [List.length_map]; omega, fun H7 t cl s7 ht hcl => q2 nb H7 t cl (s6.trans s7) (isCl_sorted h0 nb hcl) ht⟩
    · refine ⟨_, PSs.nox (pss_cons (ps_if (PW.pt (pw_or (pt_cmpR (r := rIn K false) (by exact op_in_seq) pe_int (pv 0) (by rfl)) (pw_or1 (pt_cmpR (op_neD hr.units) (pe_lc (own := [("_law_literal", 1)]) (g := gName 1) rfl scGateL.nd (pi_tup (pv 0)) (blkOk_by (N := nGateL) (sc := defScope sLGateClause) (by decide +kernel)) (fun _ _ _ _ _ => pg_name (i := 1) scGateL.nd rfl (Or.inl rfl)) (fun _ _ _ _ _ => pts_one (pt_cmpR (r := rIn K false) (by exact op_in_seq) (pe_call GG (hr.mono (by decide)) (by rfl) gG kG bG .nil pass0 (pa_cons (pv 1) pa_nil)) (pv 0) (by rfl))) (fun _ _ _ _ _ => pe_int)) (pe_lst pa_nil) (nomark _)))))
        (pss_one (ps_ret pe_non))
        pss_nil)
      (pss_cons (ps_setLc (i := 2) (own := [("_law_literal", 1)]) (g := gName 1) (by rfl) scGateL.nd rfl rfl (sw_true rfl rfl rfl (by decide +kernel)) (pi_tup (pv 0)) (blkOk_by (N := nGateL) (sc := defScope sLGateClause) (by decide +kernel)) (fun _ _ _ _ _ => pg_name (i := 1) scGateL.nd rfl (Or.inl rfl)) (fun _ _ _ _ _ => pts_one (pt_cmpR op_gt (pv 1) pe_int (nomark _))) (fun _ _ _ _ _ => (pv 1)))
      (pss_one (ps_ret (pe_call GO (hr.mono (by decide)) (by rfl) gO kO bO .nil pass0 (pa_cons (pe_lc (own := [("_law_literal", 1)]) (g := gName 1) (tt := tYes) rfl scGateL.nd (pi_list (pv 2)) (blkOk_by (N := nGateL) (sc := defScope sLGateClause) (by decide +kernel)) (fun _ _ _ _ _ => pg_name (i := 1) scGateL.nd rfl (Or.inl rfl)) (fun _ _ _ _ _ => pts_nil) (fun _ _ _ _ _ => (pe_op op_mul (pe_op op_fdiv (pv 1) pe_int) (pe_op op_sub pe_int (pe_op op_mul pe_int (pe_op op_mod (pe_callTy call_int1 (by rfl) T.int (by decide +kernel) (pa_cons (pv 1) pa_nil)) pe_int)))))) pa_nil)))))), ?_⟩
      refine ⟨_, rfl, r, _, rfl, .inr hr1, rfl, flat_ints ls, _, rfl, ?_⟩
      show if inV (.int 1) (ls.map V.int) = true then _ else _
      rw [inV_int]
      refine ite2 (fun c1 => q1 (bad_of (.inl (of_decide_eq_true c1))) H (Same.refl _)) (fun c1 => ?_)
      have n1 : ¬ (1 : Int) ∈ ls := fun m => c1 (decide_eq_true m)
      refine ⟨_, rfl, r, rfl, ⟨_, hr1⟩, fun D nD => ?_⟩
      refine lc_tup (K := K) (a := r) (xs := ls.map V.int) (fun i H2 => Same H H2 ∧ H2 D = some (.lst ((List.replicate (cnt op (ls.take i)) (1 : Int)).map V.int))) ⟨same_new nD, by rw [upd_same]; rfl⟩ (fun i H2 _ ⟨s2, _⟩ => seqT_same s2 hr1) ?_ ?_
      · rintro i y H2 hi ⟨s2, h2⟩
        obtain ⟨l, rfl, hl⟩ := Lc.int_at hi
        have more := cnt_more op hl
        refine ⟨rfl, ?_⟩
        refine ⟨_, rfl, l, rfl, _, rfl, r, _, rfl, .inr (seqT_same s2 hr1), rfl, flat_ints ls, _, rfl, ?_⟩
        show if inV (.int (fl l)) (ls.map V.int) = true then _ else _
        rw [inV_int]
        by_cases c2 : op l = true
        · rw [if_pos c2] at more
          refine ite2 (fun _ => ⟨_, h2, ?_, fun b o e => ?_, ?_⟩) (fun z => absurd c2 z)
          · rw [List.length_map, List.length_replicate]
            have e1 := cnt_le op (ls.take i)
            rw [List.length_take] at e1
            exact Nat.lt_of_lt_of_le (by omega : cnt op (ls.take i) < 1001) (by decide)
          · rw [upd_ne (ne_of_none e nD)]
            exact s2 _ _ e
          · rw [upd_same, more, List.replicate_succ', List.map_append]
            rfl
        · rw [if_neg c2] at more
          refine ite2 (fun z => absurd z c2) (fun _ => ⟨s2, ?_⟩)
          rw [more]
          exact h2
      rintro H2 ⟨s2, h2⟩
      rw [List.length_map, List.take_length] at h2
      refine ⟨(by show 0 ≤ sizeLine; decide), fun l nl => ?_⟩
      have sl := same_new (u := .lst []) nl
      refine ⟨_, _, .lst (SqL.of (sl _ _ h2)) (ints_dp _), .lst (SqL.of upd_same) .nil, ones_shaped _, (by rfl), _, rfl, ?_⟩
      rw [ones_ne, cnt_pos]
      have s3 := s2.trans sl
      refine ite2 (fun c2 => ?_) (fun c2 => ?_)
      · obtain ⟨l, hl, ho⟩ := List.any_eq_true.mp c2
        exact q1 (bad_of (.inr ⟨l, hl, of_decide_eq_true ho⟩)) _ s3
      have nb : bad ls = false := by
        cases hb : bad ls with
        | false => rfl
        | true =>
          rcases is_bad hb with z | ⟨l, hl, z⟩
          · exact absurd z n1
          · exact absurd (List.any_eq_true.mpr ⟨l, hl, decide_eq_true z⟩) c2
      have hr3 := seqT_same s3 hr1
      refine ⟨_, rfl, r, rfl, ⟨_, hr3⟩, fun E0 nE => ?_⟩
      generalize upd H2 l (.lst []) = H3 at s3 hr3 nE ⊢
      refine lc_tup (K := K) (a := r) (xs := ls.map V.int) (fun i H4 => Same H3 H4 ∧ H4 E0 = some (.lst (((ls.take i).filter fun l => decide (l > 1)).map V.int))) ⟨same_new nE, upd_same⟩ (fun i H4 _ ⟨s4, _⟩ => seqT_same s4 hr3) ?_ ?_
      · rintro i y H4 hi ⟨s4, h4⟩
        obtain ⟨l, rfl, hl⟩ := Lc.int_at hi
        have lt := (List.getElem?_eq_some_iff.mp hl).1
        refine ⟨rfl, _, rfl, _, _, rfl, rfl, _, rfl, ite2 (fun c3 => ?_) (fun c3 => ?_)⟩
        · refine ⟨_, rfl, _, h4, ?_, fun b o e => ?_, ?_⟩
          · rw [List.length_map]
            exact Nat.lt_of_le_of_lt (List.length_filter_le _ _) (Nat.lt_of_le_of_lt (List.length_take_le _ _) (Nat.lt_of_lt_of_le (by omega : i < 60) (by decide)))
          · rw [upd_ne (ne_of_none e nE)]
            exact s4 _ _ e
          · rw [upd_same, take_more hl, List.filter_append, List.map_append, show List.filter (fun l => decide (l > 1)) [l] = [l] from List.filter_cons_of_pos (p := fun l => decide (l > 1)) c3]
            rfl
        · refine ⟨s4, ?_⟩
          rw [take_more hl, List.filter_append, show List.filter (fun l => decide (l > 1)) [l] = [] from List.filter_cons_of_neg (p := fun l => decide (l > 1)) c3, List.append_nil]
          exact h4
      rintro H4 ⟨s4, h4⟩
      rw [List.length_map, List.take_length] at h4
      have fl2 : (ls.filter fun l => decide (l > 1)).length ≤ ls.length := List.length_filter_le _ _
      refine ⟨_, rfl, E0, rfl, ⟨_, SqL.of h4⟩, fun G0 nG => ?_⟩
      refine lc_list (K := K) (a := E0) (xs := (ls.filter fun l => decide (l > 1)).map V.int) (fun i H5 => Same H4 H5 ∧ H5 G0 = some (.lst ((((ls.filter fun l => decide (l > 1)).take i).map sgn).map V.int))) ⟨same_new nG, upd_same⟩ (fun i H5 _ ⟨s5, _⟩ => SqL.of (s5 _ _ h4)) ?_ ?_
      · rintro i y H5 hi ⟨s5, h5⟩
        obtain ⟨l, rfl, hl⟩ := Lc.int_at hi
        have lt := (List.getElem?_eq_some_iff.mp hl).1
        refine ⟨rfl, yes_of ?_⟩
        refine ⟨_, rfl, _, _, rfl, rfl, ⟨by decide, by decide⟩, ?_⟩
        refine ⟨_, rfl, .inl ⟨_, rfl, _, _, rfl, rfl, (by show (0 : Int) < 2; decide), _, _, rfl, rfl, .inl ⟨by decide, by decide⟩, _, _, rfl, rfl, _, _, rfl, rfl, .inr ⟨by omega, by omega⟩, ?_⟩⟩
        refine ⟨_, h5, ?_, fun b o e => ?_, ?_⟩
        · rw [List.length_map, List.length_map]
          exact Nat.lt_of_le_of_lt (List.length_take_le _ _) (Nat.lt_of_lt_of_le (by omega : i < 60) (by decide))
        · rw [upd_ne (ne_of_none e nG)]
          exact s5 _ _ e
        · rw [upd_same, take_more hl, List.map_append, List.map_append]
          show some (HO.lst (_ ++ [V.int (l / 2 * (1 - 2 * (l % 2)))])) = some (HO.lst (_ ++ [V.int (sgn l)]))
          rw [sgn_mul]
      rintro H5 ⟨s5, h5⟩
      rw [List.length_map, List.take_length] at h5
      have s6 := s3.trans (s4.trans s5)
      exact ⟨G0, _, rfl, SqL.of h5, by rw [List.length_map]; omega, fun H7 t cl s7 ht hcl => q2 nb H7 t cl (s6.trans s7) (isCl_sorted h0 nb hcl) ht⟩
end
end Jv
namespace Jw
open PySem PySem.Spec PyProof.Rows L2 Pen Dat Ki Fi Gr No Lf Cm Cn Cp Cq Mc Lc Dm Wm Ju Abk Ack Jv
/-! ## k44: what the law itself says, second part -/
theorem len1 : 1 ≤ sizeLine := by decide
theorem len2 : 2 ≤ sizeLine := by decide
theorem len3 : 3 ≤ sizeLine := by decide
theorem len0 : 0 ≤ sizeLine := by decide
section
variable {P : Program} {w : World} {K : PySem.W.Frag} {mg : Str → Option Value} {base : Heap} {f C M : Addr} {fd : FuncData}
theorem three_at {H : Hp} {r1 r2 r3 : Addr} {G : Int} {p : Int × Int} {j : Nat} {y : V} (h : [V.ref r1, .ref r2, .ref r3][j]? = some y) (e1 : H r1 = some (.tup [.int p.1, .int (G + 1)])) (e2 : H r2 = some (.tup [.int p.2, .int (G + 1)])) (e3 : H r3 = some (.tup [.int (fl p.1), .int (fl p.2), .int G])) :
    ∃ ls r, y = .ref r ∧ (three G p)[j]? = some ls ∧ SqT K H r (ls.map V.int) := by
  match j, h with
  | 0, h => exact ⟨_, r1, (Option.some.inj h).symm, rfl, SqT.of e1⟩
  | 1, h => exact ⟨_, r2, (Option.some.inj h).symm, rfl, SqT.of e2⟩
  | 2, h => exact ⟨_, r3, (Option.some.inj h).symm, rfl, SqT.of e3⟩
  | j + 3, h => cases h
abbrev nGraphs : List Str := ["_law_machine", "_law_found", "_law_k", "_law_one", "_law_two", "_law_gate", "_law_row", "_law_clause"]
theorem scGraphs : FnScope nGraphs ["_law_machine"] (defScope sLGraphClauses) := ⟨rfl, rfl, rfl, by decide +kernel, rfl, by decide +kernel, by decide +kernel⟩
abbrev nLARow : List Str := ["_law_literals", "_law_found", "_law_number"]
theorem scLARow : FnScope nLARow ["_law_literals"] (defScope sLAgainstRow) := ⟨rfl, rfl, rfl, by decide +kernel, rfl, by decide +kernel, by decide +kernel⟩
abbrev nLAgainst : List Str := ["_law_machine", "_law_clause", "_law_literals", "_law_number", "_law_literal"]
theorem scLAgainst : FnScope nLAgainst ["_law_machine", "_law_clause"] (defScope sLAgainst) := ⟨rfl, rfl, rfl, by decide +kernel, rfl, by decide +kernel, by decide +kernel⟩
theorem ok_graphs (F : FnP K "_law_graph_clauses" sLGraphClauses f fd) (T : Jv.Tx mg)
    {fG fE : Addr} {dG dE : FuncData}
    (GG : FnOk P w K mg base CX0 1 fG dG ["_law_literal"] (spFlip)) (gG : mg "_law_flip" = some (.ref fG)) (kG : PySem.W.keepIn K (.ref fG) = true) (bG : Binds K dG ["_law_literal"] [])
    (GE : FnOk P w K mg base CX0 2 fE dE ["_law_literals"] (spGate K)) (gE : mg "_law_gate_clause" = some (.ref fE)) (kE : PySem.W.keepIn K (.ref fE) = true) (bE : Binds K dE ["_law_literals"] [])
    : FnOk P w K mg base CX0 3 f fd ["_law_machine"] (spGraphs K) := by
  refine F.ok scGraphs (fun vs H Q E h => ?_) (fun cdv A outer s H vs Q E hr h => ?_)
  · obtain ⟨o, n, i, gs, rs, nx, wi, rfl, _⟩ := h
    rfl
  · obtain ⟨o, n, i, gs, rs, nx, wi, rfl, hO, hok, hz, q⟩ := h
    have hu := hu_of hr
    obtain ⟨g, t1, t2, ho, ⟨ps, hg, ha⟩, h1, h2⟩ := hO
    refine ⟨_, PSs.nox (pss_cons (ps_set (i := 1) scGraphs.nd rfl (Or.inl rfl) (pe_lst pa_nil))
      (pss_cons (ps_for PassesOwn.never rfl (En.pi_enT (by rfl) T.enum (pa_cons (pe_dget hu (pv 0) pe_str (fun _ _ => rfl)) pa_nil)) (pg_tup rfl (pgs_cons (pg_name (i := 2) scGraphs.nd rfl (Or.inl rfl)) (pgs_cons (pg_tup rfl (pgs_cons (pg_name (i := 3) scGraphs.nd rfl (Or.inl rfl)) (pgs_cons (pg_name (i := 4) scGraphs.nd rfl (Or.inl rfl)) pgs_nil))) pgs_nil)))
        (pss_cons (ps_set (i := 5) scGraphs.nd rfl (Or.inl rfl) (pe_op op_mul pe_int (pe_op op_add (pe_op op_add pe_int (pe_dget hu (pv 0) pe_str (fun _ _ => rfl))) (pv 2))))
        (pss_one (ps_for PassesOwn.never rfl (pi_list (pe_lst (pa_cons (pe_tup (pa_cons (pv 3) (pa_cons (pe_op op_add (pv 5) pe_int) pa_nil))) (pa_cons (pe_tup (pa_cons (pv 4) (pa_cons (pe_op op_add (pv 5) pe_int) pa_nil))) (pa_cons (pe_tup (pa_cons (pe_call GG (hr.mono (by decide)) (by rfl) gG kG bG .nil pass0 (pa_cons (pv 3) pa_nil)) (pa_cons (pe_call GG (hr.mono (by decide)) (by rfl) gG kG bG .nil pass0 (pa_cons (pv 4) pa_nil)) (pa_cons (pv 5) pa_nil)))) pa_nil))))) (pg_name (i := 6) scGraphs.nd rfl (Or.inl rfl))
          (pss_cons (ps_set (i := 7) scGraphs.nd rfl (Or.inl rfl) (pe_call GE (hr.mono (by decide)) (by rfl) gE kE bE .nil pass0 (pa_cons (pv 6) pa_nil)))
          (pss_one (ps_set (i := 1) scGraphs.nd rfl (Or.inl rfl) (pe_op op_cat (pv 1) (pe_ifExp (pt_cmpR op_notN (pv 7) pe_non (nomark _)) (pe_lst (pa_cons (pv 7) pa_nil)) (pe_lst pa_nil))))))))))
      (pss_one (ps_ret (pe_callTy (T := "tuple") (r := rTupOf K) (by exact call_tuple_of) (by rfl) T.tuple (by decide +kernel) (pa_cons (pv 1) pa_nil)))))), ?_⟩
    refine ⟨len0, fun D nD => ?_⟩
    have sD := same_new (u := .lst []) nD
    refine ⟨_, rfl, o, _, rfl, og_gates (sD _ _ ho), g, ps, rfl, seqT_same sD hg, En.for_enT (K := K) (a := g) (xs := ps)
      (fun k σ H' => ∃ (x2 x3 x4 x5 x6 x7 : Option V) (D1 : Addr) (ws : List V), σ = [some (.ref o), some (.ref D1), x2, x3, x4, x5, x6, x7] ∧ Same H H' ∧ H' D1 = some (.lst ws) ∧ All2 (Tu K H') ws (clauses n (gs.take k)))
      ⟨_, _, _, _, _, _, D, [], rfl, sD, upd_same, .nil⟩ (fun k σ H' _ ⟨_, _, _, _, _, _, _, _, _, s, _⟩ => seqT_same s hg) ?_ ?_⟩
    · rintro k x σ H0 T1 hx ⟨x2, x3, x4, x5, x6, x7, D1, ws, rfl, s0, hD1, a0⟩ nT
      obtain ⟨pr, hp, qa, rfl, hqa⟩ := ha.get hx
      have sT := same_new (u := .tup [.int (k : Nat), V.ref qa]) nT
      have s1 := s0.trans sT
      have kl := (List.getElem?_eq_some_iff.mp hp).1
      obtain ⟨⟨p1, p2⟩, p3, p4⟩ := okG_at hok hp
      refine ⟨T1, _, rfl, SqT.of upd_same, rfl, _, _, rfl, _, _, rfl, qa, _, rfl, seqT_same s1 hqa, rfl, _, _, rfl, _, _, rfl, rfl, rfl, ?_⟩
      have a1 := a0.imp fun _ _ h => h.firm (Firm.of sT)
      have hD1' := sT _ _ hD1
      generalize upd H0 T1 _ = H1 at s1 hD1' a1 ⊢
      clear s0 sT nT hD1 a0
      refine ⟨_, rfl, o, _, rfl, og_leaves (s1 _ _ ho), _, _, rfl, rfl, _, rfl, _, _, rfl, rfl, _, _, rfl, rfl, .inl ⟨by decide, by decide⟩, ?_⟩
      have eg : 2 * (1 + (n : Int) + (k : Int)) = 2 * (((n + k : Nat) : Int) + 1) := by
        rw [Int.natCast_add]
        omega
      have ct := clauses_take n hp
      rw [← eg] at ct
      have G0 : 0 ≤ 2 * (1 + (n : Int) + (k : Int)) := by omega
      let G : Int := 2 * (1 + (n : Int) + (k : Int))
      replace ct : clauses n (gs.take (k + 1)) = clauses n (gs.take k) ++ (three G pr).filterMap clM := ct
      replace G0 : 0 ≤ G := G0
      refine ⟨_, rfl, _, rfl, _, _, rfl, rfl, len2, fun r1 n1 => ?_⟩
      have z1 := same_new (u := .tup [V.int pr.1, .int (G + 1)]) n1
      refine ⟨_, rfl, _, rfl, _, _, rfl, rfl, len2, fun r2 n2 => ?_⟩
      have z2 := same_new (u := .tup [V.int pr.2, .int (G + 1)]) n2
      refine ⟨_, rfl, pr.1, rfl, _, rfl, pr.2, rfl, _, rfl, len3, fun r3 n3 => ?_⟩
      have z3 := same_new (u := .tup [V.int (fl pr.1), .int (fl pr.2), .int G]) n3
      refine ⟨len3, fun L nL => ?_⟩
      have z4 := same_new (u := .lst [V.ref r1, .ref r2, .ref r3]) nL
      have z14 := z1.trans (z2.trans (z3.trans z4))
      have e1 := (z2.trans (z3.trans z4)) _ _ (upd_same (H := H1) (a := r1))
      have e2 := (z3.trans z4) _ _ (upd_same (a := r2))
      have e3 := z4 _ _ (upd_same (a := r3))
      have eL := upd_same (H := upd (upd (upd H1 r1 (.tup [V.int pr.1, .int (G + 1)])) r2 (.tup [V.int pr.2, .int (G + 1)])) r3 (.tup [V.int (fl pr.1), .int (fl pr.2), .int G])) (a := L) (o := .lst [V.ref r1, .ref r2, .ref r3])
      generalize upd (upd (upd (upd H1 r1 _) r2 _) r3 _) L _ = H2 at z14 e1 e2 e3 eL ⊢
      have s2 := s1.trans z14
      have a2 := a1.imp fun _ _ h => h.firm (Firm.of z14)
      have hD2 := z14 _ _ hD1'
      clear z1 z2 z3 z4 n1 n2 n3 nL a1 hD1' z14 s1
      have tl := three_len G pr
      have cl0 := clauses_len (gs.take k) n
      have gl : (gs.take k).length ≤ 60 := Nat.le_trans (List.length_take_le _ _) (by omega)
      refine ⟨L, rfl, ⟨_, SqL.of eL⟩, for_list (K := K) (a := L) (xs := [V.ref r1, .ref r2, .ref r3])
        (fun j σ H' => ∃ (x6 x7 : Option V) (D1 : Addr) (ws : List V), σ = [some (.ref o), some (.ref D1), some (.int (k : Nat)), some (.int pr.1), some (.int pr.2), some (.int G), x6, x7] ∧ Same H2 H' ∧ H' D1 = some (.lst ws) ∧ All2 (Tu K H') ws (clauses n (gs.take k) ++ ((three G pr).take j).filterMap clM))
        ⟨_, _, D1, ws, rfl, Same.refl _, hD2, by rw [List.take_zero, List.filterMap_nil, List.append_nil]; exact a2⟩ (fun j σ H' _ ⟨_, _, _, _, _, s, _⟩ => SqL.of (s _ _ eL)) ?_ ?_⟩
      · clear hD2 a2
        rintro j y σ H3 hj ⟨x6, x7, D1, ws, rfl, s3, hD3, a3⟩
        obtain ⟨ls, r, rfl, hls, hr3⟩ := three_at (K := K) hj e1 e2 e3
        obtain ⟨l0, l3⟩ := three_ok G0 p1 p3 ls (List.mem_of_getElem? hls)
        have l4 : ls.length < 60 := by
          match j, hls with
          | 0, h => rw [← Option.some.inj h]; show 2 < 60; decide
          | 1, h => rw [← Option.some.inj h]; show 2 < 60; decide
          | 2, h => rw [← Option.some.inj h]; show 3 < 60; decide
          | j + 3, h => cases h
        have ft := filterMap_take (f := clM) hls
        have wl : ws.length ≤ 200 := by
          rw [a3.len, List.length_append]
          have := tl j
          omega
        refine ⟨_, rfl, .ref r, ls, rfl, ⟨r, rfl, .inr (seqT_same s3 hr3)⟩, l0, l4, fun hb H4 s4 => ?_, fun hb H4 t cl s4 hcl ht => ?_⟩
        · refine ⟨_, rfl, _, rfl, rfl, _, rfl, iteF ⟨len0, fun E0 nE => ⟨D1, E0, _, _, rfl, rfl, same_new nE _ _ (s4 _ _ hD3), upd_same, ?_, fun D2 nD2 => ?_⟩⟩⟩
          · exact Nat.le_trans wl (by decide)
          · have s5 := s4.trans ((same_new nE).trans (same_new (u := .lst (ws ++ [])) nD2))
            refine ⟨_, _, D2, ws ++ [], rfl, s3.trans s5, upd_same, ?_⟩
            have a5 := a3.imp fun _ _ h => h.firm (Firm.of s5)
            rw [ft, show clM ls = none by unfold clM; rw [hb]; rfl]
            show All2 _ (ws ++ []) (_ ++ (_ ++ []))
            rw [List.append_nil ws, List.append_nil] at *
            exact a5
        · refine ⟨_, rfl, _, rfl, rfl, _, rfl, iteT ⟨_, rfl, len1, fun E0 nE => ⟨D1, E0, _, _, rfl, rfl, same_new nE _ _ (s4 _ _ hD3), upd_same, ?_, fun D2 nD2 => ?_⟩⟩⟩
          · exact Nat.le_trans (by show ws.length + 1 ≤ 201; omega) (by decide)
          · have s6 := (same_new (u := .lst [V.ref t]) nE).trans (same_new (u := .lst (ws ++ [V.ref t])) nD2)
            have s5 := s4.trans s6
            refine ⟨_, _, D2, ws ++ [.ref t], rfl, s3.trans s5, upd_same, ?_⟩
            have ec : clM ls = some cl := by
              unfold clM
              rw [hb, isCl_uniq hcl (isCl_clL l0 hb)]
              rfl
            rw [ft, ec, ← List.append_assoc]
            exact (a3.imp fun _ _ h => h.firm (Firm.of s5)).snoc ⟨t, rfl, s6 _ _ ht⟩
      · rintro σ H3 ⟨x6, x7, D1, ws, rfl, s3, hD3, a3⟩
        refine ⟨_, _, _, _, _, _, D1, ws, rfl, s2.trans s3, hD3, ?_⟩
        rw [ct]
        exact a3
    · rintro σ H0 ⟨x2, x3, x4, x5, x6, x7, D1, ws, rfl, s0, hD1, a0⟩
      rw [ha.len, List.take_length] at a0
      refine ⟨_, rfl, D1, _, rfl, .inl ⟨SqL.of hD1, fun t nt => ?_⟩⟩
      have st := same_new (u := .tup ws) nt
      exact q _ t ws (s0.trans st) upd_same (a0.imp fun _ _ h => h.firm (Firm.of st))
theorem ok_larow (F : FnP K "_law_against_row" sLAgainstRow f fd) (T : Jv.Tx mg)
    {fE : Addr} {dE : FuncData}
    (GE : FnOk P w K mg base CX0 2 fE dE ["_law_literals"] (spGate K)) (gE : mg "_law_gate_clause" = some (.ref fE)) (kE : PySem.W.keepIn K (.ref fE) = true) (bE : Binds K dE ["_law_literals"] [])
    : FnOk P w K mg base CX0 3 f fd ["_law_literals"] (spLARow K) := by
  refine F.ok scLARow (fun vs H Q E h => ?_) (fun cdv A outer s H vs Q E hr h => ?_)
  · obtain ⟨a, ls, rfl, _⟩ := h
    rfl
  · obtain ⟨a, ls, rfl, hs, h0, hz, q⟩ := h
    refine ⟨_, PSs.nox (pss_cons (ps_set (i := 1) scLARow.nd rfl (Or.inl rfl) (pe_call GE (hr.mono (by decide)) (by rfl) gE kE bE .nil pass0 (pa_cons (pv 0) pa_nil)))
      (pss_one (ps_ret (pe_ifExp (pt_cmpR op_isN (pv 1) pe_non (nomark _)) pe_non (pe_callTy (T := "tuple") (r := rTupOf K) (by exact call_tuple_of) (by rfl) T.tuple (by decide +kernel) (pa_cons (pe_lc (own := [("_law_number", 2)]) (g := gName 2) (tt := tYes) rfl scLARow.nd (pi_tup (pv 1)) (blkOk_by (N := nLARow) (sc := defScope sLAgainstRow) (by decide +kernel)) (fun _ _ _ _ _ => pg_name (i := 2) scLARow.nd rfl (Or.inl rfl)) (fun _ _ _ _ _ => pts_nil) (fun _ _ _ _ _ => (pe_un un_neg (pv 2)))) pa_nil)))))), ?_⟩
    refine ⟨_, rfl, .ref a, ls, rfl, ⟨a, rfl, .inl hs⟩, h0, hz, fun hb H1 s1 => ?_, fun hb H1 t cl s1 hcl ht => ?_⟩
    · exact ⟨_, rfl, rfl, _, rfl, iteT (q _ _ s1 (.inl ⟨rfl, hb⟩))⟩
    · have l1 := isCl_le hcl
      refine ⟨_, rfl, rfl, _, rfl, iteF ⟨_, rfl, t, rfl, ⟨_, SqT.of ht⟩, fun D nD => ?_⟩⟩
      refine lc_tup (K := K) (a := t) (xs := cl.map V.int) (fun j H2 => Same H1 H2 ∧ H2 D = some (.lst (((cl.take j).map fun z => -z).map V.int))) ⟨same_new nD, upd_same⟩ (fun j H2 _ ⟨s2, _⟩ => SqT.of (s2 _ _ ht)) ?_ ?_
      · rintro j y H2 hi ⟨s2, h2⟩
        obtain ⟨z, rfl, hz1⟩ := Lc.int_at hi
        have lt := (List.getElem?_eq_some_iff.mp hz1).1
        refine ⟨rfl, yes_of ?_⟩
        refine ⟨_, rfl, z, rfl, _, h2, ?_, fun b o e => ?_, ?_⟩
        · rw [List.length_map, List.length_map]
          exact Nat.lt_of_le_of_lt (List.length_take_le _ _) (Nat.lt_of_lt_of_le (by omega : j < 60) (by decide))
        · rw [upd_ne (ne_of_none e nD)]
          exact s2 _ _ e
        · rw [upd_same, take_more hz1, List.map_append, List.map_append]
          rfl
      · rintro H2 ⟨s2, h2⟩
        rw [List.length_map, List.take_length] at h2
        refine ⟨D, _, rfl, .inl ⟨SqL.of h2, fun t2 nt => ?_⟩⟩
        exact q _ _ (s1.trans (s2.trans (same_new nt))) (.inr ⟨t2, cl, rfl, hb, hcl, upd_same⟩)
theorem ok_lagainst (F : FnP K "_law_against" sLAgainst f fd) (T : Jv.Tx mg)
    {fG fB : Addr} {dG dB : FuncData}
    (GG : FnOk P w K mg base CX0 1 fG dG ["_law_literal"] (spFlip)) (gG : mg "_law_flip" = some (.ref fG)) (kG : PySem.W.keepIn K (.ref fG) = true) (bG : Binds K dG ["_law_literal"] [])
    (GB : FnOk P w K mg base CX0 3 fB dB ["_law_literals"] (spLARow K)) (gB : mg "_law_against_row" = some (.ref fB)) (kB : PySem.W.keepIn K (.ref fB) = true) (bB : Binds K dB ["_law_literals"] [])
    : FnOk P w K mg base CX0 4 f fd ["_law_machine", "_law_clause"] (spLAgainst K) := by
  refine F.ok scLAgainst (fun vs H Q E h => ?_) (fun cdv A outer s H vs Q E hr h => ?_)
  · obtain ⟨o, c, n, i, gs, rs, nx, wi, cl, rfl, _⟩ := h
    rfl
  · obtain ⟨o, c, n, i, gs, rs, nx, wi, cl, rfl, hO, hc, hz, zs, n0, q⟩ := h
    have hu := hu_of hr
    obtain ⟨g, t1, t2, ho, hG, h1, h2⟩ := hO
    refine ⟨_, PSs.nox (pss_cons (ps_set (i := 2) scLAgainst.nd rfl (Or.inl rfl) (pe_lst pa_nil))
      (pss_cons (ps_for PassesOwn.never rfl (pi_tup (pv 1)) (pg_name (i := 3) scLAgainst.nd rfl (Or.inl rfl))
        (pss_cons (ps_set (i := 4) scLAgainst.nd rfl (Or.inl rfl) (pe_ix (r := L2.rIxT K) (by exact ix_tup) (pe_dget hu (pv 0) pe_str (fun _ _ => rfl)) (pe_op op_sub (pe_callB call_abs (by rfl) T.abs (by decide +kernel) (pa_cons (pv 3) pa_nil)) pe_int) (fun _ _ => rfl)))
        (pss_one (ps_expr (pe_bm PySem.F.plainAttrs_list PySem.F.slot_list_append PySem.F.type_list_append mt_append (pv 2) (pa_cons (pe_ifExp (pt_cmpR op_gt (pv 3) pe_int (nomark _)) (pv 4) (pe_call GG (hr.mono (by decide)) (by rfl) gG kG bG .nil pass0 (pa_cons (pv 4) pa_nil))) pa_nil))))))
      (pss_one (ps_ret (pe_call GB (hr.mono (by decide)) (by rfl) gB kB bB .nil pass0 (pa_cons (pv 2) pa_nil)))))), ?_⟩
    refine ⟨len0, fun D nD => ?_⟩
    have sD := same_new (u := .lst []) nD
    refine ⟨_, rfl, c, rfl, ⟨_, seqT_same sD hc⟩, for_tup (K := K) (a := c) (xs := cl.map V.int)
      (fun j σ H1 => ∃ (x3 x4 : Option V), σ = [some (.ref o), some (.ref c), some (.ref D), x3, x4] ∧ Same H H1 ∧ H1 D = some (.lst (((cl.take j).map (led nx)).map V.int)))
      ⟨_, _, rfl, sD, upd_same⟩ (fun j σ H1 _ ⟨_, _, _, s1, _⟩ => seqT_same s1 hc) ?_ ?_⟩
    · rintro j v σ H1 hj ⟨x3, x4, rfl, s1, hD1⟩
      obtain ⟨z, rfl, hz1⟩ := Lc.int_at hj
      obtain ⟨z0, z1⟩ := zs z (List.mem_of_getElem? hz1)
      have lt := (List.getElem?_eq_some_iff.mp hz1).1
      have ej : (if z < 0 then -z else z) - 1 = ((z.natAbs - 1 : Nat) : Int) := by
        split <;> omega
      have hjn : z.natAbs - 1 < nx.length := by omega
      have len : (((cl.take j).map (led nx)).map V.int).length < sizeLine := by
        rw [List.length_map, List.length_map]
        exact Nat.lt_of_le_of_lt (List.length_take_le _ _) (Nat.lt_of_lt_of_le (by omega : j < 60) (by decide))
      have keep : ∀ {zs : List V}, Same H (upd H1 D (.lst zs)) := fun {zs} b o e => by
        rw [upd_ne (ne_of_none e nD)]
        exact s1 _ _ e
      refine ⟨_, rfl, o, _, rfl, og_nexts (s1 _ _ ho), _, rfl, _, rfl, _, _, rfl, rfl, t2, _, _, _, rfl, rfl, seqT_same s1 h2, at_of ej (getD_of hjn), ?_⟩
      refine ⟨_, rfl, .inl ⟨rfl, _, SqL.of hD1⟩, _, rfl, _, _, rfl, rfl, _, rfl, ?_⟩
      refine ite2 (fun c1 => ?_) (fun c1 => ?_)
      · have c1 := of_decide_eq_true c1
        refine ⟨_, rfl, D, _, _, rfl, rfl, hD1, len, _, _, rfl, keep, ?_⟩
        have e : led nx z = nx.getD (z.natAbs - 1) 0 := if_neg (by omega)
        rw [upd_same, take_more hz1, List.map_append, List.map_append]
        show _ = some (HO.lst (_ ++ [V.int (led nx z)]))
        rw [e]
      · have c1 : ¬ z > 0 := fun e => c1 (decide_eq_true e)
        refine ⟨_, rfl, _, rfl, D, _, _, rfl, rfl, hD1, len, _, _, rfl, keep, ?_⟩
        have e : led nx z = fl (nx.getD (z.natAbs - 1) 0) := if_pos (by omega)
        rw [upd_same, take_more hz1, List.map_append, List.map_append]
        show _ = some (HO.lst (_ ++ [V.int (led nx z)]))
        rw [e]
    · rintro σ H1 ⟨x3, x4, rfl, s1, hD1⟩
      rw [List.length_map, List.take_length] at hD1
      exact ⟨_, rfl, D, _, rfl, SqL.of hD1, led_0 n0, by rw [List.length_map]; omega, fun H2 v s2 hv => q H2 v (s1.trans s2) hv⟩
end
end Jw
namespace Jx
open PySem PySem.Spec PyProof.Rows L2 Pen Dat Ki Fi Gr No Lf Cm Cn Cp Cq Mc Lc Dm Wm Ju Abk Ack Jv Jw
/-! ## k44: what the law itself says, third part -/
section
variable {K : PySem.W.Frag} {H H' : Hp} {o : Addr} {n i wi : Int} {gs : List (Int × Int)} {rs nx : List Int}
theorem own_same (s : Same H H') (h : OwnAt K H o n i gs rs nx wi) : OwnAt K H' o n i gs rs nx wi := by
  obtain ⟨g, t1, t2, h1, h2, h3, h4⟩ := h
  exact ⟨g, t1, t2, s _ _ h1, h2.firm (Firm.of s), seqT_same s h3, seqT_same s h4⟩
theorem own_pen {p c : Addr} {k : Nat} (b : But p H H') (P : PenC H p c k) (no : o ≠ p) (h : OwnAt K H o n i gs rs nx wi) : OwnAt K H' o n i gs rs nx wi := by
  obtain ⟨g, t1, t2, h1, h2, h3, h4⟩ := h
  have f := Firm.pen b P
  exact ⟨g, t1, t2, b _ _ h1 no, h2.firm f, firm_seq f h3, firm_seq f h4⟩
end
section
variable {P : Program} {w : World} {K : PySem.W.Frag} {mg : Str → Option Value} {base : Heap} {f C M : Addr} {fd : FuncData}
abbrev nLGiven : List Str := ["_law_machine", "_law_clauses", "_law_by", "_law_clause", "_law_number", "_law_moved"]
theorem scLGiven : FnScope nLGiven ["_law_machine", "_law_clauses"] (defScope sLGiven) := ⟨rfl, rfl, rfl, by decide +kernel, rfl, by decide +kernel, by decide +kernel⟩
abbrev nTasks : List Str := ["_law_machine", "_law_clauses", "_law_clause"]
theorem scTasks : FnScope nTasks ["_law_machine", "_law_clauses"] (defScope sLTasks) := ⟨rfl, rfl, rfl, by decide +kernel, rfl, by decide +kernel, by decide +kernel⟩
theorem ok_lgiven (F : FnP K "_law_given" sLGiven f fd) (T : Jv.Tx mg)
    {fH : Addr} {dH : FuncData}
    (GH : FnOk P w K mg base CX0 3 fH dH ["_law_machine"] (spGraphs K)) (gH : mg "_law_graph_clauses" = some (.ref fH)) (kH : PySem.W.keepIn K (.ref fH) = true) (bH : Binds K dH ["_law_machine"] [])
    : FnOk P w K mg base CX0 4 f fd ["_law_machine", "_law_clauses"] (spLGiven K) := by
  refine F.ok scLGiven (fun vs H Q E h => ?_) (fun cdv A outer s H vs Q E hr h => ?_)
  · obtain ⟨o, cs, n, i, gs, rs, nx, wi, us, cls, rfl, _⟩ := h
    rfl
  · obtain ⟨o, cs, n, i, gs, rs, nx, wi, us, cls, rfl, hO, hok, hz, hcs, hus, hl, hcl, q⟩ := h
    have hu := hu_of hr
    obtain ⟨g, t1, t2, ho, _, _, _⟩ := id hO
    refine ⟨_, PSs.nox (pss_cons (ps_set (i := 2) scLGiven.nd rfl (Or.inr rfl) (pe_dget hu (pv 0) pe_str (fun _ _ => rfl)))
      (pss_cons (ps_setLc (i := 5) (own := [("_law_clause", 3)]) (g := gName 3) (tt := tYes) (by rfl) scLGiven.nd rfl rfl (sw_true rfl rfl rfl (by decide +kernel)) (pi_tup (pv 1)) (blkOk_by (N := nLGiven) (sc := defScope sLGiven) (by decide +kernel)) (fun _ _ _ _ _ => pg_name (i := 3) scLGiven.nd rfl (Or.inl rfl)) (fun _ _ _ _ _ => pts_nil) (fun _ _ _ _ _ => (pe_callTy (T := "tuple") (r := rTupOf K) (by exact call_tuple_of) (by rfl) T.tuple (by decide +kernel) (pa_cons (pe_lc (own := [("_law_number", 4)]) (g := gName 4) (tt := tYes) rfl scLGiven.nd (Us.pi_tupK (K := K) rfl (pv 3)) (Us.blkOk_in (N := nLGiven) (sc := defScope sLGiven) (by decide +kernel) rfl) (fun _ _ _ _ _ => pg_name (i := 4) scLGiven.nd rfl (Or.inl rfl)) (fun _ _ _ _ _ => pts_nil) (fun _ _ _ _ _ => (pe_ifExp (pt_cmpR op_gt (pv 4) pe_int (nomark _)) (pe_op op_add (pv 4) (pv 2)) (pe_op op_sub (pv 4) (pv 2))))) pa_nil))))
      (pss_one (ps_ret (pe_op op_catA (pe_call GH (hr.mono (by decide)) (by rfl) gH kH bH .nil pass0 (pa_cons (pv 0) pa_nil)) (pe_callTy (T := "tuple") (r := rTupOf K) (by exact call_tuple_of) (by rfl) T.tuple (by decide +kernel) (pa_cons (pv 5) pa_nil))))))), ?_⟩
    refine ⟨_, rfl, o, _, rfl, og_inputs ho, _, rfl, cs, rfl, ⟨_, hcs⟩, fun D nD => ?_⟩
    refine lc_tup (K := K) (a := cs) (xs := us) (fun j H2 => Same H H2 ∧ ∃ vs : List V, H2 D = some (.lst vs) ∧ All2 (Tu K H2) vs ((cls.take j).map (nowM i))) ⟨same_new nD, [], upd_same, .nil⟩ (fun j H2 _ ⟨s2, _⟩ => seqT_same s2 hcs) ?_ ?_
    · rintro j y H2 hj ⟨s2, vs, h2, a2⟩
      obtain ⟨cl, hcl1, qc, rfl, hqc⟩ := hus.get hj
      have hjl := (List.getElem?_eq_some_iff.mp hcl1).1
      have cz := hcl cl (List.mem_of_getElem? hcl1)
      refine ⟨rfl, yes_of ?_⟩
      refine ⟨_, rfl, qc, rfl, ⟨_, SqT.of (s2 _ _ hqc)⟩, fun D2 nD2 => ?_⟩
      refine lc_tup (K := K) (a := qc) (xs := cl.map V.int) (fun k H3 => Same H2 H3 ∧ H3 D2 = some (.lst ((nowM i (cl.take k)).map V.int))) ⟨same_new nD2, upd_same⟩ (fun k H3 _ ⟨s3, _⟩ => SqT.of (s3 _ _ (s2 _ _ hqc))) ?_ ?_
      · rintro k y H3 hk ⟨s3, h3⟩
        obtain ⟨z, rfl, hz1⟩ := Lc.int_at hk
        have lt := (List.getElem?_eq_some_iff.mp hz1).1
        have len : ((nowM i (cl.take k)).map V.int).length < sizeLine := by
          rw [List.length_map]
          unfold nowM
          rw [List.length_map]
          exact Nat.lt_of_le_of_lt (List.length_take_le _ _) (Nat.lt_of_lt_of_le (by omega : k < 1001) (by decide))
        have keep : ∀ {zs : List V}, Same H2 (upd H3 D2 (.lst zs)) := fun {zs} b o e => by
          rw [upd_ne (ne_of_none e nD2)]
          exact s3 _ _ e
        refine ⟨rfl, yes_of ?_⟩
        refine ⟨_, rfl, _, _, rfl, rfl, _, rfl, ite2 (fun c1 => ?_) (fun c1 => ?_)⟩
        · have c1 := of_decide_eq_true c1
          refine ⟨_, rfl, _, rfl, _, _, rfl, rfl, _, h3, len, keep, ?_⟩
          rw [upd_same, take_more hz1]
          unfold nowM
          rw [List.map_append, List.map_append]
          show _ = some (HO.lst (_ ++ [V.int (if z > 0 then z + i else z - i)]))
          rw [if_pos c1]
        · have c1 : ¬ z > 0 := fun e => c1 (decide_eq_true e)
          refine ⟨_, rfl, _, rfl, _, _, rfl, rfl, _, h3, len, keep, ?_⟩
          rw [upd_same, take_more hz1]
          unfold nowM
          rw [List.map_append, List.map_append]
          show _ = some (HO.lst (_ ++ [V.int (if z > 0 then z + i else z - i)]))
          rw [if_neg c1]
      rintro H3 ⟨s3, h3⟩
      rw [List.length_map, List.take_length] at h3
      refine ⟨D2, _, rfl, .inl ⟨SqL.of h3, fun t nt => ?_⟩⟩
      have st := same_new (u := .tup ((nowM i cl).map V.int)) nt
      have s24 := s3.trans st
      have h4 := s24 _ _ h2
      have fi : Firm (upd H3 t (.tup ((nowM i cl).map V.int))) (upd (upd H3 t (.tup ((nowM i cl).map V.int))) D (.lst (vs ++ [.ref t]))) := Firm.upd h4 rfl
      refine ⟨_, h4, ?_, fun b o e => ?_, vs ++ [.ref t], upd_same, ?_⟩
      · rw [a2.len, List.length_map, List.length_take]
        exact Nat.lt_of_le_of_lt (Nat.min_le_left _ _) (Nat.lt_of_lt_of_le (by omega : j < 200) (by decide))
      · rw [upd_ne (ne_of_none e nD)]
        exact s24 _ _ (s2 _ _ e)
      · rw [take_more hcl1, List.map_append]
        exact (a2.imp fun _ _ h => (h.firm (Firm.of s24)).firm fi).snoc ⟨t, rfl, fi _ _ upd_same rfl⟩
    · rintro H2 ⟨s2, vs, h2, a2⟩
      rw [hus.len, List.take_length] at a2
      refine ⟨_, rfl, o, n, i, gs, rs, nx, wi, rfl, own_same s2 hO, hok, hz, fun H4 t4 ws s4 ht4 a4 => ?_⟩
      refine ⟨_, rfl, D, _, rfl, .inl ⟨SqL.of (s4 _ _ h2), fun t5 nt5 => ?_⟩⟩
      have s5 := same_new (u := .tup vs) nt5
      have lc := clauses_len gs n
      refine cat_use (K := K) (SqT.of (s5 _ _ ht4)) (SqT.of upd_same) ?_ fun t6 H6 s6 h6 => ?_
      · rw [a4.len, a2.len, List.length_map]
        exact Nat.le_trans (by omega : (clauses n gs).length + cls.length ≤ 500) (by decide)
      · exact q H6 t6 _ (s2.trans (s4.trans (s5.trans s6))) h6 (a2_app (a4.imp fun _ _ h => h.firm (Firm.of (s5.trans s6))) (a2.imp fun _ _ h => h.firm (Firm.of (s4.trans (s5.trans s6)))))
theorem ok_tasks (F : FnP K "_law_tasks" sLTasks f fd) (T : Jv.Tx mg)
    {fA fB : Addr} {dA dB : FuncData}
    (GA : FnOk P w K mg base CX0 4 fA dA ["_law_machine", "_law_clause"] (spLAgainst K)) (gA : mg "_law_against" = some (.ref fA)) (kA : PySem.W.keepIn K (.ref fA) = true) (bA : Binds K dA ["_law_machine", "_law_clause"] [])
    (GB : FnOk P w K mg base CX0 3 fB dB ["_law_literals"] (spLARow K)) (gB : mg "_law_against_row" = some (.ref fB)) (kB : PySem.W.keepIn K (.ref fB) = true) (bB : Binds K dB ["_law_literals"] [])
    : FnOk P w K mg base CX0 5 f fd ["_law_machine", "_law_clauses"] (spTasks K) := by
  refine F.ok scTasks (fun vs H Q E h => ?_) (fun cdv A outer s H vs Q E hr h => ?_)
  · obtain ⟨o, cs, n, i, gs, rs, nx, wi, us, cls, rfl, _⟩ := h
    rfl
  · obtain ⟨o, cs, n, i, gs, rs, nx, wi, us, cls, rfl, hO, w0, n0, hcs, hus, hl, hcl, q⟩ := h
    have hu := hu_of hr
    refine ⟨_, PSs.nox (pss_one (ps_ret (pe_op op_cat (pe_lc (own := [("_law_clause", 2)]) (g := gName 2) (tt := tYes) rfl scTasks.nd (pi_tup (pv 1)) (blkOk_by (N := nTasks) (sc := defScope sLTasks) (by decide +kernel)) (fun _ _ _ _ _ => pg_name (i := 2) scTasks.nd rfl (Or.inl rfl)) (fun _ _ _ _ _ => pts_nil) (fun _ _ _ _ _ => (pe_call GA (hr.mono (by decide)) (by rfl) gA kA bA .nil pass0 (pa_cons (pv 0) (pa_cons (pv 2) pa_nil))))) (pe_lst (pa_cons (pe_call GB (hr.mono (by decide)) (by rfl) gB kB bB .nil pass0 (pa_cons (pe_lst (pa_cons (pe_dget hu (pv 0) pe_str (fun _ _ => rfl)) pa_nil)) pa_nil)) pa_nil))))), ?_⟩
    refine ⟨_, rfl, cs, rfl, ⟨_, hcs⟩, fun D nD => ?_⟩
    refine lc_tup (K := K) (a := cs) (xs := us) (fun j H2 => Same H H2 ∧ ∃ vs : List V, H2 D = some (.lst vs) ∧ All2 (Tk H2) vs ((cls.take j).map fun cl => cl.map (led nx))) ⟨same_new nD, [], upd_same, .nil⟩ (fun j H2 _ ⟨s2, _⟩ => seqT_same s2 hcs) ?_ ?_
    · rintro j y H2 hj ⟨s2, vs, h2, a2⟩
      obtain ⟨cl, hcl1, qc, rfl, hqc⟩ := hus.get hj
      have hjl := (List.getElem?_eq_some_iff.mp hcl1).1
      obtain ⟨cz, cok⟩ := hcl cl (List.mem_of_getElem? hcl1)
      refine ⟨rfl, yes_of ?_⟩
      refine ⟨_, rfl, _, rfl, o, qc, n, i, gs, rs, nx, wi, cl, rfl, own_same s2 hO, SqT.of (s2 _ _ hqc), cz, cok, n0, fun H3 v s3 hv => ?_⟩
      have h3 := s3 _ _ h2
      have fi : Firm H3 (upd H3 D (.lst (vs ++ [v]))) := Firm.upd h3 rfl
      refine ⟨_, h3, ?_, fun b o e => ?_, vs ++ [v], upd_same, ?_⟩
      · rw [a2.len, List.length_map, List.length_take]
        exact Nat.lt_of_le_of_lt (Nat.min_le_left _ _) (Nat.lt_of_lt_of_le (by omega : j < 200) (by decide))
      · rw [upd_ne (ne_of_none e nD)]
        exact s3 _ _ (s2 _ _ e)
      · rw [take_more hcl1, List.map_append]
        exact (a2.imp fun _ _ h => (h.firm (Firm.of s3)).firm fi).snoc (hv.firm fi)
    · rintro H2 ⟨s2, vs, h2, a2⟩
      rw [hus.len, List.take_length] at a2
      obtain ⟨g, t1, t2, ho, _, _, _⟩ := own_same s2 hO
      refine ⟨_, rfl, o, _, rfl, og_wish ho, len1, fun L nL => ?_⟩
      have sL := same_new (u := .lst [V.int wi]) nL
      refine ⟨L, [wi], rfl, SqL.of upd_same, fun l hl => by rw [List.mem_singleton.mp hl]; exact w0, (by show 1 < 60; decide), fun H4 v s4 hv => ⟨len1, fun L2 nL2 => ?_⟩⟩
      have s5 := same_new (u := .lst [v]) nL2
      refine ⟨D, L2, _, _, rfl, rfl, s5 _ _ (s4 _ _ (sL _ _ h2)), upd_same, ?_, fun D3 nD3 => ?_⟩
      · show vs.length + 1 ≤ sizeLine
        rw [a2.len, List.length_map]
        exact Nat.le_trans (by omega : cls.length + 1 ≤ 200) (by decide)
      · have s6 := same_new (u := .lst (vs ++ [v])) nD3
        have z := s4.trans (s5.trans s6)
        exact q _ D3 _ (s2.trans (sL.trans z)) upd_same ((a2.imp fun _ _ h => h.firm (Firm.of (sL.trans z))).snoc (hv.firm (Firm.of (s5.trans s6))))
end
end Jx
namespace Jy
open PySem PySem.Spec PyProof.Rows L2 Pen Dat Ki Fi Gr No Lf Cm Cn Cp Cq Mc Lc Dm Wm Ju Abk Ack Jv Jw Jx
/-! ## k44: what the law itself says, fourth part -/
theorem cut_tl (x : V) (r : List V) : cutV (x :: r) (some 1) none = r := by
  unfold cutV
  have ix : HT.sIx (x :: r).length 0 (some 1) = 1 := by
    show min 1 (r.length + 1) = 1
    omega
  rw [ix]
  show List.take (r.length + 1 - 1) r = r
  exact List.take_of_length_le (by omega)
theorem ones_eq (n : Nat) : PyData.eqv (.list ((List.replicate n (1 : Int)).map .int)) (.list []) = !decide (0 < n) := by
  rw [← ones_ne, Bool.not_not]
theorem all_cnt {α : Type} (p : α → Bool) (xs : List α) : (!decide (0 < cnt (fun x => !p x) xs)) = xs.all p := by
  rw [cnt_pos]
  simp [List.not_any_eq_all_not]
theorem ixN_at {n : Nat} {e : Int} (h0 : 0 ≤ e) (h : e < n) : ixN n e = some e.toNat := by
  unfold ixN
  rw [if_pos h0, if_pos h]
theorem ixN_last {n m : Nat} (h : n = m) (h0 : 0 < m) : ixN n (-1) = some (m - 1) := by
  subst h
  unfold ixN
  rw [if_neg (by decide), if_pos (by omega)]
  exact congrArg some (by omega)
theorem getD_in {xs : List Int} (h : 0 < xs.length) : xs.getD 0 0 ∈ xs := by
  rw [List.getD_eq_getElem?_getD, List.getElem?_eq_getElem h]
  exact List.getElem_mem h
theorem op_wish {H : Hp} {o g t1 t2 : Addr} {n i wi z : Int} (h : H o = some (.dK (ownD n i g t1 t2 wi))) : DPut H o (.str "wish") (.int z) (upd H o (.dK (ownD n i g t1 t2 z))) := DPut.k (k := .inr "wish") h (by decide : 6 < sizeLine)
section
variable {P : Program} {w : World} {K : PySem.W.Frag} {mg : Str → Option Value} {base : Heap} {f C M : Addr} {fd : FuncData}
abbrev nInSet : List Str := ["_law_clauses", "_law_state", "_law_clause"]
theorem scInSet : FnScope nInSet ["_law_clauses", "_law_state"] (defScope sLInSet) := ⟨rfl, rfl, rfl, by decide +kernel, rfl, by decide +kernel, by decide +kernel⟩
abbrev nATrue : List Str := ["_law_nodes", "_law_literals", "_law_number"]
theorem scATrue : FnScope nATrue ["_law_nodes", "_law_literals"] (defScope sLAllTrue) := ⟨rfl, rfl, rfl, by decide +kernel, rfl, by decide +kernel, by decide +kernel⟩
abbrev nSmall : List Str := ["_law_pen_here"]
theorem scSmall : FnScope nSmall ["_law_pen_here"] (defScope sLSmallMachine) := ⟨rfl, rfl, rfl, by decide +kernel, rfl, by decide +kernel, by decide +kernel⟩
abbrev nSRow : List Str := ["_law_pen_here", "_law_many", "_law_k"]
theorem scSRow : FnScope nSRow ["_law_pen_here", "_law_many"] (defScope sLStateRow) := ⟨rfl, rfl, rfl, by decide +kernel, rfl, by decide +kernel, by decide +kernel⟩
abbrev nSpiced : List Str := ["_law_pen_here", "_law_machine", "_law_found", "_law_nexts"]
theorem scSpiced : FnScope nSpiced ["_law_pen_here", "_law_machine"] (defScope sLSpiced) := ⟨rfl, rfl, rfl, by decide +kernel, rfl, by decide +kernel, by decide +kernel⟩
theorem ok_inset (F : FnP K "_law_in_set" sLInSet f fd) (T : Jv.Tx mg)
    {fI : Addr} {dI : FuncData}
    (GI : FnOk P w K mg base CX0 1 fI dI ["_law_assignment", "_law_clause"] (spFits K)) (gI : mg "_law_fits" = some (.ref fI)) (kI : PySem.W.keepIn K (.ref fI) = true) (bI : Binds K dI ["_law_assignment", "_law_clause"] [])
    : FnOk P w K mg base CX0 2 f fd ["_law_clauses", "_law_state"] (spInSet K) := by
  refine F.ok scInSet (fun vs H Q E h => ?_) (fun cdv A outer s H vs Q E hr h => ?_)
  · obtain ⟨cs, v, us, cls, as, rfl, _⟩ := h
    rfl
  · obtain ⟨cs, v, us, cls, as, rfl, hcs, hus, hl, hcl, hv, q⟩ := h
    refine ⟨_, PSs.nox (pss_one (ps_ret (pe_cmpR (op_eqD hr.units) (pe_lc (own := [("_law_clause", 2)]) (g := gName 2) rfl scInSet.nd (pi_tup (pv 0)) (blkOk_by (N := nInSet) (sc := defScope sLInSet) (by decide +kernel)) (fun _ _ _ _ _ => pg_name (i := 2) scInSet.nd rfl (Or.inl rfl)) (fun _ _ _ _ _ => pts_one (pt_not (pt_val (pe_call GI (hr.mono (by decide)) (by rfl) gI kI bI .nil pass0 (pa_cons (pv 1) (pa_cons (pv 2) pa_nil)))))) (fun _ _ _ _ _ => pe_int)) (pe_lst pa_nil) (nomark _)))), ?_⟩
    refine ⟨_, rfl, cs, rfl, ⟨_, hcs⟩, fun D nD => ?_⟩
    let op : List Int → Bool := fun cl => !satB as cl
    refine lc_tup (K := K) (a := cs) (xs := us) (fun j H2 => Same H H2 ∧ H2 D = some (.lst ((List.replicate (cnt op (cls.take j)) (1 : Int)).map V.int))) ⟨same_new nD, by rw [upd_same]; rfl⟩ (fun j H2 _ ⟨s2, _⟩ => seqT_same s2 hcs) ?_ ?_
    · rintro j y H2 hj ⟨s2, h2⟩
      obtain ⟨cl, hcl1, qc, rfl, hqc⟩ := hus.get hj
      obtain ⟨cz, cok⟩ := hcl cl (List.mem_of_getElem? hcl1)
      have hjl := (List.getElem?_eq_some_iff.mp hcl1).1
      have more := cnt_more op hcl1
      refine ⟨rfl, ?_⟩
      refine ⟨_, rfl, _, rfl, v, qc, as, cl, rfl, hv.same s2, SqT.of (s2 _ _ hqc), cok, cz, fun H3 s3 => ?_⟩
      have h3 := s3 _ _ h2
      refine ⟨_, rfl, ?_⟩
      show if op cl = true then _ else _
      by_cases c1 : op cl = true
      · rw [if_pos c1] at more
        rw [c1]
        refine iteT ⟨_, h3, ?_, fun b o e => ?_, ?_⟩
        · rw [List.length_map, List.length_replicate]
          have e1 := cnt_le op (cls.take j)
          rw [List.length_take] at e1
          exact Nat.lt_of_lt_of_le (by omega : cnt op (cls.take j) < 1001) (by decide)
        · rw [upd_ne (ne_of_none e nD)]
          exact s3 _ _ (s2 _ _ e)
        · rw [upd_same, more, List.replicate_succ', List.map_append]
          rfl
      · rw [if_neg c1] at more
        rw [Bool.eq_false_iff.mpr c1]
        refine iteF ⟨s2.trans s3, ?_⟩
        rw [more]
        exact h3
    · rintro H2 ⟨s2, h2⟩
      rw [hus.len, List.take_length] at h2
      refine ⟨len0, fun l nl => ?_⟩
      have sl := same_new (u := .lst []) nl
      refine ⟨_, _, .lst (SqL.of (sl _ _ h2)) (ints_dp _), .lst (SqL.of upd_same) .nil, ones_shaped _, (by rfl), ?_⟩
      rw [ones_eq, all_cnt]
      exact q _ (s2.trans sl)
theorem ok_atrue (F : FnP K "_law_all_true" sLAllTrue f fd) (T : Jv.Tx mg)
    {fI : Addr} {dI : FuncData}
    (GI : FnOk P w K mg base CX0 1 fI dI ["_law_assignment", "_law_clause"] (spFits K)) (gI : mg "_law_fits" = some (.ref fI)) (kI : PySem.W.keepIn K (.ref fI) = true) (bI : Binds K dI ["_law_assignment", "_law_clause"] [])
    : FnOk P w K mg base CX0 2 f fd ["_law_nodes", "_law_literals"] (spATrue K) := by
  refine F.ok scATrue (fun vs H Q E h => ?_) (fun cdv A outer s H vs Q E hr h => ?_)
  · obtain ⟨l, c, x, as, cl, rfl, _⟩ := h
    rfl
  · obtain ⟨l, c, x, as, cl, rfl, hl, hc, hz, haz, hcl, q⟩ := h
    refine ⟨_, PSs.nox (pss_one (ps_ret (pe_cmpR (op_eqD hr.units) (pe_lc (own := [("_law_number", 2)]) (g := gName 2) rfl scATrue.nd (pi_tup (pv 1)) (blkOk_by (N := nATrue) (sc := defScope sLAllTrue) (by decide +kernel)) (fun _ _ _ _ _ => pg_name (i := 2) scATrue.nd rfl (Or.inl rfl)) (fun _ _ _ _ _ => pts_one (pt_not (pt_val (pe_call GI (hr.mono (by decide)) (by rfl) gI kI bI .nil pass0 (pa_cons (pe_slice (r := L2.rSlL K) (by exact sl_list) (pv 0) (po_some pe_int) po_none) (pa_cons (pe_tup (pa_cons (pv 2) pa_nil)) pa_nil)))))) (fun _ _ _ _ _ => pe_int)) (pe_lst pa_nil) (nomark _)))), ?_⟩
    refine ⟨_, rfl, c, rfl, ⟨_, hc⟩, fun D nD => ?_⟩
    let op : Int → Bool := fun z => !satB as [z]
    refine lc_tup (K := K) (a := c) (xs := cl.map V.int) (fun j H2 => Same H H2 ∧ H2 D = some (.lst ((List.replicate (cnt op (cl.take j)) (1 : Int)).map V.int))) ⟨same_new nD, by rw [upd_same]; rfl⟩ (fun j H2 _ ⟨s2, _⟩ => seqT_same s2 hc) ?_ ?_
    · rintro j y H2 hj ⟨s2, h2⟩
      obtain ⟨z, rfl, hz1⟩ := Lc.int_at hj
      have zok := hcl z (List.mem_of_getElem? hz1)
      have hjl := (List.getElem?_eq_some_iff.mp hz1).1
      have more := cnt_more op hz1
      refine ⟨rfl, ?_⟩
      refine ⟨_, rfl, _, rfl, l, _, rfl, s2.seq hl, fun q2 nq2 => ⟨_, rfl, len1, fun t nt => ?_⟩⟩
      have sq := same_new (u := .lst (cutV ((x :: as).map V.int) (some 1) none)) nq2
      have st := same_new (u := .tup [V.int z]) nt
      have eq2 : upd (upd H2 q2 (.lst (cutV ((x :: as).map V.int) (some 1) none))) t (.tup [V.int z]) q2 = some (.lst (as.map V.int)) := by
        rw [st _ _ upd_same]
        exact congrArg (fun z => some (HO.lst z)) (cut_tl _ _)
      refine ⟨.ref q2, t, as, [z], rfl, ⟨q2, rfl, .inl (SqL.of eq2)⟩, SqT.of upd_same, fun y hy => by rw [List.mem_singleton.mp hy]; exact zok, (by show 1 ≤ 1000; decide), fun H3 s3 => ?_⟩
      have h3 := s3 _ _ (st _ _ (sq _ _ h2))
      have s23 := s2.trans (sq.trans (st.trans s3))
      refine ⟨_, rfl, ?_⟩
      show if op z = true then _ else _
      by_cases c1 : op z = true
      · rw [if_pos c1] at more
        rw [c1]
        refine iteT ⟨_, h3, ?_, fun b o e => ?_, ?_⟩
        · rw [List.length_map, List.length_replicate]
          have e1 := cnt_le op (cl.take j)
          rw [List.length_take] at e1
          exact Nat.lt_of_lt_of_le (by omega : cnt op (cl.take j) < 1001) (by decide)
        · rw [upd_ne (ne_of_none e nD)]
          exact s23 _ _ e
        · rw [upd_same, more, List.replicate_succ', List.map_append]
          rfl
      · rw [if_neg c1] at more
        rw [Bool.eq_false_iff.mpr c1]
        refine iteF ⟨s23, ?_⟩
        rw [more]
        exact h3
    · rintro H2 ⟨s2, h2⟩
      rw [List.length_map, List.take_length] at h2
      refine ⟨len0, fun l nl => ?_⟩
      have sl := same_new (u := .lst []) nl
      refine ⟨_, _, .lst (SqL.of (sl _ _ h2)) (ints_dp _), .lst (SqL.of upd_same) .nil, ones_shaped _, (by rfl), ?_⟩
      rw [ones_eq, all_cnt]
      exact q _ (s2.trans sl)
theorem ok_small (F : FnP K "_law_small_machine" sLSmallMachine f fd) (T : Jv.Tx mg)
    {fD fM : Addr} {dD dM : FuncData}
    (GD : FnOk P w K mg base CX0 1 fD dD ["_law_pen_here", "_law_many"] (spDraw)) (gD : mg "_law_draw" = some (.ref fD)) (kD : PySem.W.keepIn K (.ref fD) = true) (bD : Binds K dD ["_law_pen_here", "_law_many"] [])
    (GM : FnOk P w K mg base CX0 3 fM dM ["_law_pen_here", "_law_inputs", "_law_registers", "_law_many"] (spMach K)) (gM : mg "_law_drawn_machine" = some (.ref fM)) (kM : PySem.W.keepIn K (.ref fM) = true) (bM : Binds K dM ["_law_pen_here", "_law_inputs", "_law_registers", "_law_many"] [])
    : FnOk P w K mg base CX0 4 f fd ["_law_pen_here"] (spSmall K) := by
  refine F.ok scSmall (fun vs H Q E h => ?_) (fun cdv A outer s H vs Q E hr h => ?_)
  · obtain ⟨p, c, k, rfl, _⟩ := h
    rfl
  · obtain ⟨p, c, k, rfl, hP, hk, q⟩ := h
    refine ⟨_, PSs.nox (pss_one (ps_ret (pe_call GM (hr.mono (by decide)) (by rfl) gM kM bM .nil pass0 (pa_cons (pv 0) (pa_cons (pe_call GD (hr.mono (by decide)) (by rfl) gD kD bD .nil pass0 (pa_cons (pv 0) (pa_cons pe_int pa_nil))) (pa_cons (pe_op op_add pe_int (pe_call GD (hr.mono (by decide)) (by rfl) gD kD bD .nil pass0 (pa_cons (pv 0) (pa_cons pe_int pa_nil)))) (pa_cons (pe_call GD (hr.mono (by decide)) (by rfl) gD kD bD .nil pass0 (pa_cons (pv 0) (pa_cons pe_int pa_nil))) pa_nil))))))), ?_⟩
    refine ⟨_, rfl, _, rfl, p, c, k, 3, rfl, hP, by omega, by decide, by decide, fun i H1 i0 i3 P1 B1 => ?_⟩
    refine ⟨_, rfl, p, c, _, 3, rfl, P1, by omega, by decide, by decide, fun r H2 r0 r3 P2 B2 => ⟨_, _, rfl, rfl, ?_⟩⟩
    refine ⟨_, rfl, p, c, _, 5, rfl, P2, by omega, by decide, by decide, fun m H3 m0 m5 P3 B3 => ?_⟩
    refine ⟨p, c, _, i, 1 + r, m, rfl, P3, by omega, i0, by omega, by omega, by omega, m0, by omega, fun H4 o gs rs nx wi P4 B4 O4 ok4 op oc => ?_⟩
    obtain ⟨i, rfl⟩ := Int.eq_ofNat_of_zero_le i0
    obtain ⟨r, rfl⟩ := Int.eq_ofNat_of_zero_le r0
    have e : (i : Int) + (1 + (r : Int)) = ((i + (1 + r) : Nat) : Int) := by
      rw [Int.natCast_add, Int.natCast_add]
      rfl
    rw [e] at O4 ok4
    exact q H4 o i (1 + r) gs rs nx wi (P4.more (by omega)) (B1.trans (B2.trans (B3.trans B4))) O4 ok4 op (by omega) (by omega) (by omega)
theorem more_row {H1 H2 H5 : Hp} {D p c : Addr} {k k2 j : Nat} {m : Int} {vs : List V} {cls : List (List Int)} {v : V} {cl : List Int} (nD : H1 D = none) (Dp : D ≠ p) (Dc : D ≠ c) (l3 : cls.length ≤ 3) (l2 : cls.length = j) (B : But p H2 H5) (P2 : PenC H2 p c k2) (P5 : PenC H5 p c k)
    (B2 : But p H1 H2) (h2 : H2 D = some (.lst vs)) (a2 : All2 (Tu K H2) vs cls) (ok2 : ∀ cl ∈ cls, StC m cl) (hv : Tu K H5 v cl) (okv : StC m cl) :
    ∃ acc, H5 D = some (.lst acc) ∧ acc.length < sizeLine ∧ PenC (upd H5 D (.lst (acc ++ [v]))) p c k ∧ But p H1 (upd H5 D (.lst (acc ++ [v]))) ∧ ∃ (vs : List V) (cls : List (List Int)), upd H5 D (.lst (acc ++ [v])) D = some (.lst vs) ∧ All2 (Tu K (upd H5 D (.lst (acc ++ [v])))) vs cls ∧ cls.length = j + 1 ∧ ∀ cl ∈ cls, StC m cl := by
  have h5 := B _ _ h2 Dp
  have fi : Firm H5 (upd H5 D (.lst (vs ++ [v]))) := Firm.upd h5 rfl
  have f25 : Firm H2 H5 := Firm.pen B P2
  refine ⟨vs, h5, ?_, P5.upd Dp Dc, fun b o e ne => ?_, vs ++ [v], cls ++ [cl], upd_same, (a2.imp fun _ _ h => (h.firm f25).firm fi).snoc (hv.firm fi), by rw [List.length_append, l2]; rfl, fun y hy => ?_⟩
  · rw [a2.len]
    exact Nat.lt_of_le_of_lt l3 (by decide)
  · rw [upd_ne (ne_of_none e nD)]
    exact B _ _ (B2 _ _ e ne) ne
  · rcases List.mem_append.mp hy with h | h
    · exact ok2 y h
    · rw [List.mem_singleton.mp h]
      exact okv
theorem ok_srow (F : FnP K "_law_state_row" sLStateRow f fd) (T : Jv.Tx mg)
    {fD fK fC : Addr} {dD dK dC : FuncData}
    (GD : FnOk P w K mg base CX0 1 fD dD ["_law_pen_here", "_law_many"] (spDraw)) (gD : mg "_law_draw" = some (.ref fD)) (kD : PySem.W.keepIn K (.ref fD) = true) (bD : Binds K dD ["_law_pen_here", "_law_many"] [])
    (GK : FnOk P w K mg base CX0 2 fK dK ["_law_pen_here", "_law_some"] (spPick K)) (gK : mg "_law_pick" = some (.ref fK)) (kK : PySem.W.keepIn K (.ref fK) = true) (bK : Binds K dK ["_law_pen_here", "_law_some"] [])
    (GC : FnOk P w K mg base CX0 3 fC dC ["_law_pen_here", "_law_many", "_law_most"] (spDC)) (gC : mg "_law_drawn_clause" = some (.ref fC)) (kC : PySem.W.keepIn K (.ref fC) = true) (bC : Binds K dC ["_law_pen_here", "_law_many", "_law_most"] [])
    : FnOk P w K mg base CX0 4 f fd ["_law_pen_here", "_law_many"] (spSRow K) := by
  refine F.ok scSRow (fun vs H Q E h => ?_) (fun cdv A outer s H vs Q E hr h => ?_)
  · obtain ⟨p, c, k, m, rfl, _⟩ := h
    rfl
  · obtain ⟨p, c, k, m, rfl, hP, hk, m1, m4, q⟩ := h
    refine ⟨_, PSs.nox (pss_one (ps_ret (pe_callTy (T := "tuple") (r := rTupOf K) (by exact call_tuple_of) (by rfl) T.tuple (by decide +kernel) (pa_cons (pe_lc (own := [("_law_k", 2)]) (g := gName 2) (tt := tYes) rfl scSRow.nd (pi_range1 (by rfl) T.range (pa_cons (pe_call GD (hr.mono (by decide)) (by rfl) gD kD bD .nil pass0 (pa_cons (pv 0) (pa_cons pe_int pa_nil))) pa_nil)) (blkOk_by (N := nSRow) (sc := defScope sLStateRow) (by decide +kernel)) (fun _ _ _ _ _ => pg_name (i := 2) scSRow.nd rfl (Or.inl rfl)) (fun _ _ _ _ _ => pts_nil) (fun _ _ _ _ _ => (pe_ifExp (pt_cmpR op_eq (pe_call GD (hr.mono (by decide)) (by rfl) gD kD bD .nil pass0 (pa_cons (pv 0) (pa_cons pe_int pa_nil))) pe_int (nomark _)) (pe_call GK (hr.mono (by decide)) (by rfl) gK kK bK .nil pass0 (pa_cons (pv 0) (pa_cons (pe_lst (pa_cons (pe_tup pa_nil) (pa_cons (pe_call GC (hr.mono (by decide)) (by rfl) gC kC bC .nil pass0 (pa_cons (pv 0) (pa_cons (pv 1) (pa_cons pe_int pa_nil)))) pa_nil))) pa_nil))) (pe_call GC (hr.mono (by decide)) (by rfl) gC kC bC .nil pass0 (pa_cons (pv 0) (pa_cons (pv 1) (pa_cons pe_int pa_nil))))))) pa_nil)))), ?_⟩
    refine ⟨_, rfl, p, c, k, 4, rfl, hP, by omega, by decide, by decide, fun d H1 d0 d4 P1 B1 => ⟨d, rfl, by omega, by omega, fun D nD => ?_⟩⟩
    obtain ⟨Dp, Dc⟩ := P1.free nD
    refine lc_range (lo := 0) (n := d.toNat) (fun j H2 => PenC H2 p c (k + 1 + 20 * j) ∧ But p H1 H2 ∧ ∃ (vs : List V) (cls : List (List Int)), H2 D = some (.lst vs) ∧ All2 (Tu K H2) vs cls ∧ cls.length = j ∧ ∀ cl ∈ cls, StC m cl) ⟨P1.same (same_new nD), But.of_same (same_new nD), [], [], upd_same, .nil, rfl, fun z h => by cases h⟩ ?_ ?_
    · rintro j H2 hj ⟨P2, B2, vs, cls, h2, a2, l2, ok2⟩
      refine ⟨rfl, yes_of ?_⟩
      refine ⟨_, rfl, p, c, _, 6, rfl, P2, by omega, by decide, by decide, fun e H3 e0 e6 P3 B3 => ⟨rfl, _, rfl, ite2 (fun c1 => ?_) (fun c1 => ?_)⟩⟩
      · refine ⟨_, rfl, len0, fun t0 n0 => ⟨_, rfl, _, rfl, p, c, _, m, rfl, P3.same (same_new n0), by omega, m1, m4, fun H4 t cl P4 B4 ht stc => ⟨len2, fun L nL => ?_⟩⟩⟩
        have z0 := same_new (u := .tup []) n0
        have zL := same_new (u := .lst [V.ref t0, .ref t]) nL
        have n0p := (P3.free n0).1
        refine ⟨p, c, L, _, [V.ref t0, .ref t], rfl, P4.same zL, by omega, (P4.free nL).1, SqL.of upd_same, (by show 0 < 2; decide), (by show 2 ≤ 1000; decide), fun v x H5 hv P5 B5 => ?_⟩
        have B35 : But p H3 H5 := (But.of_same z0).trans (B4.trans ((But.of_same zL).trans B5))
        have e5 : H5 t0 = some (.tup []) := B5 _ _ (zL _ _ (B4 _ _ upd_same n0p)) n0p
        have tp : t ≠ p := fun e => by
          obtain ⟨_, _, _, _, _, e2, _⟩ := P4
          rw [e, e2] at ht
          cases ht
        have et : H5 t = some (.tup (cl.map V.int)) := B5 _ _ (zL _ _ ht) tp
        obtain ⟨cl2, hv2, ok2'⟩ : ∃ cl2, Tu K H5 v cl2 ∧ StC m cl2 := by
          match x, hv with
          | 0, hv => exact ⟨[], ⟨t0, (Option.some.inj hv).symm, e5⟩, ⟨by show ((0 : Nat) : Int) ≤ m; omega, fun z hz => by cases hz⟩⟩
          | 1, hv => exact ⟨cl, ⟨t, (Option.some.inj hv).symm, et⟩, stc⟩
          | x + 2, hv => cases hv
        exact more_row (K := K) nD Dp Dc (by omega : cls.length ≤ 3) (by rw [l2]) (B3.trans B35) P2 (P5.more (by omega)) B2 h2 a2 ok2 hv2 ok2'
      · refine ⟨_, rfl, _, rfl, p, c, _, m, rfl, P3, by omega, m1, m4, fun H4 t cl P4 B4 ht stc => ?_⟩
        exact more_row (K := K) nD Dp Dc (by omega : cls.length ≤ 3) (by rw [l2]) (B3.trans B4) P2 (P4.more (by omega)) B2 h2 a2 ok2 ⟨t, rfl, ht⟩ stc
    · rintro H2 ⟨P2, B2, vs, cls, h2, a2, l2, ok2⟩
      refine ⟨D, _, rfl, .inl ⟨SqL.of h2, fun t nt => ?_⟩⟩
      have st := same_new (u := .tup vs) nt
      exact q _ t vs cls ((P2.same st).more (by omega)) (B1.trans (B2.trans (But.of_same st))) (SqT.of upd_same) (a2.imp fun _ _ h => h.firm (Firm.of st)) (by omega) ok2
theorem ok_spiced (F : FnP K "_law_spiced" sLSpiced f fd) (T : Jv.Tx mg)
    {fD fK fG : Addr} {dD dK dG : FuncData}
    (GD : FnOk P w K mg base CX0 1 fD dD ["_law_pen_here", "_law_many"] (spDraw)) (gD : mg "_law_draw" = some (.ref fD)) (kD : PySem.W.keepIn K (.ref fD) = true) (bD : Binds K dD ["_law_pen_here", "_law_many"] [])
    (GK : FnOk P w K mg base CX0 2 fK dK ["_law_pen_here", "_law_some"] (spPick K)) (gK : mg "_law_pick" = some (.ref fK)) (kK : PySem.W.keepIn K (.ref fK) = true) (bK : Binds K dK ["_law_pen_here", "_law_some"] [])
    (GG : FnOk P w K mg base CX0 1 fG dG ["_law_literal"] (spFlip)) (gG : mg "_law_flip" = some (.ref fG)) (kG : PySem.W.keepIn K (.ref fG) = true) (bG : Binds K dG ["_law_literal"] [])
    : FnOk P w K mg base CX0 3 f fd ["_law_pen_here", "_law_machine"] (spSpiced K) := by
  refine F.ok scSpiced (fun vs H Q E h => ?_) (fun cdv A outer s H vs Q E hr h => ?_)
  · obtain ⟨p, c, o, k, n, i, gs, rs, nx, wi, rfl, _⟩ := h
    rfl
  · obtain ⟨p, c, o, k, n, i, gs, rs, nx, wi, rfl, hP, hk, hO, ok, op, nl, q⟩ := h
    have hu := hu_of hr
    obtain ⟨g, t1, t2, ho, hG, h1, h2⟩ := id hO
    refine ⟨_, PSs.nox (pss_cons (ps_set (i := 2) scSpiced.nd rfl (Or.inl rfl) (pe_callTy call_dictD (by rfl) T.dict (by decide +kernel) (pa_cons (pv 1) pa_nil)))
      (pss_cons (ps_set (i := 3) scSpiced.nd rfl (Or.inl rfl) (pe_callTy call_list_of (by rfl) T.list (by decide +kernel) (pa_cons (pe_dget hu (pv 2) pe_str (fun _ _ => rfl)) pa_nil)))
      (C8.pss_cut (ps_if (pt_cmpR op_eq (pe_call GD (hr.mono (by decide)) (by rfl) gD kD bD .nil pass0 (pa_cons (pv 0) (pa_cons pe_int pa_nil))) pe_int (nomark _))
        (pss_one (ps_asg (pe_call GD (hr.mono (by decide)) (by rfl) gD kD bD .nil pass0 (pa_cons (pv 0) (pa_cons pe_int pa_nil))) (pg_sub (pv 3) (pe_call GD (hr.mono (by decide)) (by rfl) gD kD bD .nil pass0 (pa_cons (pv 0) (pa_cons (pe_callB call_len_seq (by rfl) T.len PySem.boot_len (pa_cons (pv 3) pa_nil)) pa_nil))) set_list)))
        pss_nil)
      (C8.pss_cut (ps_if (pt_cmpR op_eq (pe_call GD (hr.mono (by decide)) (by rfl) gD kD bD .nil pass0 (pa_cons (pv 0) (pa_cons pe_int pa_nil))) pe_int (nomark _))
        (pss_one (ps_asg (pe_call GK (hr.mono (by decide)) (by rfl) gK kK bK .nil pass0 (pa_cons (pv 0) (pa_cons (pe_lst (pa_cons (pe_ix ix_list (pv 3) pe_int (fun _ _ => rfl)) (pa_cons (pe_call GG (hr.mono (by decide)) (by rfl) gG kG bG .nil pass0 (pa_cons (pe_ix ix_list (pv 3) pe_int (fun _ _ => rfl)) pa_nil)) pa_nil))) pa_nil))) (pg_sub (pv 3) (pe_un un_neg pe_int) set_list)))
        pss_nil)
      (C8.pss_cut (ps_if (pt_cmpR op_eq (pe_call GD (hr.mono (by decide)) (by rfl) gD kD bD .nil pass0 (pa_cons (pv 0) (pa_cons pe_int pa_nil))) pe_int (nomark _))
        (pss_one (ps_dput hu (pv 2) pe_str (pe_call GD (hr.mono (by decide)) (by rfl) gD kD bD .nil pass0 (pa_cons (pv 0) (pa_cons pe_int pa_nil))) rfl))
        pss_nil)
      (pss_cons (ps_dput hu (pv 2) pe_str (pe_callTy (T := "tuple") (r := rTupOf K) (by exact call_tuple_of) (by rfl) T.tuple (by decide +kernel) (pa_cons (pv 3) pa_nil)) rfl)
      (pss_one (ps_ret (pv 2))))))))), ?_⟩
    refine ⟨_, rfl, o, _, rfl, .inl ho, fun o2 no2 => ?_⟩
    have s1 := same_new (u := .dK (ownD n i g t1 t2 wi)) no2
    refine ⟨_, rfl, o2, _, rfl, og_nexts upd_same, ?_⟩
    refine ⟨t2, _, rfl, .inr (seqT_same s1 h2), fun L nL => ?_⟩
    have s2 := same_new (u := .lst (nx.map V.int)) nL
    have nH2 : ∀ b v, H b = some v → b ≠ o2 := fun b v e => ne_of_none e no2
    have nHL : ∀ b v, H b = some v → b ≠ L := fun b v e => ne_of_none (s1 _ _ e) nL
    have o2p := (hP.free no2).1
    have o2c := (hP.free no2).2
    have Lp := ((hP.same s1).free nL).1
    have Lc := ((hP.same s1).free nL).2
    have oL : o2 ≠ L := ne_of_none upd_same nL
    let W : Nat → Int → L2.St → Hp → Prop := fun kk wi2 σ H' => ∃ nx2 : List Int, σ = [some (.ref p), some (.ref o), some (.ref o2), some (.ref L)] ∧ PenC H' p c (k + kk) ∧ But p H H' ∧ H' o2 = some (.dK (ownD n i g t1 t2 wi2)) ∧ H' L = some (.lst (nx2.map V.int)) ∧ nx2.length = nx.length ∧ ∀ z ∈ nx2, 0 ≤ z ∧ z ≤ 2 * (n + gs.length) + 1
    have i0 := ok.i0
    have i1 := ok.i1
    have nl7 := ok.nl
    have n7 := ok.n7
    have nz : nx.length ≤ 7 := by omega
    -- an entry of the list is written
    have put : ∀ {kk : Nat} {wi2 : Int} {H1 : Hp} {nx2 : List Int} (j : Nat) (z : Int), PenC H1 p c (k + kk) → But p H H1 → H1 o2 = some (.dK (ownD n i g t1 t2 wi2)) → H1 L = some (.lst (nx2.map V.int)) → nx2.length = nx.length → (∀ z ∈ nx2, 0 ≤ z ∧ z ≤ 2 * (n + gs.length) + 1) → 0 ≤ z → z ≤ 2 * (n + gs.length) + 1 →
        W kk wi2 [some (.ref p), some (.ref o), some (.ref o2), some (.ref L)] (upd H1 L (.lst ((nx2.map V.int).set j (.int z)))) := fun {kk wi2 H1 nx2} j z P1 B1 h1 h2 l1 a1 z0 z1 => by
      refine ⟨nx2.set j z, rfl, P1.upd Lp Lc, fun b v e ne => ?_, ?_, ?_, by rw [List.length_set, l1], fun y hy => ?_⟩
      · rw [upd_ne (nHL b v e)]
        exact B1 _ _ e ne
      · rw [upd_ne oL]
        exact h1
      · rw [upd_same, List.map_set]
      · rcases List.mem_or_eq_of_mem_set hy with h | h
        · exact a1 y h
        · rw [h]
          exact ⟨z0, z1⟩
    refine ⟨W 3 wi, ?_, ?_⟩
    · have P2 := (hP.same s1).same s2
      have B2 : But p H (upd (upd H o2 (.dK (ownD n i g t1 t2 wi))) L (.lst (nx.map V.int))) := But.of_same (s1.trans s2)
      have e2 := s2 _ _ (upd_same (H := H) (a := o2) (o := .dK (ownD n i g t1 t2 wi)))
      refine ⟨_, rfl, p, c, k, 2, rfl, P2, by omega, by decide, by decide, fun d H1 d0 d2 P3 B3 => ⟨rfl, _, rfl, ite2 (fun c1 => ?_) (fun c1 => ?_)⟩⟩
      · refine ⟨_, rfl, p, c, _, 2, rfl, P3, by omega, by decide, by decide, fun d2 H2 d20 d22 P4 B4 => ?_⟩
        have eL := B4 _ _ (B3 _ _ upd_same Lp) Lp
        have e4 := B4 _ _ (B3 _ _ e2 o2p) o2p
        refine ⟨_, rfl, _, rfl, _, rfl, L, _, rfl, .inl (SqL.of eL), p, c, _, _, rfl, P4, by omega, ?_, ?_, fun e H4 e0 e5 P5 B5 => ?_⟩
        · rw [List.length_map]
          omega
        · rw [List.length_map]
          omega
        · rw [List.length_map] at e5
          refine ⟨L, _, _, e.toNat, rfl, rfl, B5 _ _ eL Lp, ixN_at e0 (by rw [List.length_map]; exact e5), ?_⟩
          exact put (kk := 3) e.toNat d2 (P5.more (by omega)) (B2.trans (B3.trans (B4.trans B5))) (B5 _ _ e4 o2p) (B5 _ _ eL Lp) rfl ok.nb d20 (by omega)
      · exact ⟨nx, rfl, P3.more (by omega), B2.trans B3, B3 _ _ e2 o2p, B3 _ _ upd_same Lp, rfl, ok.nb⟩
    rintro σ H1 ⟨nx1, rfl, P1, B1, e1, l1, n1, b1⟩
    refine ⟨W 5 wi, ?_, ?_⟩
    · refine ⟨_, rfl, p, c, _, 3, rfl, P1, by omega, by decide, by decide, fun d H2 d0 d2 P2 B2 => ⟨rfl, _, rfl, ite2 (fun c1 => ?_) (fun c1 => ?_)⟩⟩
      · have hL2 := B2 _ _ l1 Lp
        have lt0 : 0 < nx1.length := by omega
        have a0 : atI (nx1.map V.int) 0 = some (V.int (nx1.getD 0 0)) := at_of (j := 0) rfl (getD_of lt0)
        obtain ⟨b10, b11⟩ := b1 _ (getD_in lt0)
        refine ⟨_, rfl, _, rfl, L, _, _, _, rfl, rfl, SqL.of hL2, a0, _, rfl, L, _, _, _, rfl, rfl, SqL.of hL2, a0, _, rfl, len2, fun M nM => ?_⟩
        have sM := same_new (u := .lst [V.int (nx1.getD 0 0), .int (fl (nx1.getD 0 0))]) nM
        refine ⟨p, c, M, _, [V.int (nx1.getD 0 0), .int (fl (nx1.getD 0 0))], rfl, P2.same sM, by omega, (P2.free nM).1, SqL.of upd_same, (by show 0 < 2; decide), (by show 2 ≤ 1000; decide), fun v x H3 hv P3 B3 => ?_⟩
        obtain ⟨z, rfl, z0, z1⟩ : ∃ z : Int, v = .int z ∧ 0 ≤ z ∧ z ≤ 2 * (n + gs.length) + 1 := by
          match x, hv with
          | 0, hv => exact ⟨_, (Option.some.inj hv).symm, b10, b11⟩
          | 1, hv => exact ⟨_, (Option.some.inj hv).symm, by unfold fl; omega, by unfold fl; omega⟩
          | x + 2, hv => cases hv
        have e3 := B3 _ _ (sM _ _ (B2 _ _ e1 o2p)) o2p
        have l3 := B3 _ _ (sM _ _ hL2) Lp
        refine ⟨_, rfl, _, rfl, L, _, _, nx1.length - 1, rfl, rfl, l3, ixN_last (by rw [List.length_map]) lt0, ?_⟩
        exact put (kk := 5) _ z (P3.more (by omega)) (B1.trans (B2.trans ((But.of_same sM).trans B3))) e3 l3 n1 b1 z0 z1
      · exact ⟨nx1, rfl, P2.more (by omega), B1.trans B2, B2 _ _ e1 o2p, B2 _ _ l1 Lp, n1, b1⟩
    clear P1 B1 e1 l1 n1 b1
    rintro σ H1 ⟨nx1, rfl, P1, B1, e1, l1, n1, b1⟩
    refine ⟨fun σ H' => ∃ wi2, 0 ≤ wi2 ∧ wi2 ≤ 2 * (n + gs.length) + 1 ∧ W 7 wi2 σ H', ?_, ?_⟩
    · refine ⟨_, rfl, p, c, _, 4, rfl, P1, by omega, by decide, by decide, fun d H2 d0 d2 P2 B2 => ⟨rfl, _, rfl, ite2 (fun c1 => ?_) (fun c1 => ?_)⟩⟩
      · refine ⟨_, rfl, p, c, _, 2, rfl, P2, by omega, by decide, by decide, fun z H3 z0 z2 P3 B3 => ?_⟩
        refine ⟨_, rfl, o2, _, rfl, op_wish (B3 _ _ (B2 _ _ e1 o2p) o2p), z, z0, by omega, nx1, rfl, (P3.upd o2p o2c).more (by omega), fun b v e ne => ?_, upd_same, ?_, n1, b1⟩
        · rw [upd_ne (nH2 b v e)]
          exact B3 _ _ (B2 _ _ (B1 _ _ e ne) ne) ne
        · rw [upd_ne oL.symm]
          exact B3 _ _ (B2 _ _ l1 Lp) Lp
      · exact ⟨wi, ok.w0, ok.w1, nx1, rfl, P2.more (by omega), B1.trans B2, B2 _ _ e1 o2p, B2 _ _ l1 Lp, n1, b1⟩
    clear P1 B1 e1 l1 n1 b1
    rintro σ H1 ⟨wi2, w0, w1, nx1, rfl, P1, B1, e1, l1, n1, b1⟩
    refine ⟨_, rfl, L, _, rfl, .inl ⟨SqL.of l1, fun t3 n3 => ?_⟩⟩
    have s3 := same_new (u := .tup (nx1.map V.int)) n3
    have e3 := s3 _ _ e1
    refine ⟨_, rfl, o2, _, rfl, op_nexts (t3 := t3) e3, _, rfl, ?_⟩
    have B4 : But p H (upd (upd H1 t3 (.tup (nx1.map V.int))) o2 (.dK (ownD n i g t1 t3 wi2))) := fun b v e ne => by
      rw [upd_ne (nH2 b v e)]
      exact s3 _ _ (B1 _ _ e ne)
    have f4 := Firm.pen B4 hP
    have t3o : t3 ≠ o2 := fun e => by
      rw [e, e1] at n3
      cases n3
    refine q _ o2 nx1 wi2 (((P1.same s3).upd o2p o2c).more (by omega)) B4 ⟨g, t1, t3, upd_same, hG.firm f4, firm_seq f4 h1, SqT.of ?_⟩ ⟨i0, i1, n7, ok.gok, ok.glen, ok.rl, ok.r01, by omega, b1, w0, w1⟩ o2p
    rw [upd_ne t3o]
    exact upd_same
end
end Jy
namespace Jm
open PySem PySem.Spec PyProof.Rows L2 Pen Dat Ki Fi Gr No Lf Cm Cn Cp Cq Mc Lc Dm Gc Wm Ju Abk Ack Jv Jw Jx Jy
/-! ## k44: what is due, and what the told rows say -/
theorem good_clauses : ∀ (gs : List (Int × Int)) (n M : Nat), okG (2 * (n : Int) + 1) gs = true → 2 * (n + gs.length) + 1 ≤ M → ∀ cl ∈ clauses n gs, GoodC M cl
  | [], n, M, _, _ => fun cl m => absurd m List.not_mem_nil
  | p :: r, n, M, hok, hM => by
    intro cl m
    have hr : okG (2 * ((n + 1 : Nat) : Int) + 1) r = true := by
      unfold okG at hok
      rw [Bool.and_eq_true] at hok
      have e : (2 * ((n + 1 : Nat) : Int) + 1) = 2 * (n : Int) + 1 + 2 := by omega
      rw [e]
      exact hok.2
    rw [List.length_cons] at hM
    rcases List.mem_append.mp (show cl ∈ (three (2 * ((n : Int) + 1)) p).filterMap clM ++ clauses (n + 1) r from m) with m | m
    · obtain ⟨ls, hls, e⟩ := List.mem_filterMap.mp m
      obtain ⟨⟨a0, a1⟩, b0, b1⟩ := okG_at (i := 0) hok rfl
      unfold clM at e
      cases hb : bad ls with
      | true =>
        rw [hb] at e
        cases e
      | false =>
        rw [hb] at e
        have e : clL ls = cl := Option.some.inj e
        subst e
        have h0 : ∀ l ∈ ls, 0 ≤ l ∧ l.toNat ≤ M := by
          unfold three at hls
          simp only [List.mem_cons, List.not_mem_nil, or_false] at hls
          rcases hls with rfl | rfl | rfl
          all_goals
            intro l hl
            simp only [List.mem_cons, List.not_mem_nil, or_false] at hl
            rcases hl with rfl | rfl | rfl
          all_goals first
            | omega
            | (unfold fl; omega)
        exact good_is h0 hb (isCl_clL (fun l hl => (h0 l hl).1) hb)
    · exact good_clauses r (n + 1) M hr (by omega) cl m
def due (b : List Int) (gs : List (Int × Int)) (ls : List Int) : Bool := !(ls.any fun l => decide (litv (whole b gs) l = 1))
theorem lit_litv (b : List Int) (gs : List (Int × Int)) (l : Int) : lit (vals b gs) l = litv (whole b gs) l := by
  unfold litv
  rw [← vals_head]
theorem bool_iff {x y : Bool} (h : x = true ↔ y = true) : x = y := by
  cases x <;> cases y <;> simp_all
theorem any_iff {ls : List Int} {as : List Int} : (ls.any fun l => decide (litv as l = 1)) = true ↔ ∃ l ∈ ls, litv as l = 1 := by
  rw [List.any_eq_true]
  exact ⟨fun ⟨l, h, e⟩ => ⟨l, h, of_decide_eq_true e⟩, fun ⟨l, h, e⟩ => ⟨l, h, decide_eq_true e⟩⟩
theorem due_cl {b : List Int} {gs : List (Int × Int)} {nx cl : List Int} (h01 : B01 b) (n0 : ∀ z ∈ nx, 0 ≤ z) (hc : ∀ z ∈ cl, z ≠ 0 ∧ z.natAbs ≤ nx.length) : (!satB (nx.map fun l => lit (vals b gs) l) cl) = due b gs (cl.map (led nx)) := by
  unfold due
  rw [bool_iff ((sat_led (gs := gs) h01 n0 hc).trans any_iff.symm)]
theorem due_wish {b : List Int} {gs : List (Int × Int)} {wi : Int} (h01 : B01 b) : decide (V.int (lit (vals b gs) wi) = V.int 0) = due b gs [wi] := by
  unfold due
  rw [lit_litv]
  rcases litv_01 (whole_01 gs h01) wi with e | e
  · rw [e]
    simp [e]
  · rw [e]
    simp [e]
theorem due_bad {b : List Int} {gs : List (Int × Int)} {ls : List Int} (h01 : B01 b) (h0 : ∀ l ∈ ls, 0 ≤ l) (hb : bad ls = true) : due b gs ls = false := by
  unfold due
  rw [any_iff.mpr (sat_bad (whole_01 gs h01) h0 hb)]
  rfl
theorem sat_one (as : List Int) (z : Int) : satB as [z] = decide (as.getD (z.natAbs - 1) 0 = if z > 0 then 1 else 0) := by
  unfold satB
  simp
theorem sat_neg {as : List Int} (h : B01 as) {z : Int} (z0 : z ≠ 0) : satB as [-z] = !satB as [z] := by
  rw [sat_one, sat_one, Int.natAbs_neg]
  rcases getD_01 h (z.natAbs - 1) with e | e <;> rw [e] <;> rcases Int.lt_or_gt_of_ne z0 with l | l
  · rw [if_pos (by omega), if_neg (by omega)]
    rfl
  · rw [if_neg (by omega), if_pos (by omega)]
    rfl
  · rw [if_pos (by omega), if_neg (by omega)]
    rfl
  · rw [if_neg (by omega), if_pos (by omega)]
    rfl
theorem sat_any (as cl : List Int) : satB as cl = cl.any fun z => satB as [z] := by
  unfold satB
  simp
theorem due_all {b : List Int} {gs : List (Int × Int)} {ls c2 : List Int} (h01 : B01 b) (h0 : ∀ l ∈ ls, 0 ≤ l) (hb : bad ls = false) (hc : IsCl ls c2) : ((c2.map fun z => -z).all fun z => satB (whole b gs) [z]) = due b gs ls := by
  have w01 := whole_01 gs h01
  have e1 : ((c2.map fun z => -z).all fun z => satB (whole b gs) [z]) = !satB (whole b gs) c2 := by
    rw [sat_any, List.all_map, List.not_any_eq_all_not]
    refine bool_iff ?_
    rw [List.all_eq_true, List.all_eq_true]
    have key : ∀ z ∈ c2, satB (whole b gs) [-z] = !satB (whole b gs) [z] := fun z hz => by
      obtain ⟨l, hl, l1, e⟩ := (hc.2 z).mp hz
      refine sat_neg w01 fun e0 => ?_
      have := sgn_abs (h0 l hl)
      rw [← e, e0] at this
      have : (l / 2).toNat = 0 := this.symm
      omega
    exact ⟨fun h z hz => by have := h z hz; rw [← key z hz]; exact this, fun h z hz => by have := h z hz; show satB (whole b gs) [-z] = true; rw [key z hz]; exact this⟩
  rw [e1]
  unfold due
  rw [bool_iff ((sat_cl w01 h0 (not_bad hb).1 hc).trans any_iff.symm)]
theorem in_set_eq {b : List Int} {gs : List (Int × Int)} {i : Nat} {cls : List (List Int)} (h01 : B01 b) (hok : okG (2 * (b.length : Int) + 1) gs = true) (hc : ∀ cl ∈ cls, ∀ z ∈ cl, z ≠ 0 ∧ i + z.natAbs ≤ b.length) :
    ((clauses b.length gs ++ cls.map (nowM i)).all (satB (whole b gs))) = cls.all (satB (b.drop i)) := by
  have f := ((fits_whole (whole_01 gs h01) (whole_len b gs) hok).mpr rfl).1
  have e1 : ((clauses b.length gs).all (satB (whole b gs))) = true := List.all_eq_true.mpr f
  rw [List.all_append, e1, Bool.true_and, List.all_map]
  refine bool_iff ?_
  rw [List.all_eq_true, List.all_eq_true]
  have key : ∀ cl ∈ cls, satB (whole b gs) (nowM i cl) = satB (b.drop i) cl := fun cl h => sat_now (hc cl h)
  exact ⟨fun h z hz => by have := h z hz; rw [← key z hz]; exact this, fun h z hz => by have := h z hz; show satB (whole b gs) (nowM i z) = true; rw [key z hz]; exact this⟩
/-! ### told rows as data -/
def tkD (ls : List Int) : PyData := if bad ls = true then .none else .tuple (((clL ls).map fun z => -z).map .int)
theorem tk_dp {K : PySem.W.Frag} {H : Hp} : ∀ {vs : List V} {lss : List (List Int)}, All2 (Tk H) vs lss → (∀ ls ∈ lss, ∀ l ∈ ls, 0 ≤ l) → DpAll K H vs (lss.map tkD)
  | _, _, .nil, _ => .nil
  | _, _, .cons (x := ls) h t, h0 => by
    refine .cons ?_ (tk_dp t fun ls hl => h0 ls (List.mem_cons_of_mem _ hl))
    have l0 := h0 ls List.mem_cons_self
    rcases h with ⟨rfl, hb⟩ | ⟨a, c2, rfl, hb, hc, ha⟩
    · unfold tkD
      rw [if_pos hb]
      exact .non
    · unfold tkD
      rw [if_neg (by rw [hb]; decide), ← isCl_uniq hc (isCl_clL l0 hb)]
      exact .tup (SqT.of ha) (ints_dp _)
theorem tkD_lay : ∀ lss : List (List Int), PyData.canLayAll0 (lss.map tkD) = true ∧ PyData.depthAll (lss.map tkD) ≤ 1
  | [] => ⟨rfl, Nat.zero_le _⟩
  | ls :: r => by
    obtain ⟨a, b⟩ := tkD_lay r
    have h : (tkD ls).canLay0 = true ∧ (tkD ls).depth ≤ 1 := by
      unfold tkD
      split
      · exact ⟨rfl, Nat.zero_le _⟩
      · obtain ⟨x, y⟩ := lay_list ((clL ls).map fun z => -z)
        refine ⟨x, ?_⟩
        show PyData.depthAll _ + 1 ≤ 1
        rw [y]
        exact Nat.le_refl _
    refine ⟨?_, ?_⟩
    · show ((tkD ls).canLay0 && PyData.canLayAll0 (r.map tkD)) = true
      rw [a, h.1]
      rfl
    · show max (tkD ls).depth (PyData.depthAll (r.map tkD)) ≤ 1
      exact Nat.max_le.mpr ⟨h.2, b⟩
theorem tkD_sh (lss : List (List Int)) : SeqAt.shaped (.list (lss.map tkD)) = true := by
  obtain ⟨a, b⟩ := tkD_lay lss
  show (PyData.canLayAll0 (lss.map tkD) && decide (PyData.depthAll (lss.map tkD) + 1 ≤ 64)) = true
  rw [a, decide_eq_true (by omega)]
  rfl
def rwD (r : List Int) : PyData := .tuple (r.map .int)
theorem tu_dp {K : PySem.W.Frag} {H : Hp} : ∀ {vs : List V} {rs : List (List Int)}, All2 (Tu K H) vs rs → DpAll K H vs (rs.map rwD)
  | _, _, .nil => .nil
  | _, _, .cons ⟨q, e, h⟩ t => by
    subst e
    exact .cons (.tup (SqT.of h) (ints_dp _)) (tu_dp t)
theorem rwD_lay : ∀ rs : List (List Int), PyData.canLayAll0 (rs.map rwD) = true ∧ PyData.depthAll (rs.map rwD) ≤ 1
  | [] => ⟨rfl, Nat.zero_le _⟩
  | r :: t => by
    obtain ⟨a, b⟩ := rwD_lay t
    obtain ⟨x, y⟩ := lay_list r
    refine ⟨?_, ?_⟩
    · show (PyData.canLayAll0 (r.map .int) && PyData.canLayAll0 (t.map rwD)) = true
      rw [a, x]
      rfl
    · show max (PyData.depthAll (r.map .int) + 1) (PyData.depthAll (t.map rwD)) ≤ 1
      rw [y]
      exact Nat.max_le.mpr ⟨Nat.le_refl _, b⟩
theorem rwD_sh (rs : List (List Int)) : SeqAt.shaped (.tuple (rs.map rwD)) = true := by
  obtain ⟨a, b⟩ := rwD_lay rs
  show (PyData.canLayAll0 (rs.map rwD) && decide (PyData.depthAll (rs.map rwD) + 1 ≤ 64)) = true
  rw [a, decide_eq_true (by omega)]
  rfl
theorem ne_self {d : PyData} (h : SeqAt.shaped d = true) : (!PyData.eqv d d) = false := by
  rw [SeqAt.eqv_refl _ (SeqAt.canLay_of_shaped h)]
  rfl
/-! ### what stands while the law goes -/
def tasksM (cls : List (List Int)) (nx : List Int) (wi : Int) : List (List Int) := cls.map (fun cl => cl.map (led nx)) ++ [[wi]]
structure Fk (K : PySem.W.Frag) (H : Hp) (o R gv : Addr) (wv : V) (n i : Nat) (gs : List (Int × Int)) (rs nx : List Int) (wi : Int) (us : List V) (cls : List (List Int)) : Prop where
  own : OwnAt K H o n i gs rs nx wi
  row : SqT K H R us
  rows : All2 (Tu K H) us cls
  gvs : ∃ ws, SqT K H gv ws ∧ All2 (Tu K H) ws (clauses n gs ++ cls.map (nowM i))
  wv : Tk H wv [wi]
theorem Fk.keep {K : PySem.W.Frag} {H H' : Hp} {o R gv : Addr} {wv : V} {n i : Nat} {gs : List (Int × Int)} {rs nx : List Int} {wi : Int} {us : List V} {cls : List (List Int)} (f : Firm H H') (ho : ∀ kvs, H o = some (.dK kvs) → H' o = some (.dK kvs)) (h : Fk K H o R gv wv n i gs rs nx wi us cls) : Fk K H' o R gv wv n i gs rs nx wi us cls := by
  obtain ⟨⟨g, t1, t2, h1, h2, h3, h4⟩, b, c, ⟨ws, d, e⟩, w⟩ := h
  exact ⟨⟨g, t1, t2, ho _ h1, h2.firm f, firm_seq f h3, firm_seq f h4⟩, firm_seq f b, c.imp fun _ _ h => h.firm f, ⟨ws, firm_seq f d, e.imp fun _ _ h => h.firm f⟩, w.firm f⟩
theorem Fk.same {K : PySem.W.Frag} {H H' : Hp} {o R gv : Addr} {wv : V} {n i : Nat} {gs : List (Int × Int)} {rs nx : List Int} {wi : Int} {us : List V} {cls : List (List Int)} (s : Same H H') (h : Fk K H o R gv wv n i gs rs nx wi us cls) : Fk K H' o R gv wv n i gs rs nx wi us cls := h.keep (Firm.of s) fun _ e => s _ _ e
theorem Fk.but {K : PySem.W.Frag} {H H' : Hp} {o R gv nv : Addr} {wv : V} {n i : Nat} {gs : List (Int × Int)} {rs nx : List Int} {wi : Int} {us : List V} {cls : List (List Int)} {xs : List V} (b : But nv H H') (hn : H nv = some (.lst xs)) (h : Fk K H o R gv wv n i gs rs nx wi us cls) : Fk K H' o R gv wv n i gs rs nx wi us cls :=
  h.keep (Firm.but b hn rfl) fun _ e => b _ _ e fun z => by
    rw [z, hn] at e
    cases e
/-- never: True where a told row is None -/
def NV (H : Hp) (nv : Addr) (ts : List (List Int)) : Prop := ∃ ns : List Bool, H nv = some (.lst (ns.map V.bl)) ∧ ns.length = ts.length ∧ ∀ (j : Nat) (ls : List Int), ts[j]? = some ls → bad ls = true → ns[j]? = some true
end Jm
namespace Jl
open PySem PySem.Spec PyProof.Rows L2 Pen Dat Ki Fi Gr No Lf Cm Cn Cp Cq Mc Lc Dm Gc Wm Ju Abk Ack Jv Jw Jx Jy Jm Gd
/-! ## k44: the law -/
abbrev nLaw : List Str := ["_law_script", "_law_pen_here", "_law_machine", "_law_made", "_law_many", "_law_row", "_law_given_here", "_law_wish", "_law_clause", "_law_told", "_law_never", "_law_state", "_law_bits", "_law_nodes", "_law_behind", "_law_good", "_law_dues", "_law_k", "_law_literals"]
theorem scLaw : FnScope nLaw ["_law_script"] (defScope sLaw) := ⟨rfl, rfl, rfl, by decide +kernel, rfl, by decide +kernel, by decide +kernel⟩
def spLaw (K : PySem.W.Frag) : Sp := fun vs H Q _ => ∃ (a : Addr) (ns : List Int), vs = [.ref a] ∧ SqL K H a (ns.map V.int) ∧ ns.length ≤ 63 ∧ ∀ H', Q (.bl true) H'
theorem fk_told {H : Hp} {tv : List V} {wv : V} {cls : List (List Int)} {nx : List Int} {wi : Int} (a : All2 (Tk H) tv (cls.map fun cl => cl.map (led nx))) (h : Tk H wv [wi]) : All2 (Tk H) (tv ++ [wv]) (tasksM cls nx wi) := a.snoc h
theorem flat_rep (k : Nat) (x : V) : (List.replicate k [x]).flatten = List.replicate k x := by
  induction k with
  | zero => rfl
  | succ k ih =>
    show [x] ++ (List.replicate k [x]).flatten = _
    rw [ih]
    rfl
theorem nv_ne {K : PySem.W.Frag} {H : Hp} {nv l : Addr} {ts rows : List (List Int)} {ws : List V} (N : NV H nv ts) (ht : 0 < ts.length) (h : H l = some (.lst ws)) (a : All2 (Tu K H) ws rows) : l ≠ nv := fun e => by
  obtain ⟨ns, e1, e2, _⟩ := N
  rw [e, e1] at h
  have h := HO.lst.inj (Option.some.inj h)
  cases ns with
  | nil => rw [← e2] at ht; exact absurd ht (by decide)
  | cons b r =>
    subst h
    cases a with
    | cons x _ =>
      obtain ⟨_, z, _⟩ := x
      cases z
theorem goF {b : Bool} {A B : Prop} (h : b = false) (x : B) : if b = true then A else B := by rw [h]; exact iteF x
section
variable {P : Program} {w : World} {K : PySem.W.Frag} {mg : Str → Option Value} {base : Heap} {f C M : Addr} {fd : FuncData}
theorem ok_law (F : FnP K "law" sLaw f fd) (T : Jv.Tx mg)
    {fP fX fS fQ fL fU fN fW fV fZ fR fF fT fJ fI fY : Addr} {dP dX dS dQ dL dU dN dW dV dZ dR dF dT dJ dI dY : FuncData}
    (GP : FnOk P w K mg base CX0 1 fP dP ["_law_script"] (spPen K)) (gP : mg "_law_pen" = some (.ref fP)) (kP : PySem.W.keepIn K (.ref fP) = true) (bP : Binds K dP ["_law_script"] [])
    (GX : FnOk P w K mg base CX0 3 fX dX ["_law_pen_here", "_law_machine"] (spSpiced K)) (gX : mg "_law_spiced" = some (.ref fX)) (kX : PySem.W.keepIn K (.ref fX) = true) (bX : Binds K dX ["_law_pen_here", "_law_machine"] [])
    (GS : FnOk P w K mg base CX0 4 fS dS ["_law_pen_here"] (spSmall K)) (gS : mg "_law_small_machine" = some (.ref fS)) (kS : PySem.W.keepIn K (.ref fS) = true) (bS : Binds K dS ["_law_pen_here"] [])
    (GQ : FnOk P w K mg base CX0 6 fQ dQ ["_law_machine"] (spMade K C M)) (gQ : mg "_law_made_machine" = some (.ref fQ)) (kQ : PySem.W.keepIn K (.ref fQ) = true) (bQ : Binds K dQ ["_law_machine"] [])
    (GL : FnOk P w K mg base CX0 4 fL dL ["_law_pen_here", "_law_many"] (spSRow K)) (gL : mg "_law_state_row" = some (.ref fL)) (kL : PySem.W.keepIn K (.ref fL) = true) (bL : Binds K dL ["_law_pen_here", "_law_many"] [])
    (GU : FnOk P w K mg base CX0 3 fU dU ["machine", "clauses"] (spGiven K C M)) (gU : mg "given_of" = some (.ref fU)) (kU : PySem.W.keepIn K (.ref fU) = true) (bU : Binds K dU ["machine", "clauses"] [])
    (GN : FnOk P w K mg base CX0 3 fN dN ["machine"] (spAWish K M)) (gN : mg "against_wish" = some (.ref fN)) (kN : PySem.W.keepIn K (.ref fN) = true) (bN : Binds K dN ["machine"] [])
    (GW : FnOk P w K mg base CX0 3 fW dW ["machine", "clause"] (spAgainst K M)) (gW : mg "against" = some (.ref fW)) (kW : PySem.W.keepIn K (.ref fW) = true) (bW : Binds K dW ["machine", "clause"] [])
    (GV : FnOk P w K mg base CX0 4 fV dV ["_law_machine", "_law_clauses"] (spLGiven K)) (gV : mg "_law_given" = some (.ref fV)) (kV : PySem.W.keepIn K (.ref fV) = true) (bV : Binds K dV ["_law_machine", "_law_clauses"] [])
    (GZ : FnOk P w K mg base CX0 5 fZ dZ ["_law_machine", "_law_clauses"] (spTasks K)) (gZ : mg "_law_tasks" = some (.ref fZ)) (kZ : PySem.W.keepIn K (.ref fZ) = true) (bZ : Binds K dZ ["_law_machine", "_law_clauses"] [])
    (GR : FnOk P w K mg base CX0 2 fR dR ["_law_many"] (spRows K)) (gR : mg "_law_rows" = some (.ref fR)) (kR : PySem.W.keepIn K (.ref fR) = true) (bR : Binds K dR ["_law_many"] [])
    (GF : FnOk P w K mg base CX0 2 fF dF ["_law_leaves", "_law_gates", "_law_bits"] (spValues K)) (gF : mg "_law_values" = some (.ref fF)) (kF : PySem.W.keepIn K (.ref fF) = true) (bF : Binds K dF ["_law_leaves", "_law_gates", "_law_bits"] [])
    (GT : FnOk P w K mg base CX0 3 fT dT ["_law_machine", "_law_state", "_law_bits"] (spTick K)) (gT : mg "_law_tick" = some (.ref fT)) (kT : PySem.W.keepIn K (.ref fT) = true) (bT : Binds K dT ["_law_machine", "_law_state", "_law_bits"] [])
    (GJ : FnOk P w K mg base CX0 2 fJ dJ ["_law_clauses", "_law_state"] (spInSet K)) (gJ : mg "_law_in_set" = some (.ref fJ)) (kJ : PySem.W.keepIn K (.ref fJ) = true) (bJ : Binds K dJ ["_law_clauses", "_law_state"] [])
    (GI : FnOk P w K mg base CX0 1 fI dI ["_law_assignment", "_law_clause"] (spFits K)) (gI : mg "_law_fits" = some (.ref fI)) (kI : PySem.W.keepIn K (.ref fI) = true) (bI : Binds K dI ["_law_assignment", "_law_clause"] [])
    (GY : FnOk P w K mg base CX0 2 fY dY ["_law_nodes", "_law_literals"] (spATrue K)) (gY : mg "_law_all_true" = some (.ref fY)) (kY : PySem.W.keepIn K (.ref fY) = true) (bY : Binds K dY ["_law_nodes", "_law_literals"] [])
    : FnG P w K mg base CX0 7 f fd ["_law_script"] (spLaw K) := by
  refine FnG.mk_of F scLaw (fun vs H Q E h => ?_) (fun cdv A outer s H vs Q E hg hr h => ?_)
  · obtain ⟨a, ns, rfl, _⟩ := h
    rfl
  · obtain ⟨a, ns, rfl, hS, hl, q⟩ := h
    have hu := hu_of hr
    refine ⟨_, PSs.nox (pss_cons (ps_set (i := 1) scLaw.nd rfl (Or.inl rfl) (pe_call GP (hr.mono (by decide)) (by rfl) gP kP bP .nil pass0 (pa_cons (pv 0) pa_nil)))
      (pss_cons (ps_set (i := 2) scLaw.nd rfl (Or.inl rfl) (pe_call GX (hr.mono (by decide)) (by rfl) gX kX bX .nil pass0 (pa_cons (pv 1) (pa_cons (pe_call GS (hr.mono (by decide)) (by rfl) gS kS bS .nil pass0 (pa_cons (pv 1) pa_nil)) pa_nil))))
      (pss_cons (ps_asg (pe_tup (pa_cons (pe_call GQ (hr.mono (by decide)) (by rfl) gQ kQ bQ .nil pass0 (pa_cons (pv 2) pa_nil)) (pa_cons (pe_callB call_len_seq (by rfl) T.len PySem.boot_len (pa_cons (pe_dget hu (pv 2) pe_str (fun _ _ => rfl)) pa_nil)) pa_nil))) (pg_tup rfl (pgs_cons (pg_name (i := 3) scLaw.nd rfl (Or.inr rfl)) (pgs_cons (pg_name (i := 4) scLaw.nd rfl (Or.inl rfl)) pgs_nil))))
      (pss_cons (ps_set (i := 5) scLaw.nd rfl (Or.inl rfl) (pe_call GL (hr.mono (by decide)) (by rfl) gL kL bL .nil pass0 (pa_cons (pv 1) (pa_cons (pv 4) pa_nil))))
      (C8.pss_cut (ps_par (i := 6) (j := 7) rfl scLaw.nd rfl rfl (by decide) rfl rfl (pa_cons (pe_call GU (hr.mono (by decide)) (by rfl) gU kU bU .nil pass0 (pa_cons (pv 3) (pa_cons (pv 5) pa_nil))) (pa_cons (pe_call GN (hr.mono (by decide)) (by rfl) gN kN bN .nil pass0 (pa_cons (pv 3) pa_nil)) pa_nil)) (by rfl))
      (pss_cons (ps_setLc (i := 9) (own := [("_law_clause", 8)]) (g := gName 8) (tt := tYes) (by rfl) scLaw.nd rfl rfl (sw_true rfl rfl rfl (by decide +kernel)) (pi_tup (pv 5)) (blkOk_by (N := nLaw) (sc := defScope sLaw) (by decide +kernel)) (fun _ _ _ _ _ => pg_name (i := 8) scLaw.nd rfl (Or.inl rfl)) (fun _ _ _ _ _ => pts_nil) (fun _ _ _ _ _ => (pe_call GW (hr.mono (by decide)) (by rfl) gW kW bW .nil pass0 (pa_cons (pv 3) (pa_cons (pv 8) pa_nil)))))
      (pss_cons (ps_if (PW.pt (pw_or (pt_cmpR (op_neD hr.units) (pv 6) (pe_call GV (hr.mono (by decide)) (by rfl) gV kV bV .nil pass0 (pa_cons (pv 2) (pa_cons (pv 5) pa_nil))) (nomark _)) (pw_or1 (pt_cmpR (op_neD hr.units) (pe_op op_cat (pv 9) (pe_lst (pa_cons (pv 7) pa_nil))) (pe_call GZ (hr.mono (by decide)) (by rfl) gZ kZ bZ .nil pass0 (pa_cons (pv 2) (pa_cons (pv 5) pa_nil))) (nomark _)))))
        (pss_one (ps_ret pe_bl))
        pss_nil)
      (C8.pss_cut (ps_set (i := 10) scLaw.nd rfl (Or.inr rfl) (pe_op op_rep (pe_lst (pa_cons pe_bl pa_nil)) (pe_op op_add (pe_callB call_len_seq (by rfl) T.len PySem.boot_len (pa_cons (pv 5) pa_nil)) pe_int)))
      (pss_cons (ps_for PassesOwn.never rfl (pi_list (pe_call GR (hr.mono (by decide)) (by rfl) gR kR bR .nil pass0 (pa_cons (pv 4) pa_nil))) (pg_name (i := 11) scLaw.nd rfl (Or.inl rfl))
        (pss_one (ps_for PassesOwn.never rfl (pi_list (pe_call GR (hr.mono (by decide)) (by rfl) gR kR bR .nil pass0 (pa_cons (pe_dget hu (pv 2) pe_str (fun _ _ => rfl)) pa_nil))) (pg_name (i := 12) scLaw.nd rfl (Or.inl rfl))
          (pss_cons (ps_set (i := 13) scLaw.nd rfl (Or.inl rfl) (pe_call GF (hr.mono (by decide)) (by rfl) gF kF bF .nil pass0 (pa_cons (pe_dget hu (pv 2) pe_str (fun _ _ => rfl)) (pa_cons (pe_dget hu (pv 2) pe_str (fun _ _ => rfl)) (pa_cons (pe_op op_catA (pv 12) (pv 11)) pa_nil)))))
          (pss_cons (ps_asg (pe_call GT (hr.mono (by decide)) (by rfl) gT kT bT .nil pass0 (pa_cons (pv 2) (pa_cons (pv 11) (pa_cons (pv 12) pa_nil)))) (pg_tup rfl (pgs_cons (pg_name (i := 14) scLaw.nd rfl (Or.inr rfl)) (pgs_cons (pg_name (i := 15) scLaw.nd rfl (Or.inl rfl)) pgs_nil))))
          (pss_cons (ps_if (pt_cmpR op_ne (pe_call GJ (hr.mono (by decide)) (by rfl) gJ kJ bJ .nil pass0 (pa_cons (pv 6) (pa_cons (pe_slice sl_list (pv 13) (po_some pe_int) po_none) pa_nil))) (pe_call GJ (hr.mono (by decide)) (by rfl) gJ kJ bJ .nil pass0 (pa_cons (pv 5) (pa_cons (pv 11) pa_nil))) (nomark _))
            (pss_one (ps_ret pe_bl))
            pss_nil)
          (pss_cons (ps_set (i := 16) scLaw.nd rfl (Or.inl rfl) (pe_op op_cat (pe_lc (own := [("_law_clause", 8)]) (g := gName 8) (tt := tYes) rfl scLaw.nd (pi_tup (pv 5)) (blkOk_by (N := nLaw) (sc := defScope sLaw) (by decide +kernel)) (fun _ _ _ _ _ => pg_name (i := 8) scLaw.nd rfl (Or.inl rfl)) (fun _ _ _ _ _ => pts_nil) (fun _ _ _ _ _ => (pe_not (pe_call GI (hr.mono (by decide)) (by rfl) gI kI bI .nil pass0 (pa_cons (pv 14) (pa_cons (pv 8) pa_nil)))))) (pe_lst (pa_cons (pe_cmpR op_eq (pv 15) pe_int (nomark _)) pa_nil))))
          (pss_one (ps_for PassesOwn.never rfl (pi_enum (by rfl) T.enum (pa_cons (pe_op op_cat (pv 9) (pe_lst (pa_cons (pv 7) pa_nil))) pa_nil)) (pg_tup rfl (pgs_cons (pg_name (i := 17) scLaw.nd rfl (Or.inl rfl)) (pgs_cons (pg_name (i := 18) scLaw.nd rfl (Or.inl rfl)) pgs_nil)))
            (C8.pss_cut (ps_if (pt_val (pe_ix ix_list (pv 16) (pv 17) (fun _ _ => rfl)))
              (pss_one (ps_asg pe_bl (pg_sub (pv 10) (pv 17) set_list)))
              pss_nil)
            (pss_one (ps_if (PW.pt (pw_and (pt_cmpR op_notN (pv 18) pe_non (nomark _)) (pw_and1 (pt_cmpR op_ne (pe_call GY (hr.mono (by decide)) (by rfl) gY kY bY .nil pass0 (pa_cons (pv 13) (pa_cons (pv 18) pa_nil))) (pe_ix ix_list (pv 16) (pv 17) (fun _ _ => rfl)) (nomark _)))))
              (pss_one (ps_ret pe_bl))
              pss_nil))))))))))))
      (pss_one (ps_ret (pe_cmpR (op_eqD hr.units) (pe_lc (own := [("_law_k", 17), ("_law_literals", 18)]) (g := _) rfl scLaw.nd (pi_enum (by rfl) T.enum (pa_cons (pe_op op_cat (pv 9) (pe_lst (pa_cons (pv 7) pa_nil))) pa_nil)) (blkOk_by (N := nLaw) (sc := defScope sLaw) (by decide +kernel)) (fun _ _ _ _ _ => (Us.pg_tupK (K := K) (n := 2) rfl rfl (pgs_cons (pg_name (i := 17) scLaw.nd rfl (Or.inl rfl)) (pgs_cons (pg_name (i := 18) scLaw.nd rfl (Or.inl rfl)) pgs_nil)))) (fun _ _ _ _ _ => pts_one (PW.pt (pw_and (pt_cmpR op_isN (pv 18) pe_non (nomark _)) (pw_and1 (pt_not (pt_val (pe_ix (r := L2.rIxL K) (by exact ix_list) (pv 10) (pv 17) (fun _ _ => rfl)))))))) (fun _ _ _ _ _ => pe_int)) (pe_lst pa_nil) (nomark _))))))))))))), ?_⟩
    refine ⟨_, rfl, a, ns, rfl, hS, hl, fun p c H1 np s1 P1 => ?_⟩
    refine ⟨_, rfl, _, rfl, p, c, 0, rfl, P1, by omega, fun H2 o0 i r gs rs nx0 wi0 P2 B2 O2 ok2 op0 i2 r1 r3 => ?_⟩
    have nl2 := ok2.nl
    refine ⟨p, c, o0, _, _, _, gs, rs, nx0, wi0, rfl, P2, by omega, O2, ok2, op0, by omega, fun H3 o nx wi P3 B3 O3 ok op => ?_⟩
    have rl := ok.rl
    have nl := ok.nl
    have glen := ok.glen
    have irs : (rs.length : Int) = r := by omega
    have irn : (nx.length : Int) = r := by omega
    refine ⟨_, rfl, o, _, _, gs, rs, nx, wi, rfl, O3, ok, fun H4 mch x s4 M4 G4 => ?_⟩
    obtain ⟨g, t1, t2, ho, hG, h1, h2⟩ := own_same s4 O3
    refine ⟨_, rfl, o, _, rfl, og_resets ho, t1, _, rfl, .inr h1, len2, fun t nt => ⟨t, _, rfl, SqT.of upd_same, rfl, _, _, rfl, _, _, rfl, rfl, ?_⟩⟩
    have st := same_new (u := .tup [V.ref mch, .int ((rs.map V.int).length : Nat)]) nt
    have P5 := (P3.same s4).same st
    have O5 := own_same (s4.trans st) O3
    have M5 := M4.same st
    have G5 := G4.firm (Firm.of st)
    generalize upd H4 t _ = H5 at P5 O5 M5 G5 ⊢
    clear P1 P2 P3 B2 B3 O2 O3 ho hG h1 h2 s4 M4 G4 st nt s1 np
    refine ⟨_, rfl, _, rfl, p, c, _, _, rfl, P5, by omega, ?_, ?_, fun H6 R us cls P6 B6 hR aR l3 okc => ?_⟩
    · rw [List.length_map]
      omega
    · rw [List.length_map]
      omega
    rw [List.length_map] at okc
    have O6 := own_pen B6 P5 op O5
    have M6 := M5.firm (Firm.pen B6 P5)
    have G6 := G5.firm (Firm.pen B6 P5)
    clear P5 O5 M5 G5 B6 P6
    have n0 : ∀ z ∈ nx, 0 ≤ z := fun z hz => (ok.nb z hz).1
    have w0 := ok.w0
    have clen : ∀ cl ∈ cls, cl.length ≤ 4 := fun cl h => by
      have := (okc cl h).len
      omega
    have clok : ∀ cl ∈ cls, ∀ z ∈ cl, z ≠ 0 ∧ z.natAbs ≤ nx.length := fun cl h z hz => by
      obtain ⟨a1, a2⟩ := (okc cl h).ok z hz
      exact ⟨a1, by omega⟩
    refine ⟨fun σ H' => ∃ (gv : Addr) (wv : V), σ = [some (.ref a), some (.ref p), some (.ref o), some (.ref mch), some (.int ((rs.map V.int).length : Nat)), some (.ref R), some (.ref gv), some wv, none, none, none, none, none, none, none, none, none, none, none] ∧ Fk K H' o R gv wv (i + r) i gs rs nx wi us cls ∧ MJ K M H' mch x i nx wi, ?_, ?_⟩
    · refine ⟨_, rfl, _, rfl, mch, R, x, i + r, i, nx, wi, gs, us, cls, rfl, M6, G6, ok.gok, by omega, hR, aR, by omega, fun cl h => by have := clen cl h; omega, fun H7 gv ws s7 hgv agv => ?_⟩
      refine ⟨_, rfl, mch, x, i, nx, wi, rfl, M6.same s7, w0, fun hb H8 s8 => ?_, fun hb H8 t8 c2 s8 hc2 ht8 => ?_⟩
      · have s78 := s7.trans s8
        exact ⟨_, _, rfl, gv, .non, rfl, ⟨own_same s78 O6, seqT_same s78 hR, aR.imp fun _ _ h => h.firm (Firm.of s78), ⟨ws, SqT.of (s8 _ _ hgv), agv.imp fun _ _ h => h.firm (Firm.of s8)⟩, .inl ⟨rfl, hb⟩⟩, M6.same s78⟩
      · have s78 := s7.trans s8
        exact ⟨_, _, rfl, gv, .ref t8, rfl, ⟨own_same s78 O6, seqT_same s78 hR, aR.imp fun _ _ h => h.firm (Firm.of s78), ⟨ws, SqT.of (s8 _ _ hgv), agv.imp fun _ _ h => h.firm (Firm.of s8)⟩, .inr ⟨t8, c2, rfl, hb, hc2, ht8⟩⟩, M6.same s78⟩
    clear O6 M6 G6 hR aR
    rintro σ H6 ⟨gv, wv, rfl, F6, M6⟩
    refine ⟨_, rfl, R, rfl, ⟨_, F6.row⟩, fun D nD => ?_⟩
    refine lc_tup (K := K) (a := R) (xs := us) (fun j H' => Same H6 H' ∧ ∃ tv : List V, H' D = some (.lst tv) ∧ All2 (Tk H') tv ((cls.take j).map fun cl => cl.map (led nx))) ⟨same_new nD, [], upd_same, .nil⟩ (fun j H' _ ⟨s, _⟩ => seqT_same s F6.row) ?_ ?_
    · rintro j y H7 hj ⟨s7, tv, h7, a7⟩
      obtain ⟨cl, hcl1, qc, rfl, hqc⟩ := F6.rows.get hj
      have mcl := List.mem_of_getElem? hcl1
      have hjl := (List.getElem?_eq_some_iff.mp hcl1).1
      have more : ∀ (H8 : Hp) (v : V), Same H7 H8 → Tk H8 v (cl.map (led nx)) → ∃ acc, H8 D = some (.lst acc) ∧ acc.length < sizeLine ∧ Same H6 (upd H8 D (.lst (acc ++ [v]))) ∧ ∃ tv : List V, upd H8 D (.lst (acc ++ [v])) D = some (.lst tv) ∧ All2 (Tk (upd H8 D (.lst (acc ++ [v])))) tv ((cls.take (j + 1)).map fun cl => cl.map (led nx)) := fun H8 v s8 hv => by
        have h8 := s8 _ _ h7
        have fi : Firm H8 (upd H8 D (.lst (tv ++ [v]))) := Firm.upd h8 rfl
        refine ⟨_, h8, ?_, fun b u e => ?_, tv ++ [v], upd_same, ?_⟩
        · rw [a7.len, List.length_map, List.length_take]
          exact Nat.lt_of_le_of_lt (Nat.min_le_left _ _) (Nat.lt_of_lt_of_le (by omega : j < 10) (by decide))
        · rw [upd_ne (ne_of_none e nD)]
          exact s8 _ _ (s7 _ _ e)
        · rw [take_more hcl1, List.map_append]
          exact (a7.imp fun _ _ h => (h.firm (Firm.of s8)).firm fi).snoc (hv.firm fi)
      refine ⟨rfl, yes_of ?_⟩
      refine ⟨_, rfl, _, rfl, mch, qc, i, nx, cl, rfl, (M6.same s7).at_, SqT.of (s7 _ _ hqc), by have := clen cl mcl; omega, clok cl mcl, n0, fun hb H8 s8 => more H8 .non s8 (.inl ⟨rfl, hb⟩), fun hb H8 t8 c2 s8 hc2 ht8 => more H8 (.ref t8) s8 (.inr ⟨t8, c2, rfl, hb, hc2, ht8⟩)⟩
    rintro H7 ⟨s7, tv, h7, a7⟩
    rw [F6.rows.len, List.take_length] at a7
    have F7 := F6.same s7
    clear F6 M6 s7 nD
    obtain ⟨ws, hgv, agv⟩ := F7.gvs
    have ts1 : ∀ ls ∈ tasksM cls nx wi, ∀ l ∈ ls, l.toNat ≤ 2 * (i + r + gs.length) + 1 := fun ls hls => by
      rcases List.mem_append.mp hls with h | h
      · obtain ⟨cl, _, rfl⟩ := List.mem_map.mp h
        intro l hl
        have := (led_1 ok.nb (by omega) l hl).2
        omega
      · rw [List.mem_singleton.mp h]
        have := ok.w1
        exact fun l hl => by rw [List.mem_singleton.mp hl]; omega
    have ts0 : ∀ ls ∈ tasksM cls nx wi, ∀ l ∈ ls, 0 ≤ l := fun ls hls => by
      rcases List.mem_append.mp hls with h | h
      · obtain ⟨cl, _, rfl⟩ := List.mem_map.mp h
        exact led_0 n0
      · rw [List.mem_singleton.mp h]
        exact fun l hl => by rw [List.mem_singleton.mp hl]; exact w0
    refine ⟨_, rfl, _, rfl, _, rfl, o, R, i + r, i, gs, rs, nx, wi, us, cls, rfl, F7.own, ok.gok, by omega, F7.row, F7.rows, by omega, fun cl h => by have := clen cl h; omega, fun H8 t8 ws8 s8 ht8 aw8 => ?_⟩
    refine ⟨_, _, .tup (seqT_same s8 hgv) (tu_dp (agv.imp fun _ _ h => h.firm (Firm.of s8))), .tup ht8 (tu_dp aw8), rwD_sh _, rwD_sh _, _, rfl, ?_⟩
    rw [ne_self (rwD_sh _)]
    refine iteF ?_
    have F8 := F7.same s8
    have h8 := s8 _ _ h7
    have a8 := a7.imp fun _ _ h => h.firm (Firm.of s8)
    clear F7 hgv agv s8 h7 a7 ht8 aw8
    refine ⟨_, rfl, _, rfl, len1, fun E0 nE => ⟨D, E0, _, _, rfl, rfl, same_new nE _ _ h8, upd_same, ?_, fun D2 nD2 => ?_⟩⟩
    · show tv.length + 1 ≤ sizeLine
      rw [a8.len, List.length_map]
      exact Nat.le_trans (by omega : cls.length + 1 ≤ 10) (by decide)
    have s9 := (same_new (u := .lst [wv]) nE).trans (same_new (u := .lst (tv ++ [wv])) nD2)
    have F9 := F8.same s9
    have h9 := s9 _ _ h8
    have a9 := a8.imp fun _ _ h => h.firm (Firm.of s9)
    have eD2 := upd_same (H := upd H8 E0 (.lst [wv])) (a := D2) (o := .lst (tv ++ [wv]))
    generalize upd (upd H8 E0 _) D2 _ = H9 at s9 F9 h9 a9 eD2 ⊢
    clear F8 h8 a8 s9 nE nD2
    refine ⟨_, rfl, _, rfl, o, R, _, _, gs, rs, nx, wi, us, cls, rfl, F9.own, w0, n0, F9.row, F9.rows, by omega, fun cl h => ⟨by have := clen cl h; omega, clok cl h⟩, fun H10 D3 ws3 s10 h3 a3 => ?_⟩
    have a9' := (fk_told a9 F9.wv).imp fun _ _ h => h.firm (Firm.of s10)
    refine ⟨_, _, .lst (SqL.of (s10 _ _ eD2)) (tk_dp a9' ts0), .lst (SqL.of h3) (tk_dp a3 ts0), tkD_sh _, tkD_sh _, _, rfl, ?_⟩
    rw [show cls.map (fun cl => cl.map (led nx)) ++ [[wi]] = tasksM cls nx wi from rfl, ne_self (tkD_sh _)]
    refine iteF ?_
    have F10 := F9.same s10
    have h10 := s10 _ _ h9
    have a10 := a9.imp fun _ _ h => h.firm (Firm.of s10)
    clear F9 h9 a9 s10 a9' h3 a3 eD2
    have tl : (tasksM cls nx wi).length = cls.length + 1 := by
      unfold tasksM
      rw [List.length_append, List.length_map]
      rfl
    refine ⟨fun σ H' => ∃ nv : Addr, σ = [some (.ref a), some (.ref p), some (.ref o), some (.ref mch), some (.int ((rs.map V.int).length : Nat)), some (.ref R), some (.ref gv), some wv, none, some (.ref D), some (.ref nv), none, none, none, none, none, none, none, none] ∧ Fk K H' o R gv wv (i + r) i gs rs nx wi us cls ∧ H' D = some (.lst tv) ∧ All2 (Tk H') tv (cls.map fun cl => cl.map (led nx)) ∧ D ≠ nv ∧ NV H' nv (tasksM cls nx wi), ?_, ?_⟩
    · refine ⟨len1, fun l1 nl1 => ⟨_, rfl, R, us, rfl, .inr (seqT_same (same_new nl1) F10.row), _, _, rfl, rfl, l1, _, [V.bl true], rfl, rfl, upd_same, by omega, ?_, ?_, fun nv nnv => ?_⟩⟩
      · have := F10.rows.len
        omega
      · have := F10.rows.len
        show 1 * ((us.length : Int) + 1).toNat ≤ sizeLine
        exact Nat.le_trans (by omega : 1 * ((us.length : Int) + 1).toNat ≤ 10) (by decide)
      · have z := (same_new (u := .lst [V.bl true]) nl1).trans (same_new (u := .lst (List.replicate ((us.length : Int) + 1).toNat [V.bl true]).flatten) nnv)
        have hD := z _ _ h10
        refine ⟨nv, rfl, F10.same z, hD, a10.imp fun _ _ h => h.firm (Firm.of z), ne_of_none (same_new nl1 _ _ h10) nnv, List.replicate (cls.length + 1) true, ?_, by rw [List.length_replicate, tl], fun j ls hj _ => ?_⟩
        · rw [upd_same, flat_rep, List.map_replicate, F10.rows.len, show ((cls.length : Int) + 1).toNat = cls.length + 1 by omega]
        · have lt := (List.getElem?_eq_some_iff.mp hj).1
          rw [tl] at lt
          rw [List.getElem?_replicate, if_pos lt]
    clear F10 h10 a10
    rintro σ H1 ⟨nv, rfl, F1, hD1, a1, Dnv, N1⟩
    have n5 : (i + r : Nat) ≤ 5 := by omega
    have nvl : ∀ {H' : Hp}, NV H' nv (tasksM cls nx wi) → ∃ xs, H' nv = some (.lst xs) := fun ⟨_, e, _⟩ => ⟨_, e⟩
    refine ⟨_, rfl, _, rfl, by omega, by rw [List.length_map]; omega, fun H2 l1 ws1 s2 hl1 aw1 => ?_⟩
    rw [show (((rs.map V.int).length : Nat) : Int).toNat = rs.length by rw [List.length_map]; omega] at aw1
    obtain ⟨xs1, hn1⟩ := nvl N1
    have hn2 := s2 _ _ hn1
    have N2 : NV H2 nv (tasksM cls nx wi) := by
      obtain ⟨ns', e1, e2, e3⟩ := N1
      exact ⟨ns', s2 _ _ e1, e2, e3⟩
    have F2 := F1.same s2
    have hD2 := s2 _ _ hD1
    have a2 := a1.imp fun _ _ h => h.firm (Firm.of s2)
    have l1nv : l1 ≠ nv := nv_ne (K := K) N2 (by omega) hl1 aw1
    clear F1 hD1 a1 N1 hn1
    refine ⟨l1, rfl, ⟨_, SqL.of hl1⟩, for_list (K := K) (a := l1) (xs := ws1)
      (fun k σ H' => ∃ (x11 x12 x13 x14 x15 x16 x17 x18 : Option V), σ = [some (.ref a), some (.ref p), some (.ref o), some (.ref mch), some (.int ((rs.map V.int).length : Nat)), some (.ref R), some (.ref gv), some wv, none, some (.ref D), some (.ref nv), x11, x12, x13, x14, x15, x16, x17, x18] ∧ But nv H2 H' ∧ NV H' nv (tasksM cls nx wi))
      ⟨_, _, _, _, _, _, _, _, rfl, But.refl, N2⟩ (fun k σ H' _ ⟨_, _, _, _, _, _, _, _, _, b, _⟩ => SqL.of (b _ _ hl1 l1nv)) ?_ ?_⟩
    · rintro k y σ H3 hk ⟨x11, x12, x13, x14, x15, x16, x17, x18, rfl, B3, N3⟩
      obtain ⟨st, hst, qs, rfl, hqs⟩ := aw1.get hk
      obtain ⟨stl, st01⟩ := rowsM_mem rs.length st (List.mem_of_getElem? hst)
      have f3 := Firm.but B3 hn2 rfl
      have F3 := F2.but B3 hn2
      have hqs3 := f3 _ _ hqs rfl
      have hD3 := B3 _ _ hD2 Dnv
      have a3 := a2.imp fun _ _ h => h.firm f3
      obtain ⟨xs3, hn3⟩ := nvl N3
      obtain ⟨g, t1, t2, ho3, _, _, _⟩ := id F3.own
      refine ⟨_, rfl, o, _, rfl, og_inputs ho3, i, rfl, by omega, by omega, fun H4 l2 ws2 s4 hl2 aw2 => ?_⟩
      rw [show ((i : Nat) : Int).toNat = i from rfl] at aw2
      have F4 := F3.same s4
      have hqs4 := s4 _ _ hqs3
      have hD4 := s4 _ _ hD3
      have a4 := a3.imp fun _ _ h => h.firm (Firm.of s4)
      have hn4 := s4 _ _ hn3
      have N4 : NV H4 nv (tasksM cls nx wi) := by
        obtain ⟨ns', e1, e2, e3⟩ := N3
        exact ⟨ns', s4 _ _ e1, e2, e3⟩
      have l2nv : l2 ≠ nv := nv_ne (K := K) N4 (by omega) hl2 aw2
      clear F3 hqs3 hD3 a3 N3 hn3 ho3
      refine ⟨l2, rfl, ⟨_, SqL.of hl2⟩, for_list (K := K) (a := l2) (xs := ws2)
        (fun k σ H' => ∃ (x12 x13 x14 x15 x16 x17 x18 : Option V), σ = [some (.ref a), some (.ref p), some (.ref o), some (.ref mch), some (.int ((rs.map V.int).length : Nat)), some (.ref R), some (.ref gv), some wv, none, some (.ref D), some (.ref nv), some (.ref qs), x12, x13, x14, x15, x16, x17, x18] ∧ But nv H4 H' ∧ NV H' nv (tasksM cls nx wi))
        ⟨_, _, _, _, _, _, _, rfl, But.refl, N4⟩ (fun k σ H' _ ⟨_, _, _, _, _, _, _, _, b, _⟩ => SqL.of (b _ _ hl2 l2nv)) ?_ ?_⟩
      · rintro k2 y σ H5 hk2 ⟨x12, x13, x14, x15, x16, x17, x18, rfl, B5, N5⟩
        obtain ⟨vb, hvb, qb, rfl, hqb⟩ := aw2.get hk2
        obtain ⟨vbl, vb01⟩ := rowsM_mem i vb (List.mem_of_getElem? hvb)
        have f5 := Firm.but B5 hn4 rfl
        have F5 := F4.but B5 hn4
        have hqs5 := f5 _ _ hqs4 rfl
        have hqb5 := f5 _ _ hqb rfl
        have hD5 := B5 _ _ hD4 Dnv
        have a5 := a4.imp fun _ _ h => h.firm f5
        have B5' := B5
        clear B5 f5
        obtain ⟨g, t1, t2, ho5, hG5, _, _⟩ := id F5.own
        have bl : (vb ++ st).length = i + r := by
          rw [List.length_append]
          omega
        have b01 : B01 (vb ++ st) := fun z hz => (List.mem_append.mp hz).elim (vb01 z) (st01 z)
        refine ⟨_, rfl, o, _, rfl, og_leaves ho5, _, rfl, o, _, rfl, og_gates ho5, _, rfl, _, rfl, ?_⟩
        refine cat_use (K := K) (SqT.of hqb5) (SqT.of hqs5) (by rw [List.length_map, List.length_map, ← List.length_append, bl]; exact Nat.le_trans n5 (by decide)) fun t6 H6 s6 h6 => ?_
        rw [← List.map_append] at h6
        refine ⟨_, g, t6, gs, vb ++ st, rfl, hG5.firm (Firm.of s6), h6, b01, by rw [bl]; exact ok.gok, by omega, by omega, fun H7 nd s7 ndn hnd => ?_⟩
        have s57 := s6.trans s7
        have ndnv : nd ≠ nv := fun e => by
          obtain ⟨_, e1, _⟩ := N5
          have z := s6 _ _ e1
          rw [← e, ndn] at z
          cases z
        have F7 := F5.same s57
        have whl := whole_len (vb ++ st) gs
        rw [vals_head] at hnd
        refine ⟨_, rfl, _, rfl, _, rfl, o, qs, qb, _, _, gs, rs, nx, wi, st, vb, rfl, F7.own, ok, SqT.of (s57 _ _ hqs5), SqT.of (s57 _ _ hqb5), b01, by rw [bl], fun H8 tt tb s8 htt htb => ⟨tt, _, rfl, SqT.of htt, rfl, _, _, rfl, _, _, rfl, rfl, ?_⟩⟩
        have s58 := s57.trans s8
        have F8 := F5.same s58
        have hnd8 := s8 _ _ hnd
        obtain ⟨wsg, hgv, agv⟩ := F8.gvs
        refine ⟨_, rfl, _, rfl, _, rfl, nd, _, rfl, SqL.of hnd8, fun q9 nq9 => ?_⟩
        have s9 := same_new (u := .lst (cutV ((0 :: whole (vb ++ st) gs).map V.int) (some 1) none)) nq9
        have eq9 : upd H8 q9 (.lst (cutV ((0 :: whole (vb ++ st) gs).map V.int) (some 1) none)) q9 = some (.lst ((whole (vb ++ st) gs).map V.int)) := by
          rw [upd_same]
          exact congrArg (fun z => some (HO.lst z)) (cut_tl _ _)
        refine ⟨gv, .ref q9, wsg, _, whole (vb ++ st) gs, rfl, seqT_same s9 hgv, agv.imp fun _ _ h => h.firm (Firm.of s9), ?_, fun cl hcl => ?_, ⟨q9, rfl, .inl (SqL.of eq9)⟩, fun H10 s10 => ?_⟩
        · have := clauses_len gs (i + r)
          rw [List.length_append, List.length_map]
          omega
        · rcases List.mem_append.mp hcl with h | h
          · obtain ⟨c1, c2⟩ := good_clauses gs (i + r) (2 * (i + r + gs.length) + 1) ok.gok (Nat.le_refl _) cl h
            exact ⟨by omega, fun z hz => ⟨(c1 z hz).1, by have := (c1 z hz).2; omega⟩⟩
          · obtain ⟨cl0, h0, rfl⟩ := List.mem_map.mp h
            have := clen cl0 h0
            refine ⟨by unfold nowM; rw [List.length_map]; omega, fun z hz => ?_⟩
            obtain ⟨y, hy, rfl⟩ := List.mem_map.mp hz
            obtain ⟨c1, c2⟩ := clok cl0 h0 y hy
            show (if y > 0 then y + (i : Int) else y - (i : Int)) ≠ 0 ∧ (if y > 0 then y + (i : Int) else y - (i : Int)).natAbs ≤ _
            split <;> exact ⟨by omega, by omega⟩
        have s510 := s58.trans (s9.trans s10)
        have F10 := F5.same s510
        refine ⟨_, rfl, _, rfl, R, .ref qs, us, cls, st, rfl, F10.row, F10.rows, by omega, fun cl h => ⟨by have := clen cl h; omega, fun z hz => ⟨(clok cl h z hz).1, by have := (clok cl h z hz).2; omega⟩⟩, ⟨qs, rfl, .inr (SqT.of (s510 _ _ hqs5))⟩, fun H11 s11 => ?_⟩
        have ine := in_set_eq (gs := gs) (i := i) (cls := cls) b01 (by rw [bl]; exact ok.gok) fun cl h z hz => ⟨(clok cl h z hz).1, by have := (clok cl h z hz).2; omega⟩
        rw [bl, show (vb ++ st).drop i = st by rw [← vbl, List.drop_left]] at ine
        refine ⟨rfl, _, rfl, ?_⟩
        rw [ine]
        refine goF (by simp) ?_
        have s511 := s510.trans s11
        have s811 := (s9.trans s10).trans s11
        have F11 := F5.same s511
        have htb11 := s811 _ _ htb
        have hnd11 := s811 _ _ hnd8
        have hD11 := s511 _ _ hD5
        have a11 := a5.imp fun _ _ h => h.firm (Firm.of s511)
        have B11 : But nv H4 H11 := B5'.trans (But.of_same s511)
        have N11 : NV H11 nv (tasksM cls nx wi) := by
          obtain ⟨ns', e1, e2, e3⟩ := N5
          exact ⟨ns', s511 _ _ e1, e2, e3⟩
        clear F5 F7 F8 F10 hqs5 hqb5 hD5 a5 B5' N5 ho5 hG5 h6 s6 s7 s57 s58 s8 htt htb hnd hnd8 hgv agv s9 eq9 s10 s510 s11 s511 s811 ine nq9 ndn
        refine ⟨_, rfl, R, rfl, ⟨_, F11.row⟩, fun D5 nD5 => ?_⟩
        refine lc_tup (K := K) (a := R) (xs := us) (fun j H' => Same H11 H' ∧ H' D5 = some (.lst (((cls.take j).map fun cl => due (vb ++ st) gs (cl.map (led nx))).map V.bl))) ⟨same_new nD5, upd_same⟩ (fun j H' _ ⟨s, _⟩ => seqT_same s F11.row) ?_ ?_
        · rintro j y H12 hj ⟨s12, h12⟩
          obtain ⟨cl, hcl1, qc, rfl, hqc⟩ := F11.rows.get hj
          have mcl := List.mem_of_getElem? hcl1
          have hjl := (List.getElem?_eq_some_iff.mp hcl1).1
          have ed := due_cl (gs := gs) b01 n0 (clok cl mcl)
          refine ⟨rfl, yes_of ?_⟩
          refine ⟨_, rfl, _, rfl, .ref tb, qc, _, cl, rfl, ⟨tb, rfl, .inr (SqT.of (s12 _ _ htb11))⟩, SqT.of (s12 _ _ hqc), fun z hz => by rw [List.length_map]; exact clok cl mcl z hz, by have := clen cl mcl; omega, fun H13 s13 => ?_⟩
          refine ⟨_, rfl, _, s13 _ _ h12, ?_, fun b u e => ?_, ?_⟩
          · rw [List.length_map, List.length_map]
            exact Nat.lt_of_le_of_lt (List.length_take_le _ _) (Nat.lt_of_lt_of_le (by omega : j < 10) (by decide))
          · rw [upd_ne (ne_of_none e nD5)]
            exact s13 _ _ (s12 _ _ e)
          · rw [upd_same, take_more hcl1, List.map_append, List.map_append, ed]
            rfl
        rintro H12 ⟨s12, h12⟩
        rw [F11.rows.len, List.take_length] at h12
        refine ⟨_, rfl, rfl, len1, fun L nL => ⟨D5, L, _, _, rfl, rfl, same_new nL _ _ h12, upd_same, ?_, fun D6 nD6 => ?_⟩⟩
        · rw [List.length_map, List.length_map]
          exact Nat.le_trans (by show cls.length + 1 ≤ 10; omega) (by decide)
        have hd6 : upd (upd H12 L (.lst [V.bl (decide (V.int (lit (vals (vb ++ st) gs) wi) = V.int 0))])) D6 (.lst (((cls.map fun cl => due (vb ++ st) gs (cl.map (led nx))).map V.bl) ++ [V.bl (decide (V.int (lit (vals (vb ++ st) gs) wi) = V.int 0))])) D6 = some (.lst (((tasksM cls nx wi).map (due (vb ++ st) gs)).map V.bl)) := by
          have e : cls.map (fun cl => due (vb ++ st) gs (cl.map (led nx))) = (cls.map fun cl => cl.map (led nx)).map (due (vb ++ st) gs) := by
            rw [List.map_map]
            rfl
          rw [upd_same, due_wish b01, e]
          unfold tasksM
          rw [List.map_append, List.map_append]
          rfl
        have s13 := s12.trans ((same_new nL).trans (same_new (u := .lst (((cls.map fun cl => due (vb ++ st) gs (cl.map (led nx))).map V.bl) ++ [V.bl (decide (V.int (lit (vals (vb ++ st) gs) wi) = V.int 0))])) nD6))
        have D6nv : D6 ≠ nv := fun e => by
          obtain ⟨_, e1, _⟩ := N11
          have z := same_new (u := .lst [V.bl (decide (V.int (lit (vals (vb ++ st) gs) wi) = V.int 0))]) nL _ _ (s12 _ _ e1)
          rw [← e, nD6] at z
          cases z
        generalize upd (upd H12 L _) D6 _ = H13 at hd6 s13 ⊢
        clear s12 h12 nL nD5 nD6
        have hD13 := s13 _ _ hD11
        refine ⟨_, rfl, _, rfl, len1, fun L2 nL2 => ⟨D, L2, _, _, rfl, rfl, same_new nL2 _ _ hD13, upd_same, ?_, fun D7 nD7 => ?_⟩⟩
        · show tv.length + 1 ≤ sizeLine
          rw [a11.len, List.length_map]
          exact Nat.le_trans (by omega : cls.length + 1 ≤ 10) (by decide)
        have z7 := (same_new (u := .lst [wv]) nL2).trans (same_new (u := .lst (tv ++ [wv])) nD7)
        have s14 := s13.trans z7
        have hd7 := upd_same (H := upd H13 L2 (.lst [wv])) (a := D7) (o := .lst (tv ++ [wv]))
        have hd6' := z7 _ _ hd6
        obtain ⟨xs11, hn11⟩ := nvl N11
        have hn14 := s14 _ _ hn11
        have D7nv : D7 ≠ nv := (ne_of_none (same_new nL2 _ _ (s13 _ _ hn11)) nD7).symm
        have aT := (fk_told a11 F11.wv).imp fun _ _ h => h.firm (Firm.of s14)
        have hD14 := s14 _ _ hD11
        have hnd14 := s14 _ _ hnd11
        have N14 : NV (upd (upd H13 L2 (.lst [wv])) D7 (.lst (tv ++ [wv]))) nv (tasksM cls nx wi) := by
          obtain ⟨ns', e1, e2, e3⟩ := N11
          exact ⟨ns', s14 _ _ e1, e2, e3⟩
        have B14 := B11.trans (But.of_same s14)
        generalize upd (upd H13 L2 _) D7 _ = H14 at hd7 hd6' hn14 aT hD14 hnd14 N14 B14 ⊢
        clear F11 htb11 hnd11 hD11 a11 B11 N11 hd6 s13 hD13 nL2 nD7 z7 s14 hn11
        refine ⟨D7, _, rfl, SqL.of hd7, for_it walk_enum
          (fun k σ H' => ∃ (x17 x18 : Option V), σ = [some (.ref a), some (.ref p), some (.ref o), some (.ref mch), some (.int ((rs.map V.int).length : Nat)), some (.ref R), some (.ref gv), some wv, none, some (.ref D), some (.ref nv), some (.ref qs), some (.ref qb), some (.ref nd), some (.ref tb), some (.int (lit (vals (vb ++ st) gs) wi)), some (.ref D6), x17, x18] ∧ But nv H14 H' ∧ NV H' nv (tasksM cls nx wi))
          ⟨_, _, rfl, But.refl, N14⟩ (fun k σ H' _ ⟨_, _, _, b, _⟩ => SqL.of (b _ _ hd7 D7nv)) ?_ ?_⟩
        · rintro k3 y σ H15 H16 hk3 ⟨x17, x18, rfl, B15, N15⟩ ⟨T1, yi, yv, rfl, nT, rfl, e1, e2⟩
          obtain rfl := Option.some.inj e1
          obtain ⟨ls, hls, tk⟩ := aT.get e2
          have sT := same_new (u := .tup [.int (k3 : Nat), yv]) nT
          have f15 := (Firm.but B15 hn14 rfl).trans (Firm.of sT)
          have tk16 := tk.firm f15
          have hd6'' := sT _ _ (B15 _ _ hd6' D6nv)
          have hnd16 := sT _ _ (B15 _ _ hnd14 ndnv)
          have B16 : But nv H14 (upd H15 T1 (.tup [.int (k3 : Nat), yv])) := B15.trans (But.of_same sT)
          have N16 : NV (upd H15 T1 (.tup [.int (k3 : Nat), yv])) nv (tasksM cls nx wi) := by
            obtain ⟨ns', e1, e2, e3⟩ := N15
            exact ⟨ns', sT _ _ e1, e2, e3⟩
          have kt : k3 < (tasksM cls nx wi).length := (List.getElem?_eq_some_iff.mp hls).1
          have dat : (((tasksM cls nx wi).map (due (vb ++ st) gs)).map V.bl)[k3]? = some (V.bl (due (vb ++ st) gs ls)) := by
            rw [List.getElem?_map, List.getElem?_map, hls]
            rfl
          have hup := upd_same (H := H15) (a := T1) (o := .tup [.int (k3 : Nat), yv])
          generalize upd H15 T1 _ = H16 at tk16 hd6'' hnd16 B16 N16 hup ⊢
          refine ⟨T1, _, rfl, SqT.of hup, rfl, _, _, rfl, _, _, rfl, rfl, ?_⟩
          clear B15 N15 sT f15 tk nT hup
          have ls0 := ts0 ls (List.mem_of_getElem? hls)
          refine ⟨fun σ H' => σ = [some (.ref a), some (.ref p), some (.ref o), some (.ref mch), some (.int ((rs.map V.int).length : Nat)), some (.ref R), some (.ref gv), some wv, none, some (.ref D), some (.ref nv), some (.ref qs), some (.ref qb), some (.ref nd), some (.ref tb), some (.int (lit (vals (vb ++ st) gs) wi)), some (.ref D6), some (.int (k3 : Nat)), some yv] ∧ But nv H14 H' ∧ NV H' nv (tasksM cls nx wi), ?_, ?_⟩
          · refine ⟨_, rfl, _, rfl, D6, _, _, _, rfl, rfl, SqL.of hd6'', at_of rfl dat, _, rfl, ?_⟩
            refine ite2 (fun hdue => ?_) (fun _ => ⟨rfl, B16, N16⟩)
            obtain ⟨ns', e1, e2, e3⟩ := N16
            refine ⟨_, rfl, _, rfl, nv, _, _, k3, rfl, rfl, e1, ixN_at (by omega) (by rw [List.length_map, e2]; omega), rfl, fun b u e ne => ?_, ns'.set k3 false, by rw [upd_same, List.map_set], by rw [List.length_set, e2], fun j2 ls2 h2 hb2 => ?_⟩
            · rw [upd_ne ne]
              exact B16 _ _ e ne
            · by_cases ej : k3 = j2
              · rw [← ej, hls] at h2
                rw [← Option.some.inj h2] at hb2
                rw [due_bad b01 ls0 hb2] at hdue
                cases hdue
              · rw [List.getElem?_set_ne ej]
                exact e3 j2 ls2 h2 hb2
          rintro σ H17 ⟨rfl, B17, N17⟩
          clear B16 N16 hd6'' hnd16 tk16
          have hd17 := B17 _ _ hd6' D6nv
          have hnd17 := B17 _ _ hnd14 ndnv
          have tk17 := (aT.get e2).elim fun ls2 h => (show Tk H14 yv ls from by rw [Option.some.inj (hls.symm.trans h.1)]; exact h.2).firm (Firm.but B17 hn14 rfl)
          rcases tk17 with ⟨rfl, hb⟩ | ⟨tt, c2, rfl, hb, hc2, htt⟩
          · exact ⟨_, rfl, rfl, _, rfl, iteF ⟨_, _, rfl, B17, N17⟩⟩
          · obtain ⟨g1, g2⟩ := good_is (M := 2 * (i + r + gs.length) + 1) (fun l hl => ⟨ls0 l hl, ts1 ls (List.mem_of_getElem? hls) l hl⟩) hb hc2
            refine ⟨_, rfl, rfl, _, rfl, iteT ⟨_, rfl, _, rfl, nd, tt, 0, whole (vb ++ st) gs, c2.map fun z => -z, rfl, SqL.of hnd17, SqT.of htt, by rw [List.length_map]; omega, by omega, fun z hz => ?_, fun H18 s18 => ?_⟩⟩
            · obtain ⟨y, hy, rfl⟩ := List.mem_map.mp hz
              obtain ⟨y0, y1⟩ := g1 y hy
              rw [Int.natAbs_neg]
              exact ⟨by omega, by omega⟩
            · rw [due_all b01 ls0 hb hc2]
              refine ⟨_, rfl, _, rfl, D6, _, _, _, rfl, rfl, SqL.of (s18 _ _ hd17), at_of rfl dat, rfl, _, rfl, goF (by simp) ⟨_, _, rfl, B17.trans (But.of_same s18), ?_⟩⟩
              obtain ⟨ns', e1, e2, e3⟩ := N17
              exact ⟨ns', s18 _ _ e1, e2, e3⟩
        · rintro σ H15 ⟨x17, x18, rfl, B15, N15⟩
          exact ⟨_, _, _, _, _, _, _, rfl, B14.trans B15, N15⟩
      · rintro σ H5 ⟨x12, x13, x14, x15, x16, x17, x18, rfl, B5, N5⟩
        exact ⟨_, _, _, _, _, _, _, _, rfl, B3.trans ((But.of_same s4).trans B5), N5⟩
    · rintro σ H3 ⟨x11, x12, x13, x14, x15, x16, x17, x18, rfl, B3, N3⟩
      have hD3 := B3 _ _ hD2 Dnv
      have F3 := F2.but B3 hn2
      have a3 := a2.imp fun _ _ h => h.firm (Firm.but B3 hn2 rfl)
      clear F2 hD2 a2 B3
      refine ⟨_, rfl, _, rfl, len1, fun L2 nL2 => ⟨D, L2, _, _, rfl, rfl, same_new nL2 _ _ hD3, upd_same, ?_, fun D7 nD7 => ?_⟩⟩
      · show tv.length + 1 ≤ sizeLine
        rw [a3.len, List.length_map]
        exact Nat.le_trans (by omega : cls.length + 1 ≤ 10) (by decide)
      have s4 := (same_new (u := .lst [wv]) nL2).trans (same_new (u := .lst (tv ++ [wv])) nD7)
      have hd7 := upd_same (H := upd H3 L2 (.lst [wv])) (a := D7) (o := .lst (tv ++ [wv]))
      have aT := (fk_told a3 F3.wv).imp fun _ _ h => h.firm (Firm.of s4)
      have N4 : NV (upd (upd H3 L2 (.lst [wv])) D7 (.lst (tv ++ [wv]))) nv (tasksM cls nx wi) := by
        obtain ⟨ns', e1, e2, e3⟩ := N3
        exact ⟨ns', s4 _ _ e1, e2, e3⟩
      generalize upd (upd H3 L2 _) D7 _ = H4 at hd7 aT N4 ⊢
      clear F3 hD3 a3 N3 s4 nL2 nD7
      refine ⟨D7, _, rfl, SqL.of hd7, fun E9 nE9 => ?_⟩
      refine lc_it walk_enum (fun k H' => Same H4 H' ∧ H' E9 = some (.lst [])) ⟨same_new nE9, upd_same⟩ (fun k H' _ ⟨s, _⟩ => SqL.of (s _ _ hd7)) ?_ ?_
      · rintro k y H5 H6 hk ⟨s5, h5⟩ ⟨T1, yi, yv, rfl, nT, rfl, e1, e2⟩
        obtain rfl := Option.some.inj e1
        obtain ⟨ls, hls, tk⟩ := aT.get e2
        have sT := same_new (u := .tup [.int (k : Nat), yv]) nT
        have s6 := s5.trans sT
        refine ⟨T1, _, rfl, SqT.of upd_same, rfl, _, _, rfl, _, _, rfl, rfl, rfl, ?_⟩
        rcases tk with ⟨rfl, hb⟩ | ⟨tt, c2, rfl, hb, hc2, htt⟩
        · obtain ⟨ns', n1, n2, n3⟩ := N4
          refine ⟨_, rfl, rfl, _, rfl, iteT ⟨_, rfl, _, rfl, nv, _, _, _, rfl, rfl, SqL.of (s6 _ _ n1), at_of rfl (show (ns'.map V.bl)[k]? = some (V.bl true) by rw [List.getElem?_map, n3 k ls hls hb]; rfl), _, rfl, iteF ⟨s6, sT _ _ h5⟩⟩⟩
        · exact ⟨_, rfl, rfl, _, rfl, iteF (iteF ⟨s6, sT _ _ h5⟩)⟩
      · rintro H5 ⟨s5, h5⟩
        refine ⟨len0, fun l0 n0 => ⟨.list [], .list [], .lst (SqL.of (same_new n0 _ _ h5)) .nil, .lst (SqL.of upd_same) .nil, by decide +kernel, by decide +kernel, q _⟩⟩
end
end Jl
namespace E44
open PySem PySem.Spec PyProof.Rows L2 Pen Dat Ki Fi Gr No Lf Cm Cp Cq Lc Mc Dm Wm Ju Jv Jw Jx Jy Jl Gd He
def ds_is_between : DefD := ⟨("is_between", none), "is_between", "is_between", defArgs sBetween, defBody sBetween, defScope sBetween, [], []⟩
def ds_is_from : DefD := ⟨("is_from", none), "is_from", "is_from", defArgs sFrom, defBody sFrom, defScope sFrom, [], []⟩
def ds_is_row : DefD := ⟨("is_row", none), "is_row", "is_row", defArgs sRow, defBody sRow, defScope sRow, [], []⟩
def ds_is_row_between : DefD := ⟨("is_row_between", none), "is_row_between", "is_row_between", defArgs sRowB, defBody sRowB, defScope sRowB, [], []⟩
def ds_need_leaves : DefD := ⟨("need_leaves", none), "need_leaves", "need_leaves", defArgs sNeed, defBody sNeed, defScope sNeed, [], []⟩
def ds_are_gates : DefD := ⟨("are_gates", none), "are_gates", "are_gates", defArgs sGates, defBody sGates, defScope sGates, [], []⟩
def ds_clause_of : DefD := ⟨("clause_of", none), "clause_of", "clause_of", defArgs sCl, defBody sCl, defScope sCl, [], []⟩
def ds_clauses_of : DefD := ⟨("clauses_of", none), "clauses_of", "clauses_of", defArgs sCls, defBody sCls, defScope sCls, [], []⟩
def ds_now : DefD := ⟨("now", none), "now", "now", defArgs sNow, defBody sNow, defScope sNow, [], []⟩
def ds_behind : DefD := ⟨("behind", none), "behind", "behind", defArgs sBehind, defBody sBehind, defScope sBehind, [], []⟩
def ds_given_of : DefD := ⟨("given_of", none), "given_of", "given_of", defArgs sGivenOf, defBody sGivenOf, defScope sGivenOf, [], []⟩
def ds_opposites_of : DefD := ⟨("opposites_of", none), "opposites_of", "opposites_of", defArgs sOppositesOf, defBody sOppositesOf, defScope sOppositesOf, [], []⟩
def ds_against : DefD := ⟨("against", none), "against", "against", defArgs sAgainst, defBody sAgainst, defScope sAgainst, [], []⟩
def ds_against_wish : DefD := ⟨("against_wish", none), "against_wish", "against_wish", defArgs sAgainstWish, defBody sAgainstWish, defScope sAgainstWish, [], []⟩
def ds__law_pen : DefD := ⟨("_law_pen", none), "_law_pen", "_law_pen", defArgs sPen, defBody sPen, defScope sPen, [], []⟩
def ds__law_draw : DefD := ⟨("_law_draw", none), "_law_draw", "_law_draw", defArgs sDraw, defBody sDraw, defScope sDraw, [], []⟩
def ds__law_pick : DefD := ⟨("_law_pick", none), "_law_pick", "_law_pick", defArgs sPick, defBody sPick, defScope sPick, [], []⟩
def ds__law_drawn_gates : DefD := ⟨("_law_drawn_gates", none), "_law_drawn_gates", "_law_drawn_gates", defArgs sDrawn, defBody sDrawn, defScope sDrawn, [], []⟩
def ds__law_values : DefD := ⟨("_law_values", none), "_law_values", "_law_values", defArgs sValues, defBody sValues, defScope sValues, [], []⟩
def ds__law_bit : DefD := ⟨("_law_bit", none), "_law_bit", "_law_bit", defArgs sBit, defBody sBit, defScope sBit, [], []⟩
def ds__law_xor_gates : DefD := ⟨("_law_xor_gates", none), "_law_xor_gates", "_law_xor_gates", defArgs sXor, defBody sXor, defScope sXor, [], []⟩
def ds__law_flip : DefD := ⟨("_law_flip", none), "_law_flip", "_law_flip", defArgs sFlip, defBody sFlip, defScope sFlip, [], []⟩
def ds__law_drawn_machine : DefD := ⟨("_law_drawn_machine", none), "_law_drawn_machine", "_law_drawn_machine", defArgs sMach, defBody sMach, defScope sMach, [], []⟩
def ds__law_made_machine : DefD := ⟨("_law_made_machine", none), "_law_made_machine", "_law_made_machine", defArgs sMade, defBody sMade, defScope sMade, [], []⟩
def ds__law_tick : DefD := ⟨("_law_tick", none), "_law_tick", "_law_tick", defArgs sTick, defBody sTick, defScope sTick, [], []⟩
def ds__law_longer : DefD := ⟨("_law_longer", none), "_law_longer", "_law_longer", defArgs sLonger, defBody sLonger, defScope sLonger, [], []⟩
def ds__law_rows : DefD := ⟨("_law_rows", none), "_law_rows", "_law_rows", defArgs sRows, defBody sRows, defScope sRows, [], []⟩
def ds__law_drawn_clause : DefD := ⟨("_law_drawn_clause", none), "_law_drawn_clause", "_law_drawn_clause", defArgs sLDrawnClause, defBody sLDrawnClause, defScope sLDrawnClause, [], []⟩
def ds__law_sorted : DefD := ⟨("_law_sorted", none), "_law_sorted", "_law_sorted", defArgs sLSorted, defBody sLSorted, defScope sLSorted, [], []⟩
def ds__law_fits : DefD := ⟨("_law_fits", none), "_law_fits", "_law_fits", defArgs sLFits, defBody sLFits, defScope sLFits, [], []⟩
def ds__law_gate_clause : DefD := ⟨("_law_gate_clause", none), "_law_gate_clause", "_law_gate_clause", defArgs sLGateClause, defBody sLGateClause, defScope sLGateClause, [], []⟩
def ds__law_graph_clauses : DefD := ⟨("_law_graph_clauses", none), "_law_graph_clauses", "_law_graph_clauses", defArgs sLGraphClauses, defBody sLGraphClauses, defScope sLGraphClauses, [], []⟩
def ds__law_given : DefD := ⟨("_law_given", none), "_law_given", "_law_given", defArgs sLGiven, defBody sLGiven, defScope sLGiven, [], []⟩
def ds__law_against : DefD := ⟨("_law_against", none), "_law_against", "_law_against", defArgs sLAgainst, defBody sLAgainst, defScope sLAgainst, [], []⟩
def ds__law_against_row : DefD := ⟨("_law_against_row", none), "_law_against_row", "_law_against_row", defArgs sLAgainstRow, defBody sLAgainstRow, defScope sLAgainstRow, [], []⟩
def ds__law_tasks : DefD := ⟨("_law_tasks", none), "_law_tasks", "_law_tasks", defArgs sLTasks, defBody sLTasks, defScope sLTasks, [], []⟩
def ds__law_in_set : DefD := ⟨("_law_in_set", none), "_law_in_set", "_law_in_set", defArgs sLInSet, defBody sLInSet, defScope sLInSet, [], []⟩
def ds__law_small_machine : DefD := ⟨("_law_small_machine", none), "_law_small_machine", "_law_small_machine", defArgs sLSmallMachine, defBody sLSmallMachine, defScope sLSmallMachine, [], []⟩
def ds__law_state_row : DefD := ⟨("_law_state_row", none), "_law_state_row", "_law_state_row", defArgs sLStateRow, defBody sLStateRow, defScope sLStateRow, [], []⟩
def ds__law_spiced : DefD := ⟨("_law_spiced", none), "_law_spiced", "_law_spiced", defArgs sLSpiced, defBody sLSpiced, defScope sLSpiced, [], []⟩
def ds__law_all_true : DefD := ⟨("_law_all_true", none), "_law_all_true", "_law_all_true", defArgs sLAllTrue, defBody sLAllTrue, defScope sLAllTrue, [], []⟩
def ds_law : DefD := ⟨("law", none), "law", "law", defArgs sLaw, defBody sLaw, defScope sLaw, [], []⟩
def di_Graph___init__ : DefD := ⟨("Graph", some "__init__"), "__init__", "Graph.__init__", defArgs sInit, defBody sInit, defScope sInit, [], []⟩
def di_Machine___init__ : DefD := ⟨("Machine", some "__init__"), "__init__", "Machine.__init__", defArgs sMInit, defBody sMInit, defScope sMInit, [], []⟩
def fn : List DefD := [ds_is_between, ds_is_from, ds_is_row, ds_is_row_between, ds_need_leaves, ds_are_gates, ds_clause_of, ds_clauses_of, ds_now, ds_behind, ds_given_of, ds_opposites_of, ds_against, ds_against_wish, ds__law_pen, ds__law_draw, ds__law_pick, ds__law_drawn_gates, ds__law_values, ds__law_bit, ds__law_xor_gates, ds__law_flip, ds__law_drawn_machine, ds__law_made_machine, ds__law_tick, ds__law_longer, ds__law_rows, ds__law_drawn_clause, ds__law_sorted, ds__law_fits, ds__law_gate_clause, ds__law_graph_clauses, ds__law_given, ds__law_against, ds__law_against_row, ds__law_tasks, ds__law_in_set, ds__law_small_machine, ds__law_state_row, ds__law_spiced, ds__law_all_true, ds_law, di_Graph___init__, di_Machine___init__]
def fa : List Fa := [.glo "is_between", .glo "is_from", .glo "is_row", .glo "is_row_between", .glo "need_leaves", .glo "are_gates", .glo "clause_of", .glo "clauses_of", .glo "now", .glo "behind", .glo "given_of", .glo "opposites_of", .glo "against", .glo "against_wish", .glo "_law_pen", .glo "_law_draw", .glo "_law_pick", .glo "_law_drawn_gates", .glo "_law_values", .glo "_law_bit", .glo "_law_xor_gates", .glo "_law_flip", .glo "_law_drawn_machine", .glo "_law_made_machine", .glo "_law_tick", .glo "_law_longer", .glo "_law_rows", .glo "_law_drawn_clause", .glo "_law_sorted", .glo "_law_fits", .glo "_law_gate_clause", .glo "_law_graph_clauses", .glo "_law_given", .glo "_law_against", .glo "_law_against_row", .glo "_law_tasks", .glo "_law_in_set", .glo "_law_small_machine", .glo "_law_state_row", .glo "_law_spiced", .glo "_law_all_true", .glo "law", .glo "Graph", .glo "Machine", .free "isinstance", .free "int", .free "bool", .free "tuple", .free "list", .free "len", .free "all", .free "abs", .free "range", .free "sorted", .free "set", .free "dict", .free "enumerate", .cls "Graph", .mkr "Graph", .noat "Graph" "leaves", .noat "Graph" "gates", .cls "Machine", .mkr "Machine", .noat "Machine" "graph", .noat "Machine" "inputs", .noat "Machine" "resets", .noat "Machine" "nexts", .noat "Machine" "wish"]
abbrev cGraph (K : PySem.W.Frag) : Addr := ga K "Graph"
abbrev cMachine (K : PySem.W.Frag) : Addr := ga K "Machine"
def exB (K : PySem.W.Frag) : Bool := (decide (PySem.W.findIn K (.ref (cGraph K)) "__class__" = some (some (.builtin "object.__class__"))) && (decide (PySem.W.specialIn K (.builtin "object.__class__") "__get__" = some (some (.builtin "getset_descriptor.__get__"))) && (decide (PySem.W.takesIn K (.builtin "object.__class__") = some true) && (decide (PySem.W.mroIn K (cGraph K) (.type "object") = some true) && (decide (PySem.W.kitOne K (.ref (cGraph K)) (.ref (cGraph K)) = some true) && (decide (PySem.W.kitOne K (.type "tuple") (.ref (cGraph K)) = some false) && true))))))
abbrev R : PySem.W.OpenRow := PySem.W.OpenLaw.row PySem.Challenge.rw_everycycle_k44_whole_what_the_judge_make
abbrev hk : PySem.W.Hook := hookX 6 fa fn [] [] exB
def ob (s : PySem.W.SharedT) : AlX := obsX 6 fa fn [] [] exB (HandSHeadRun.getT s)
theorem ob_eq (s : PySem.W.SharedT) : ob s = hk.obs s.abs := obsX_eq (HandSHeadRun.getT_eq s)
theorem run (w : World) : HandSHeadRun.RunEq R (PySem.W.view R.prog [52]) hk ob 4000 [("CycleError" : PySem.Str), ("BadNumber" : PySem.Str), ("BadRow" : PySem.Str), ("is_between" : PySem.Str), ("is_from" : PySem.Str), ("is_row" : PySem.Str), ("is_row_between" : PySem.Str), ("Graph" : PySem.Str), ("need_leaves" : PySem.Str), ("are_gates" : PySem.Str), ("Machine" : PySem.Str), ("clause_of" : PySem.Str), ("clauses_of" : PySem.Str), ("now" : PySem.Str), ("behind" : PySem.Str), ("given_of" : PySem.Str), ("opposites_of" : PySem.Str), ("against" : PySem.Str), ("against_wish" : PySem.Str), ("_law_pen" : PySem.Str), ("_law_draw" : PySem.Str), ("_law_pick" : PySem.Str), ("_law_drawn_gates" : PySem.Str), ("_law_values" : PySem.Str), ("_law_bit" : PySem.Str), ("_law_xor_gates" : PySem.Str), ("_law_flip" : PySem.Str), ("_law_drawn_machine" : PySem.Str), ("_law_made_machine" : PySem.Str), ("_law_tick" : PySem.Str), ("_law_longer" : PySem.Str), ("_law_rows" : PySem.Str), ("_law_drawn_clause" : PySem.Str), ("_law_sorted" : PySem.Str), ("_law_fits" : PySem.Str), ("_law_gate_clause" : PySem.Str), ("_law_graph_clauses" : PySem.Str), ("_law_given" : PySem.Str), ("_law_against" : PySem.Str), ("_law_against_row" : PySem.Str), ("_law_tasks" : PySem.Str), ("_law_in_set" : PySem.Str), ("_law_small_machine" : PySem.Str), ("_law_state_row" : PySem.Str), ("_law_spiced" : PySem.Str), ("_law_all_true" : PySem.Str)] w := by
  intro os
  kernel_rfl
theorem and2 {a b : Bool} (h : (a && b) = true) : a = true ∧ b = true := Bool.and_eq_true_iff.mp h
theorem facts {P : Program} {w : World} {K : PySem.W.Frag} {h : Heap} {mg : Str → Option Value} {f : Addr} (X : K.In h) (G : h.Ns mainGlobals mg) (hfa : mg ("law" : Str) = some (.ref f)) (c : SaysX fa fn [] [] exB w h K) :
    ∃ fd : FuncData, (∀ (s : Shared) (v : Value), BindsTo s fd ⟨[v], []⟩ [("_law_script", v)]) ∧ ∀ base : Heap, K.In base → base.Ns mainGlobals mg → FnG P w K mg base CX0 7 f fd ["_law_script"] (Jl.spLaw K) := by
  have cd := c.t.d
  obtain ⟨fd0, F0⟩ := cd.def_ 0 (d := ds_is_between) rfl
  obtain ⟨fd1, F1⟩ := cd.def_ 1 (d := ds_is_from) rfl
  obtain ⟨fd2, F2⟩ := cd.def_ 2 (d := ds_is_row) rfl
  obtain ⟨fd3, F3⟩ := cd.def_ 3 (d := ds_is_row_between) rfl
  obtain ⟨fd4, F4⟩ := cd.def_ 4 (d := ds_need_leaves) rfl
  obtain ⟨fd5, F5⟩ := cd.def_ 5 (d := ds_are_gates) rfl
  obtain ⟨fd6, F6⟩ := cd.def_ 6 (d := ds_clause_of) rfl
  obtain ⟨fd7, F7⟩ := cd.def_ 7 (d := ds_clauses_of) rfl
  obtain ⟨fd8, F8⟩ := cd.def_ 8 (d := ds_now) rfl
  obtain ⟨fd9, F9⟩ := cd.def_ 9 (d := ds_behind) rfl
  obtain ⟨fd10, F10⟩ := cd.def_ 10 (d := ds_given_of) rfl
  obtain ⟨fd11, F11⟩ := cd.def_ 11 (d := ds_opposites_of) rfl
  obtain ⟨fd12, F12⟩ := cd.def_ 12 (d := ds_against) rfl
  obtain ⟨fd13, F13⟩ := cd.def_ 13 (d := ds_against_wish) rfl
  obtain ⟨fd14, F14⟩ := cd.def_ 14 (d := ds__law_pen) rfl
  obtain ⟨fd15, F15⟩ := cd.def_ 15 (d := ds__law_draw) rfl
  obtain ⟨fd16, F16⟩ := cd.def_ 16 (d := ds__law_pick) rfl
  obtain ⟨fd17, F17⟩ := cd.def_ 17 (d := ds__law_drawn_gates) rfl
  obtain ⟨fd18, F18⟩ := cd.def_ 18 (d := ds__law_values) rfl
  obtain ⟨fd19, F19⟩ := cd.def_ 19 (d := ds__law_bit) rfl
  obtain ⟨fd20, F20⟩ := cd.def_ 20 (d := ds__law_xor_gates) rfl
  obtain ⟨fd21, F21⟩ := cd.def_ 21 (d := ds__law_flip) rfl
  obtain ⟨fd22, F22⟩ := cd.def_ 22 (d := ds__law_drawn_machine) rfl
  obtain ⟨fd23, F23⟩ := cd.def_ 23 (d := ds__law_made_machine) rfl
  obtain ⟨fd24, F24⟩ := cd.def_ 24 (d := ds__law_tick) rfl
  obtain ⟨fd25, F25⟩ := cd.def_ 25 (d := ds__law_longer) rfl
  obtain ⟨fd26, F26⟩ := cd.def_ 26 (d := ds__law_rows) rfl
  obtain ⟨fd27, F27⟩ := cd.def_ 27 (d := ds__law_drawn_clause) rfl
  obtain ⟨fd28, F28⟩ := cd.def_ 28 (d := ds__law_sorted) rfl
  obtain ⟨fd29, F29⟩ := cd.def_ 29 (d := ds__law_fits) rfl
  obtain ⟨fd30, F30⟩ := cd.def_ 30 (d := ds__law_gate_clause) rfl
  obtain ⟨fd31, F31⟩ := cd.def_ 31 (d := ds__law_graph_clauses) rfl
  obtain ⟨fd32, F32⟩ := cd.def_ 32 (d := ds__law_given) rfl
  obtain ⟨fd33, F33⟩ := cd.def_ 33 (d := ds__law_against) rfl
  obtain ⟨fd34, F34⟩ := cd.def_ 34 (d := ds__law_against_row) rfl
  obtain ⟨fd35, F35⟩ := cd.def_ 35 (d := ds__law_tasks) rfl
  obtain ⟨fd36, F36⟩ := cd.def_ 36 (d := ds__law_in_set) rfl
  obtain ⟨fd37, F37⟩ := cd.def_ 37 (d := ds__law_small_machine) rfl
  obtain ⟨fd38, F38⟩ := cd.def_ 38 (d := ds__law_state_row) rfl
  obtain ⟨fd39, F39⟩ := cd.def_ 39 (d := ds__law_spiced) rfl
  obtain ⟨fd40, F40⟩ := cd.def_ 40 (d := ds__law_all_true) rfl
  obtain ⟨fd41, F41⟩ := cd.def_ 41 (d := ds_law) rfl
  obtain ⟨fd42, F42⟩ := cd.def_ 42 (d := di_Graph___init__) rfl
  obtain ⟨fd43, F43⟩ := cd.def_ 43 (d := di_Machine___init__) rfl
  have glo : ∀ i x, fa[i]? = some (Fa.glo x) → mg x = some (.ref (ga K x)) := fun i x e => glo_ok X G (cd.fact i e)
  have fre : ∀ i x, fa[i]? = some (Fa.free x) → mg x = none := fun i x e => free_ok X G (cd.fact i e)
  have e := hfa.symm.trans (glo 41 "law" rfl)
  cases e
  have b0 : Binds K fd0 ["value", "least", "most"] [] := F0.bindsN fun _ _ _ _ _ _ us hl => match us, hl with | [_, _, _], _ => rfl
  have b1 : Binds K fd1 ["value", "least"] [] := F1.bindsN fun _ _ _ _ _ _ us hl => match us, hl with | [_, _], _ => rfl
  have b2 : Binds K fd2 ["value"] [] := F2.bindsN fun _ _ _ _ _ _ us hl => match us, hl with | [_], _ => rfl
  have b3 : Binds K fd3 ["value", "many", "least", "most"] [] := F3.bindsN fun _ _ _ _ _ _ us hl => match us, hl with | [_, _, _, _], _ => rfl
  have b4 : Binds K fd4 ["leaves"] [] := F4.bindsN fun _ _ _ _ _ _ us hl => match us, hl with | [_], _ => rfl
  have b5 : Binds K fd5 ["leaves", "value"] [] := F5.bindsN fun _ _ _ _ _ _ us hl => match us, hl with | [_, _], _ => rfl
  have b6 : Binds K fd6 ["literals"] [] := F6.bindsN fun _ _ _ _ _ _ us hl => match us, hl with | [_], _ => rfl
  have b7 : Binds K fd7 ["graph"] [] := F7.bindsN fun _ _ _ _ _ _ us hl => match us, hl with | [_], _ => rfl
  have b8 : Binds K fd8 ["machine", "clause"] [] := F8.bindsN fun _ _ _ _ _ _ us hl => match us, hl with | [_, _], _ => rfl
  have b9 : Binds K fd9 ["machine", "clause"] [] := F9.bindsN fun _ _ _ _ _ _ us hl => match us, hl with | [_, _], _ => rfl
  have b10 : Binds K fd10 ["machine", "clauses"] [] := F10.bindsN fun _ _ _ _ _ _ us hl => match us, hl with | [_, _], _ => rfl
  have b11 : Binds K fd11 ["clause"] [] := F11.bindsN fun _ _ _ _ _ _ us hl => match us, hl with | [_], _ => rfl
  have b12 : Binds K fd12 ["machine", "clause"] [] := F12.bindsN fun _ _ _ _ _ _ us hl => match us, hl with | [_, _], _ => rfl
  have b13 : Binds K fd13 ["machine"] [] := F13.bindsN fun _ _ _ _ _ _ us hl => match us, hl with | [_], _ => rfl
  have b14 : Binds K fd14 ["_law_script"] [] := F14.bindsN fun _ _ _ _ _ _ us hl => match us, hl with | [_], _ => rfl
  have b15 : Binds K fd15 ["_law_pen_here", "_law_many"] [] := F15.bindsN fun _ _ _ _ _ _ us hl => match us, hl with | [_, _], _ => rfl
  have b16 : Binds K fd16 ["_law_pen_here", "_law_some"] [] := F16.bindsN fun _ _ _ _ _ _ us hl => match us, hl with | [_, _], _ => rfl
  have b17 : Binds K fd17 ["_law_pen_here", "_law_leaves", "_law_many"] [] := F17.bindsN fun _ _ _ _ _ _ us hl => match us, hl with | [_, _, _], _ => rfl
  have b18 : Binds K fd18 ["_law_leaves", "_law_gates", "_law_bits"] [] := F18.bindsN fun _ _ _ _ _ _ us hl => match us, hl with | [_, _, _], _ => rfl
  have b19 : Binds K fd19 ["_law_found", "_law_literal"] [] := F19.bindsN fun _ _ _ _ _ _ us hl => match us, hl with | [_, _], _ => rfl
  have b20 : Binds K fd20 ["_law_gates", "_law_leaves", "_law_one", "_law_two"] [] := F20.bindsN fun _ _ _ _ _ _ us hl => match us, hl with | [_, _, _, _], _ => rfl
  have b21 : Binds K fd21 ["_law_literal"] [] := F21.bindsN fun _ _ _ _ _ _ us hl => match us, hl with | [_], _ => rfl
  have b22 : Binds K fd22 ["_law_pen_here", "_law_inputs", "_law_registers", "_law_many"] [] := F22.bindsN fun _ _ _ _ _ _ us hl => match us, hl with | [_, _, _, _], _ => rfl
  have b23 : Binds K fd23 ["_law_machine"] [] := F23.bindsN fun _ _ _ _ _ _ us hl => match us, hl with | [_], _ => rfl
  have b24 : Binds K fd24 ["_law_machine", "_law_state", "_law_bits"] [] := F24.bindsN fun _ _ _ _ _ _ us hl => match us, hl with | [_, _, _], _ => rfl
  have b25 : Binds K fd25 ["_law_rows_here", "_law_many"] [] := F25.bindsN fun _ _ _ _ _ _ us hl => match us, hl with | [_, _], _ => rfl
  have b26 : Binds K fd26 ["_law_many"] [] := F26.bindsN fun _ _ _ _ _ _ us hl => match us, hl with | [_], _ => rfl
  have b27 : Binds K fd27 ["_law_pen_here", "_law_many", "_law_most"] [] := F27.bindsN fun _ _ _ _ _ _ us hl => match us, hl with | [_, _, _], _ => rfl
  have b28 : Binds K fd28 ["_law_numbers"] [] := F28.bindsN fun _ _ _ _ _ _ us hl => match us, hl with | [_], _ => rfl
  have b29 : Binds K fd29 ["_law_assignment", "_law_clause"] [] := F29.bindsN fun _ _ _ _ _ _ us hl => match us, hl with | [_, _], _ => rfl
  have b30 : Binds K fd30 ["_law_literals"] [] := F30.bindsN fun _ _ _ _ _ _ us hl => match us, hl with | [_], _ => rfl
  have b31 : Binds K fd31 ["_law_machine"] [] := F31.bindsN fun _ _ _ _ _ _ us hl => match us, hl with | [_], _ => rfl
  have b32 : Binds K fd32 ["_law_machine", "_law_clauses"] [] := F32.bindsN fun _ _ _ _ _ _ us hl => match us, hl with | [_, _], _ => rfl
  have b33 : Binds K fd33 ["_law_machine", "_law_clause"] [] := F33.bindsN fun _ _ _ _ _ _ us hl => match us, hl with | [_, _], _ => rfl
  have b34 : Binds K fd34 ["_law_literals"] [] := F34.bindsN fun _ _ _ _ _ _ us hl => match us, hl with | [_], _ => rfl
  have b35 : Binds K fd35 ["_law_machine", "_law_clauses"] [] := F35.bindsN fun _ _ _ _ _ _ us hl => match us, hl with | [_, _], _ => rfl
  have b36 : Binds K fd36 ["_law_clauses", "_law_state"] [] := F36.bindsN fun _ _ _ _ _ _ us hl => match us, hl with | [_, _], _ => rfl
  have b37 : Binds K fd37 ["_law_pen_here"] [] := F37.bindsN fun _ _ _ _ _ _ us hl => match us, hl with | [_], _ => rfl
  have b38 : Binds K fd38 ["_law_pen_here", "_law_many"] [] := F38.bindsN fun _ _ _ _ _ _ us hl => match us, hl with | [_, _], _ => rfl
  have b39 : Binds K fd39 ["_law_pen_here", "_law_machine"] [] := F39.bindsN fun _ _ _ _ _ _ us hl => match us, hl with | [_, _], _ => rfl
  have b40 : Binds K fd40 ["_law_nodes", "_law_literals"] [] := F40.bindsN fun _ _ _ _ _ _ us hl => match us, hl with | [_, _], _ => rfl
  have b42 : Binds K fd42 ["self", "leaves", "gates"] [] := F42.bindsN fun _ _ _ _ _ _ us hl => match us, hl with | [_, _, _], _ => rfl
  have b43 : Binds K fd43 ["self", "graph", "inputs", "resets", "nexts", "wish"] [] := F43.bindsN fun _ _ _ _ _ _ us hl => match us, hl with | [_, _, _, _, _, _], _ => rfl
  have b := FunD.bindsA (ps := ["_law_script"]) F41 fun _ _ _ _ _ _ us hl => match us, hl with | [_], _ => rfl
  have g0 := glo 0 "is_between" rfl
  have g1 := glo 1 "is_from" rfl
  have g2 := glo 2 "is_row" rfl
  have g3 := glo 3 "is_row_between" rfl
  have g4 := glo 4 "need_leaves" rfl
  have g5 := glo 5 "are_gates" rfl
  have g6 := glo 6 "clause_of" rfl
  have g7 := glo 7 "clauses_of" rfl
  have g8 := glo 8 "now" rfl
  have g9 := glo 9 "behind" rfl
  have g10 := glo 10 "given_of" rfl
  have g11 := glo 11 "opposites_of" rfl
  have g12 := glo 12 "against" rfl
  have g13 := glo 13 "against_wish" rfl
  have g14 := glo 14 "_law_pen" rfl
  have g15 := glo 15 "_law_draw" rfl
  have g16 := glo 16 "_law_pick" rfl
  have g17 := glo 17 "_law_drawn_gates" rfl
  have g18 := glo 18 "_law_values" rfl
  have g19 := glo 19 "_law_bit" rfl
  have g20 := glo 20 "_law_xor_gates" rfl
  have g21 := glo 21 "_law_flip" rfl
  have g22 := glo 22 "_law_drawn_machine" rfl
  have g23 := glo 23 "_law_made_machine" rfl
  have g24 := glo 24 "_law_tick" rfl
  have g25 := glo 25 "_law_longer" rfl
  have g26 := glo 26 "_law_rows" rfl
  have g27 := glo 27 "_law_drawn_clause" rfl
  have g28 := glo 28 "_law_sorted" rfl
  have g29 := glo 29 "_law_fits" rfl
  have g30 := glo 30 "_law_gate_clause" rfl
  have g31 := glo 31 "_law_graph_clauses" rfl
  have g32 := glo 32 "_law_given" rfl
  have g33 := glo 33 "_law_against" rfl
  have g34 := glo 34 "_law_against_row" rfl
  have g35 := glo 35 "_law_tasks" rfl
  have g36 := glo 36 "_law_in_set" rfl
  have g37 := glo 37 "_law_small_machine" rfl
  have g38 := glo 38 "_law_state_row" rfl
  have g39 := glo 39 "_law_spiced" rfl
  have g40 := glo 40 "_law_all_true" rfl
  have g41 := glo 41 "law" rfl
  have gGraph := glo 42 "Graph" rfl
  have gMachine := glo 43 "Machine" rfl
  have z_isinstance := fre 44 "isinstance" rfl
  have z_int := fre 45 "int" rfl
  have z_bool := fre 46 "bool" rfl
  have z_tuple := fre 47 "tuple" rfl
  have z_list := fre 48 "list" rfl
  have z_len := fre 49 "len" rfl
  have z_all := fre 50 "all" rfl
  have z_abs := fre 51 "abs" rfl
  have z_range := fre 52 "range" rfl
  have z_sorted := fre 53 "sorted" rfl
  have z_set := fre 54 "set" rfl
  have z_dict := fre 55 "dict" rfl
  have z_enumerate := fre 56 "enumerate" rfl
  have clGraph := cls_ok (cd.fact 57 (f := .cls "Graph") rfl)
  have mkGraph := mkr_ok (cd.fact 58 (f := .mkr "Graph") rfl)
  have nGraph_leaves := noat_ok (cd.fact 59 (f := .noat "Graph" "leaves") rfl)
  have nGraph_gates := noat_ok (cd.fact 60 (f := .noat "Graph" "gates") rfl)
  have clMachine := cls_ok (cd.fact 61 (f := .cls "Machine") rfl)
  have mkMachine := mkr_ok (cd.fact 62 (f := .mkr "Machine") rfl)
  have nMachine_graph := noat_ok (cd.fact 63 (f := .noat "Machine" "graph") rfl)
  have nMachine_inputs := noat_ok (cd.fact 64 (f := .noat "Machine" "inputs") rfl)
  have nMachine_resets := noat_ok (cd.fact 65 (f := .noat "Machine" "resets") rfl)
  have nMachine_nexts := noat_ok (cd.fact 66 (f := .noat "Machine" "nexts") rfl)
  have nMachine_wish := noat_ok (cd.fact 67 (f := .noat "Machine" "wish") rfl)
  have r0 := c.more
  obtain ⟨q0, r1⟩ := and2 r0
  have e1 := of_decide_eq_true q0
  obtain ⟨q1, r2⟩ := and2 r1
  have e2 := of_decide_eq_true q1
  obtain ⟨q2, r3⟩ := and2 r2
  have e3 := of_decide_eq_true q2
  obtain ⟨q3, r4⟩ := and2 r3
  have e4 := of_decide_eq_true q3
  obtain ⟨q4, r5⟩ := and2 r4
  have e5 := of_decide_eq_true q4
  obtain ⟨q5, r6⟩ := and2 r5
  have e6 := of_decide_eq_true q5
  have ki : Ki.Tx mg := ⟨z_isinstance, z_int, z_bool, z_tuple, z_list, z_len, z_all⟩
  have pt : Pen.Txt mg := ⟨z_len, z_int, z_list⟩
  have lf : Lf.Tx mg := ⟨pt, z_abs, z_range, z_tuple⟩
  have tg : Gr.Tx K mg (cGraph K) := ⟨ki, clGraph, nGraph_leaves, nGraph_gates, gGraph, e1, e2, e3, fun e => .ins e clGraph e1 e2 e3 e4, e5, e6⟩
  have cp : Cp.Tx mg := ⟨z_abs, z_tuple, z_list, z_sorted⟩
  have lc : Lc.Tx mg := ⟨lf, cp, z_dict, z_enumerate⟩
  have mc : Mc.Tx K mg (cGraph K) (cMachine K) := ⟨tg, clMachine, nMachine_graph, nMachine_inputs, nMachine_resets, nMachine_nexts, nMachine_wish, gMachine, z_abs⟩
  have T : Jv.Tx mg := ⟨z_range, z_sorted, z_set, z_dict, z_enumerate, z_tuple, z_list, z_int, z_abs, z_len⟩
  refine ⟨fd41, fun s v => b s [v] rfl, fun base _ _ => ?_⟩
  have G0 : FnOk P w K mg base CX0 _ _ _ _ _ := ok_between F0 ki
  have G1 : FnOk P w K mg base CX0 _ _ _ _ _ := ok_from F1 ki
  have G2 : FnOk P w K mg base CX0 _ _ _ _ _ := ok_row F2 ki
  have G3 : FnOk P w K mg base CX0 _ _ _ _ _ := ok_rowB F3 ki F0 g0 F2 g2
  have G4 : FnOk P w K mg base CX0 _ _ _ _ _ := ok_need F4 ki F1 g1
  have G5 : FnOk P w K mg base CX0 _ _ _ _ _ := ok_gates F5 ki F2 g2 F3 g3 F0 g0
  have G42 : FnOk P w K mg base CX0 _ _ _ _ _ := ok_init F42 tg G4 g4 F4.kp b4 G5 g5 F5.kp b5
  have G43 : FnOk P w K mg base CX0 _ _ _ _ _ := ok_minit F43 mc G0 g0 F0.kp b0 G3 g3 F3.kp b3
  have G6 : FnOk P w K mg base CX0 _ _ _ _ _ := ok_cl F6 cp
  have G7 : FnOk P w K mg base CX0 _ _ _ _ _ := ok_cls F7 tg F6 g6 cp
  have G8 : FnOk P w K mg base CX0 _ _ _ _ _ := ok_now F8 mc
  have G9 : FnOk P w K mg base CX0 _ _ _ _ _ := ok_behind F9 mc F6 g6 cp
  have G11 : FnOk P w K mg base CX0 _ _ _ _ _ := ok_oppo F11 mc
  have G12 : FnOk P w K mg base CX0 _ _ _ _ _ := ok_against F12 mc G11 g11 F11.kp b11 G9 g9 F9.kp b9
  have G13 : FnOk P w K mg base CX0 _ _ _ _ _ := ok_awish F13 mc G11 g11 F11.kp b11 G6 g6 F6.kp b6
  have G10 : FnOk P w K mg base CX0 _ _ _ _ _ := Ju.ok_given F10 mc G7 g7 F7.kp b7 G8 g8 F8.kp b8
  have G14 : FnOk P w K mg base CX0 _ _ _ _ _ := ok_pen F14 pt
  have G15 : FnOk P w K mg base CX0 _ _ _ _ _ := ok_draw F15 pt
  have G16 : FnOk P w K mg base CX0 _ _ _ _ _ := ok_pick F16 pt F15 g15
  have G22 : FnOk P w K mg base CX0 _ _ _ _ _ := ok_mach F22 lc F21 g21 F15 g15 F17 g17 F20 g20
  have G23 : FnOk P w K mg base CX0 _ _ _ _ _ := ok_made F23 mc mkGraph G42 b42 mkMachine G43 b43
  have G18 : FnOk P w K mg base CX0 _ _ _ _ _ := ok_values F18 lf F19 g19
  have G26 : FnOk P w K mg base CX0 _ _ _ _ _ := ok_rows F26 lf F25 g25
  have G21 : FnOk P w K mg base CX0 _ _ _ _ _ := ok_flip F21 lc
  have G24 : FnOk P w K mg base CX0 _ _ _ _ _ := ok_tick F24 lc F18 g18 F19 g19
  have G27 : FnOk P w K mg base CX0 _ _ _ _ _ := ok_dc F27 T G15 g15 F15.kp b15 G16 g16 F16.kp b16
  have G28 : FnOk P w K mg base CX0 _ _ _ _ _ := ok_sorted F28 T
  have G29 : FnOk P w K mg base CX0 _ _ _ _ _ := ok_fits F29 T
  have G30 : FnOk P w K mg base CX0 _ _ _ _ _ := ok_gate F30 T G21 g21 F21.kp b21 G28 g28 F28.kp b28
  have G31 : FnOk P w K mg base CX0 _ _ _ _ _ := ok_graphs F31 T G21 g21 F21.kp b21 G30 g30 F30.kp b30
  have G34 : FnOk P w K mg base CX0 _ _ _ _ _ := ok_larow F34 T G30 g30 F30.kp b30
  have G33 : FnOk P w K mg base CX0 _ _ _ _ _ := ok_lagainst F33 T G21 g21 F21.kp b21 G34 g34 F34.kp b34
  have G32 : FnOk P w K mg base CX0 _ _ _ _ _ := ok_lgiven F32 T G31 g31 F31.kp b31
  have G35 : FnOk P w K mg base CX0 _ _ _ _ _ := ok_tasks F35 T G33 g33 F33.kp b33 G34 g34 F34.kp b34
  have G36 : FnOk P w K mg base CX0 _ _ _ _ _ := ok_inset F36 T G29 g29 F29.kp b29
  have G40 : FnOk P w K mg base CX0 _ _ _ _ _ := ok_atrue F40 T G29 g29 F29.kp b29
  have G37 : FnOk P w K mg base CX0 _ _ _ _ _ := ok_small F37 T G15 g15 F15.kp b15 G22 g22 F22.kp b22
  have G38 : FnOk P w K mg base CX0 _ _ _ _ _ := ok_srow F38 T G15 g15 F15.kp b15 G16 g16 F16.kp b16 G27 g27 F27.kp b27
  have G39 : FnOk P w K mg base CX0 _ _ _ _ _ := ok_spiced F39 T G15 g15 F15.kp b15 G16 g16 F16.kp b16 G21 g21 F21.kp b21
  exact ok_law F41 T G14 g14 F14.kp b14 G39 g39 F39.kp b39 G37 g37 F37.kp b37 G23 g23 F23.kp b23 G38 g38 F38.kp b38 G10 g10 F10.kp b10 G13 g13 F13.kp b13 G12 g12 F12.kp b12 G32 g32 F32.kp b32 G35 g35 F35.kp b35 G26 g26 F26.kp b26 G18 g18 F18.kp b18 G24 g24 F24.kp b24 G36 g36 F36.kp b36 G29 g29 F29.kp b29 G40 g40 F40.kp b40
end E44
open PySem PySem.W PySem.Calls PyProof.Rows
theorem PySem.Challenge.cw_everycycle_k44_whole_what_the_judge_make_holds : PySem.Challenge.rw_everycycle_k44_whole_what_the_judge_make.Holds := by
  w_on; o_law
  refine HandSHeadRun.head_any (r := OpenLaw.row PySem.Challenge.rw_everycycle_k44_whole_what_the_judge_make) (q := view (OpenLaw.row PySem.Challenge.rw_everycycle_k44_whole_what_the_judge_make).prog [52]) (H := E44.hk) (ob := E44.ob) (M := 4000) (loose := [("CycleError" : PySem.Str), ("BadNumber" : PySem.Str), ("BadRow" : PySem.Str), ("is_between" : PySem.Str), ("is_from" : PySem.Str), ("is_row" : PySem.Str), ("is_row_between" : PySem.Str), ("Graph" : PySem.Str), ("need_leaves" : PySem.Str), ("are_gates" : PySem.Str), ("Machine" : PySem.Str), ("clause_of" : PySem.Str), ("clauses_of" : PySem.Str), ("now" : PySem.Str), ("behind" : PySem.Str), ("given_of" : PySem.Str), ("opposites_of" : PySem.Str), ("against" : PySem.Str), ("against_wish" : PySem.Str), ("_law_pen" : PySem.Str), ("_law_draw" : PySem.Str), ("_law_pick" : PySem.Str), ("_law_drawn_gates" : PySem.Str), ("_law_values" : PySem.Str), ("_law_bit" : PySem.Str), ("_law_xor_gates" : PySem.Str), ("_law_flip" : PySem.Str), ("_law_drawn_machine" : PySem.Str), ("_law_made_machine" : PySem.Str), ("_law_tick" : PySem.Str), ("_law_longer" : PySem.Str), ("_law_rows" : PySem.Str), ("_law_drawn_clause" : PySem.Str), ("_law_sorted" : PySem.Str), ("_law_fits" : PySem.Str), ("_law_gate_clause" : PySem.Str), ("_law_graph_clauses" : PySem.Str), ("_law_given" : PySem.Str), ("_law_against" : PySem.Str), ("_law_against_row" : PySem.Str), ("_law_tasks" : PySem.Str), ("_law_in_set" : PySem.Str), ("_law_small_machine" : PySem.Str), ("_law_state_row" : PySem.Str), ("_law_spiced" : PySem.Str), ("_law_all_true" : PySem.Str)]) (d := HandSHeadRun.topDef (OpenLaw.row PySem.Challenge.rw_everycycle_k44_whole_what_the_judge_make).prog 52) (kwd := []) E44.ob_eq
    (by kernel_rfl) (fun s => by kernel_rfl) E44.run (by kernel_rfl) (by kernel_rfl) (by kernel_rfl) (by rfl) (by first | assumption | decide +kernel) (by decide +kernel) ⟨rfl, rfl, rfl, rfl, rfl, by decide +kernel⟩ ?hw ?hc
  case hw => w_witness2
  case hc =>
    refine Gd.walk_go (l := PySem.Challenge.rw_everycycle_k44_whole_what_the_judge_make) (n := 63) (k := 7) (x := "_law_script") (CX := L2.CX0) rfl (by decide) (by kernel_rfl) ⟨rfl, by decide, by decide⟩ ?F (fun _ _ _ _ z => z)
    intro w mg fa h Y G hmg0
    obtain ⟨K, KX, c⟩ := Y
    have hmg : mg ("law" : PySem.Str) = some (.ref fa) := by
      have e : (HandSHeadRun.topDef (OpenLaw.row PySem.Challenge.rw_everycycle_k44_whole_what_the_judge_make).prog 52).name = ("law" : PySem.Str) := by kernel_rfl
      rw [← e]
      exact hmg0
    obtain ⟨fd, hb, hF⟩ := E44.facts (P := (PySem.Challenge.rw_everycycle_k44_whole_what_the_judge_make).prog) (w := w) KX G hmg c
    exact ⟨K, fd, Jl.spLaw K, KX, hb, fun H a ns hl _ hS => ⟨a, ns, rfl, hS, hl, fun _ => rfl⟩, hF⟩
