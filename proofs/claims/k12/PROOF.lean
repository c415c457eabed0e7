import PyProof.Rows.All
import Wide.All
import OpenK.AllK
import Wide.FinOn
import Lean
import HandS.ForMost
import HandS.Codes
import HandS.Defaults
import HandS.Wide
import HandS.DeepEq
import HandS.Exc
import HandS.ExcInit
import HandS.ExcValue
import HandS.IsInst
import HandS.TupAny
import HandS.OwnEq
import HandS.Star
import HandS.SortInts
import HandS.Conv
import HandS.Style
import HandS.Head0
import HandS.Head1
import HandS.Head2
import HandS.HeadEnd
import HandS.HeadHook1
import HandS.HeadHook2
import HandS.HeadHook3
import HandS.HeadHook4
import HandS.ExcIs
import HandS.ExcField
import KE.KExcIs
import KE.GoesEnum
import HandS.NoneIn
import PySem.Challenge.RW_everycycle_k12_whole_sums_comparisons_pr
import HandS.Deep
import KE.GoesMore
import KE.GoesZip
import KE.GoesEnum
import PyProof.Rows.All
import Wide.All
import OpenK.AllK
import Wide.FinOn
import PyProof.SumWalkG
import HandS.Base
import HandS.Call
import HandS.List
import HandS.TupAny
import KE.BitLaws
import KE.KEqSeq
import HandS.Walk
import HandS.EndTab
set_option Elab.async false
set_option linter.all false
set_option maxRecDepth 100000
set_option maxHeartbeats 4000000
namespace Gd
open PySem PySem.Spec PyProof.Rows L2
/-! ## What a def does where no repr is under way: the promise of FnOk, for such callers alone -/
structure FnG (P : Program) (w : World) (K : PySem.W.Frag) (mg : Str → Option Value) (base : Heap) (CX : CXT) (k : Nat) (f : Addr) (fd : FuncData) (ps : List Str) (sp : Sp) : Prop where
  many : ∀ vs H Q E, sp vs H Q E → vs.length = ps.length
  go : ∀ (A : Around) (fs : List Env) (s : Shared) (H : Hp) (ag : Args) (us : List Value) (vs : List V) (Q : VK) (E : XK), A.guards = some [] → Room k A → Env0 P w K mg base A fs s H →
    BindsTo s fd ag (ps.zip us) → Vals vs us → sp vs H Q E → codeAny (model P w) A (.call (.ref f) ag) (CR CX fs P w H s Q E) s
section
variable {P : Program} {w : World} {K : PySem.W.Frag} {mg : Str → Option Value} {base : Heap} {CX : CXT} {k : Nat} {f : Addr} {fd : FuncData} {ps : List Str} {sp : Sp}
theorem FnG.of (F : FnOk P w K mg base CX k f fd ps sp) : FnG P w K mg base CX k f fd ps sp := ⟨F.len, fun A fs s H ag us vs Q E _ => F.run A fs s H ag us vs Q E⟩
/-- from the def's body -/
theorem FnG.mk_of {x qual : Str} {params : Arguments} {body : List Stmt} {scope : Scope} {dvs : List V} {kws : List (Str × V)} {N : List Str}
    (F : FunD K x qual params body scope dvs kws f fd) (S : FnScope N ps scope) (many : ∀ vs H Q E, sp vs H Q E → vs.length = ps.length)
    (walk : ∀ (cv : Value) (A : Around) (fs : List Env) (s : Shared) (H : Hp) (vs : List V) (Q : VK) (E : XK), A.guards = some [] → Room k (A.deeper (envOfC qual scope s.heap.objs.size f cv)) → sp vs H Q E →
      ∃ t, PSs (cxOf CX P w K mg base N qual scope f cv A fs s H E) body t ∧ t { nx := fun _ H' => Q .non H', rt := Q } (start N vs) H) :
    FnG P w K mg base CX (k + 1) f fd ps sp := by
  obtain ⟨_, _, _, _, _, _, _, cv, _, _, rfl, look, code, _, _⟩ := F.ex
  refine ⟨many, fun A fs s H ag us vs Q E hg room e bind rel prom => ?_⟩
  have kin : K.In s.heap := e.mod.kin.keeps fun b u z => (e.bs b u z).1
  have kinds : ∀ y ∈ ps.zip us, scope.names.lookup y.1 = some .local ∨ (scope.names.lookup y.1 = some .cell ∧ ((cellsFrom (s.heap.objs.size + 1) scope.names []).lookup y.1).isSome = true) := by
    rintro ⟨y, u⟩ hy
    rcases S.par y (List.of_mem_zip hy).1 with q | q
    · exact Or.inl q
    · exact Or.inr ⟨q, PySem.W.cellsFrom_some _ _ _ (Or.inl q)⟩
  refine codeAny_call_function room.depth (kin _ _ look) rfl S.co S.gen rfl (PySem.W.codeRec_of kin code) (bind _ _ _ _ ?_)
  refine wpAny_newFunctionEnv_cells S.kind kinds ?_
  rintro env rfl s1 hs1
  refine ⟨(e.mod.nolimit.keeps fun b u z => (e.bs b u z).1).keeps hs1.toInCall.keep, codeAny_func ?_⟩
  obtain ⟨t, ht, q⟩ := walk cv A fs s H vs Q E hg (room.deeper _) prom
  have I := inv_start (CX := CX) (E := E) S room.hd e (many _ _ _ _ prom) rel hs1
  refine wpAny_mono (ht.run [] s1 (start N vs) H _ I q) (fun fl s2 z => ?_) (fun _ _ z => z)
  match fl, z with
  | .ret u, ⟨v, σ', H', J, rv, q⟩ => exact ⟨v, H', J.os, J.bare, J.base, J.hok, rv, q⟩
  | .next, ⟨σ', H', J, q⟩ => exact ⟨V.non, H', J.os, J.bare, J.base, J.hok, rfl, q⟩
  | .brk, ⟨_, _, _, q⟩ => exact q.elim
  | .cont, ⟨_, _, _, q⟩ => exact q.elim
end
/-- the script's object -/
abbrev scr (vs : List Value) : Obj := { cls := .type "list", data := .seq vs.toArray }
/-- the heap in which the script alone is tracked, if the top did not write it -/
def onlyScr (K : PySem.W.Frag) (a : Addr) (vs : List Value) (ns : List Int) : Hp := fun b => if b = a ∧ (K.lookup a).isNone = true then some (.frz (scr vs) (.lst (ns.map V.int))) else none
theorem onlyScr_get {K : PySem.W.Frag} {a b : Addr} {vs : List Value} {ns : List Int} {o : HO} (h : onlyScr K a vs ns b = some o) : b = a ∧ K.lookup a = none ∧ o = .frz (scr vs) (.lst (ns.map V.int)) := by
  unfold onlyScr at h
  split at h
  · rename_i c
    exact ⟨c.1, Option.isNone_iff_eq_none.mp c.2, (Option.some.inj h).symm⟩
  · cases h
/-- the law is called with its script -/
theorem law_go {P : Program} {w : World} {K : PySem.W.Frag} {mg mb : Str → Option Value} {CX : CXT} {k : Nat} {f a : Addr} {fd : FuncData} {x : Str} {sp : Sp} {s : Shared} {vs : List Value} {ns : List Int}
    (kin : K.In s.heap) (hm : s.heap.Ns mainGlobals mg) (hb : s.heap.Ns builtinsNs mb) (hbb : ∀ y : Str, y ≠ "__name__" → mb y = bootBuiltins y) (lim : s.heap.NoLimit) (hgen : s.gens = #[])
    (ha : s.heap.get? a = some (scr vs)) (hi : IntsAre vs ns) (hl : ns.length ≤ sizeLine) (hr : Room k callerA)
    (F : ∀ base : Heap, K.In base → base.Ns mainGlobals mg → FnG P w K mg base CX k f fd [x] sp) (bind : ∀ (s : Shared) (u : Value), BindsTo s fd ⟨[u], []⟩ [(x, u)])
    (prom : ∀ H : Hp, Only H → SqL K H a (ns.map V.int) → sp [.ref a] H (fun v _ => v = .bl true) fun _ _ _ => False)
    (none_out : ∀ H e s', CX [] H s (fun _ _ _ => False) e s' → False) :
    codeAny (model P w) callerA (.call (.ref f) ⟨[.ref a], []⟩) (fun r s' => r = .ok (.ret (.bool true)) ∧ OldK s.heap s'.heap ∧ s'.os = s.os ∧ AllBare s'.gens) s := by
  have hv := vals_ints hi
  have hlen := hi.length
  let H := onlyScr K a vs ns
  have gone : ∀ {b : Addr} {o : Obj}, K.lookup b = some o → H b = none := fun {b o} q => by
    cases e : H b with
    | none => rfl
    | some u =>
      obtain ⟨rfl, n, _⟩ := onlyScr_get e
      rw [n] at q
      cases q
  have ns_free : ∀ {b : Addr} {o : Obj} {es : Array DictEntry} {ep : Nat}, s.heap.get? b = some o → o.data = .dict es ep → H b = none := fun {b o es ep} q d => by
    cases e : H b with
    | none => rfl
    | some u =>
      obtain ⟨rfl, _, _⟩ := onlyScr_get e
      rw [ha] at q
      cases q
      cases d
  have stays : ∀ {b : Addr} {m : Str → Option Value}, s.heap.Ns b m → (hidT s.heap H).Ns b m := fun ⟨o, es, ep, q, d, r⟩ => ⟨o, es, ep, hidT_get q (ns_free q d), d, r⟩
  have kinT : K.In (hidT s.heap H) := fun b o q => hidT_get (kin b o q) (gone q)
  have hok : HOk P w H s.heap := fun b u q => by
    obtain ⟨rfl, _, rfl⟩ := onlyScr_get q
    exact ⟨ha, by rw [List.length_map]; exact hl, vs, _, hv, ha⟩
  have hO : Only H := fun b => by
    cases e : H b with
    | none => exact Or.inl rfl
    | some u =>
      obtain ⟨_, _, rfl⟩ := onlyScr_get e
      exact Or.inr ⟨_, _, rfl⟩
  have hS : SqL K H a (ns.map V.int) := by
    cases e : K.lookup a with
    | none => exact .inl (.inr ⟨scr vs, if_pos ⟨rfl, by rw [e]; rfl⟩⟩)
    | some o =>
      have q := kin a o e
      rw [ha] at q
      cases q
      exact .inr ⟨_, vs.toArray, _, e, rfl, rfl, rfl, by rw [List.size_toArray, hlen]; exact hl, by simpa using hv⟩
  obtain ⟨mc, l1, l2⟩ := lim
  have e0 : Env0 P w K mg (hidT s.heap H) callerA [] s H := by
    refine ⟨rfl, ⟨kinT, stays hm, ⟨mb, stays hb, hbb⟩, ⟨mc, stays l1, l2⟩⟩, fun b o q => of_hidT q, Nat.le_of_eq (hidT_size _ _), trivial, fun b q => ?_, hok, .of_eq hgen⟩
    cases q
  refine codeAny_mono ((F _ kinT (stays hm)).go callerA [] s H ⟨[.ref a], []⟩ [.ref a] [.ref a] _ _ rfl hr e0 (bind s (.ref a)) (.cons rfl .nil) (prom H hO hS)) fun r s' h => ?_
  match r, h with
  | .error e, h => exact (none_out H e s' h).elim
  | .ok .next, h => exact h.elim
  | .ok .brk, h => exact h.elim
  | .ok .cont, h => exact h.elim
  | .ok (.ret u), ⟨v, H', os, bare, un, hok', rv, q⟩ =>
    have q' : v = .bl true := q
    subst q'
    have hu : u = Value.bool true := rv
    subst hu
    refine ⟨rfl, OldK.of_keep fun b o z => ?_, os, bare⟩
    cases e : H b with
    | none => exact un.keep b o z e (by intro y; cases y) (by simp)
    | some t =>
      obtain ⟨rfl, _, rfl⟩ := onlyScr_get e
      rw [ha] at z
      cases z
      exact (hok' b _ (un.frzs b _ _ e)).1
/-- the end of a law -/
theorem walk_go {l : PySem.W.OpenLaw} {n k : Nat} {q : Program} {loose : List Str} {XP : (Str → Option Value) → Heap → Prop} {YP : World → Heap → Prop} {d : DefRec} {CX : CXT} {x : Str}
    (hn : l.most = some n) (hn2 : n ≤ sizeLine) (hdf : d.params.defaults = []) (hr : Room k callerA)
    (F : ∀ (w : World) (mg : Str → Option Value) (f : Addr) (h : Heap), YP w h → h.Ns mainGlobals mg → mg d.name = some (.ref f) → ∃ (K : PySem.W.Frag) (fd : FuncData) (sp : Sp), K.In h ∧ (∀ (s : Shared) (u : Value), BindsTo s fd ⟨[u], []⟩ [(x, u)]) ∧
      (∀ (H : Hp) (a : Addr) (ns : List Int), ns.length ≤ n → Only H → SqL K H a (ns.map V.int) → sp [.ref a] H (fun v _ => v = .bl true) fun _ _ _ => False) ∧ ∀ base : Heap, K.In base → base.Ns mainGlobals mg → FnG l.prog w K mg base CX k f fd [x] sp)
    (none_out : ∀ (H : Hp) (s : Shared) (e : Value) (s' : Shared), CX [] H s (fun _ _ _ => False) e s' → False) : PySem.W.WalkO q loose XP YP l.row.toRowW d [] (fun f vs => PySem.call f vs) :=
  Att.attach_call hn hdf fun w _ s _ _ f _ _ _ _ a _ ns G Y _ _ _ hmg hobj hints hlen hgen =>
    let ⟨_, _, _, kin, bind, prom, ok⟩ := F w _ f _ Y G.T.g hmg
    law_go kin G.T.g G.T.b G.T.builtins G.T.nolimit hgen hobj hints (Nat.le_trans hlen hn2) hr ok bind (fun H hO hS => prom H a ns hlen hO hS) fun H e s' => none_out H s e s'
/-! ## repr of data -/
section
variable {X : Cx}
/-- repr(x), x data of any depth but dicts -/
def rRepr (K : PySem.W.Frag) : List V → Hp → VK → Prop := fun xs H Q => ∃ (a : Addr) (d : PyData), xs = [.ref a] ∧ Dp K H (.ref a) d ∧ d.showable = true ∧ d.hasDict = false ∧ d.depth ≤ 60 ∧ d.shown.length ≤ sizeLine ∧ Q (.str d.shown) H
theorem call_repr {k : Nat} (hg : X.A.guards = some []) (hr : Room k X.A) : CallR X (.builtin "repr") (rRepr X.K) := by
  intro pins s σ H xs us Q I r h
  obtain ⟨a, d, rfl, hd, h1, h2, h3, h4, q⟩ := h
  obtain ⟨u, rfl, ru⟩ := vals1 r
  obtain ⟨as, rd⟩ := Dp.reads I d _ u hd ru
  have hu : u = Value.ref a := ru
  subst hu
  have room := hr.un
  refine repr_of_reads' rd h1 (fun z => by rw [h2] at z; cases z) hg (by omega) (fun _ _ e => e) (fun h' t tk hk => ?_) h4
  exact ⟨.str d.shown, H, I.kept hk, ⟨t, rfl⟩, q⟩
end
end Gd
namespace Gv
open PySem PySem.Spec PyProof.Rows L2
/-- repr(x), x any data but dicts -/
def rReprV (K : PySem.W.Frag) : List V → Hp → VK → Prop := fun xs H Q => ∃ (v : V) (d : PyData), xs = [v] ∧ Dp K H v d ∧ d.showable = true ∧ d.hasDict = false ∧ d.depth ≤ 60 ∧ d.shown.length ≤ sizeLine ∧ Q (.str d.shown) H
theorem call_reprV {X : Cx} {k : Nat} (hg : X.A.guards = some []) (hr : Room k X.A) : CallR X (.builtin "repr") (rReprV X.K) := by
  intro pins s σ H xs us Q I r h
  obtain ⟨v, d, rfl, hd, h1, h2, h3, h4, q⟩ := h
  cases hd with
  | lst a b => exact Gd.call_repr hg hr pins s σ H _ us Q I r ⟨_, _, rfl, .lst a b, h1, h2, h3, h4, q⟩
  | tup a b => exact Gd.call_repr hg hr pins s σ H _ us Q I r ⟨_, _, rfl, .tup a b, h1, h2, h3, h4, q⟩
  | non =>
    obtain ⟨u, rfl, ru⟩ := vals1 r
    have hu : u = Value.none := ru
    subst hu
    exact PySem.P.repr_of_none ⟨.str "None", H, I.tok _, ⟨_, rfl⟩, q⟩
  | bl b =>
    obtain ⟨u, rfl, ru⟩ := vals1 r
    have hu : u = Value.bool b := ru
    subst hu
    exact PySem.P.repr_of_bool ⟨.str _, H, I.tok _, ⟨_, rfl⟩, q⟩
  | int i =>
    obtain ⟨u, rfl, t, rfl⟩ := vals1 r
    exact PySem.P.repr_of_int (of_decide_eq_true h1) ⟨.str _, H, I.tok _, ⟨_, rfl⟩, q⟩
  | str x =>
    obtain ⟨u, rfl, t, rfl⟩ := vals1 r
    exact PySem.P.repr_of_str ⟨.str _, H, I.tok _, ⟨_, rfl⟩, q⟩ h4
end Gv
namespace Dat
open PySem PySem.Spec PyProof.Rows L2
/-! ## Data of any depth: its kind, and that it stays -/
def isIntD : PyData → Bool
  | .int _ => true
  | .bool _ => true
  | _ => false
def isBoolD : PyData → Bool
  | .bool _ => true
  | _ => false
def isRowD : PyData → Bool
  | .list _ => true
  | .tuple _ => true
  | _ => false
def clsD : PyData → String
  | .none => "NoneType"
  | .bool _ => "bool"
  | .int _ => "int"
  | .str _ => "str"
  | .list _ => "list"
  | .tuple _ => "tuple"
  | .dict _ => "dict"
section
variable {K : PySem.W.Frag} {H H' : Hp} {v : V} {d : PyData}
theorem ty_list {a : Addr} {xs : List V} (h : SqL K H a xs) : TyX K H (.ref a) (.type "list") := by
  rcases h with (h | ⟨o, h⟩) | ⟨o, its, n, h1, h2, _⟩
  · exact .base (.lst h)
  · exact .base (.frz h)
  · exact .kList h1 h2
theorem ty_tup {a : Addr} {xs : List V} (h : SqT K H a xs) : TyX K H (.ref a) (.type "tuple") := by
  rcases h with (h | ⟨o, h⟩) | ⟨o, its, n, h1, h2, _⟩
  · exact .base (.tup h)
  · exact .fTuple h
  · exact .kTuple h1 h2
theorem ty_of (h : Dp K H v d) : TyX K H v (.type (clsD d)) := by
  cases h with
  | non => exact .base .non
  | bl b => exact .base (.bl b)
  | int i => exact .base (.int i)
  | str x => exact .base (.str x)
  | lst hs _ => exact ty_list hs
  | tup hs _ => exact ty_tup hs
theorem kit_int (h : Dp K H v d) : PySem.W.kitOne K (.type (clsD d)) (.type "int") = some (isIntD d) := by
  cases h with
  | non => exact kit_ty (a := "NoneType") (b := "int") (r := false) (by decide +kernel)
  | bl _ => exact kit_ty (a := "bool") (b := "int") (r := true) (by decide +kernel)
  | int _ => exact kit_ty (a := "int") (b := "int") (r := true) (by decide +kernel)
  | str _ => exact kit_ty (a := "str") (b := "int") (r := false) (by decide +kernel)
  | lst _ _ => exact kit_ty (a := "list") (b := "int") (r := false) (by decide +kernel)
  | tup _ _ => exact kit_ty (a := "tuple") (b := "int") (r := false) (by decide +kernel)
theorem kit_bool (h : Dp K H v d) : PySem.W.kitOne K (.type (clsD d)) (.type "bool") = some (isBoolD d) := by
  cases h with
  | non => exact kit_ty (a := "NoneType") (b := "bool") (r := false) (by decide +kernel)
  | bl _ => exact kit_ty (a := "bool") (b := "bool") (r := true) (by decide +kernel)
  | int _ => exact kit_ty (a := "int") (b := "bool") (r := false) (by decide +kernel)
  | str _ => exact kit_ty (a := "str") (b := "bool") (r := false) (by decide +kernel)
  | lst _ _ => exact kit_ty (a := "list") (b := "bool") (r := false) (by decide +kernel)
  | tup _ _ => exact kit_ty (a := "tuple") (b := "bool") (r := false) (by decide +kernel)
theorem kit_row (h : Dp K H v d) : PySem.W.kitAny K (.type (clsD d)) [.type "tuple", .type "list"] = some (isRowD d) := by
  cases h with
  | non => exact kitAny_cons (b := false) (kit_ty (a := "NoneType") (b := "tuple") (r := false) (by decide +kernel)) (fun _ => kitAny_cons (b := false) (kit_ty (a := "NoneType") (b := "list") (r := false) (by decide +kernel)) (fun _ => rfl) (fun z => by cases z)) (fun z => by cases z)
  | bl _ => exact kitAny_cons (b := false) (kit_ty (a := "bool") (b := "tuple") (r := false) (by decide +kernel)) (fun _ => kitAny_cons (b := false) (kit_ty (a := "bool") (b := "list") (r := false) (by decide +kernel)) (fun _ => rfl) (fun z => by cases z)) (fun z => by cases z)
  | int _ => exact kitAny_cons (b := false) (kit_ty (a := "int") (b := "tuple") (r := false) (by decide +kernel)) (fun _ => kitAny_cons (b := false) (kit_ty (a := "int") (b := "list") (r := false) (by decide +kernel)) (fun _ => rfl) (fun z => by cases z)) (fun z => by cases z)
  | str _ => exact kitAny_cons (b := false) (kit_ty (a := "str") (b := "tuple") (r := false) (by decide +kernel)) (fun _ => kitAny_cons (b := false) (kit_ty (a := "str") (b := "list") (r := false) (by decide +kernel)) (fun _ => rfl) (fun z => by cases z)) (fun z => by cases z)
  | lst _ _ => exact kitAny_cons (b := false) (kit_ty (a := "list") (b := "tuple") (r := false) (by decide +kernel)) (fun _ => kitAny_cons (b := true) (kit_ty (a := "list") (b := "list") (r := true) (by decide +kernel)) (fun z => by cases z) (fun _ => rfl)) (fun z => by cases z)
  | tup _ _ => exact kitAny_cons (b := true) (kit_ty (a := "tuple") (b := "tuple") (r := true) (by decide +kernel)) (fun z => by cases z) (fun _ => rfl)
theorem seqT_same {a : Addr} {xs : List V} (s : Same H H') (h : SqT K H a xs) : SqT K H' a xs :=
  h.elim (fun h => .inl (h.elim (fun h => .inl (s _ _ h)) fun ⟨o, h⟩ => .inr ⟨o, s _ _ h⟩)) .inr
mutual
theorem dp_same (s : Same H H') : ∀ {d : PyData} {v : V}, Dp K H v d → Dp K H' v d
  | .none, _, h => by
    cases h
    exact .non
  | .bool b, _, h => by
    cases h
    exact .bl b
  | .int i, _, h => by
    cases h
    exact .int i
  | .str x, _, h => by
    cases h
    exact .str x
  | .list ds, _, h => by
    cases h with
    | lst hs ha => exact .lst (s.seq hs) (dps_same s ha)
  | .tuple ds, _, h => by
    cases h with
    | tup hs ha => exact .tup (seqT_same s hs) (dps_same s ha)
  | .dict _, _, h => by cases h
theorem dps_same (s : Same H H') : ∀ {ds : List PyData} {vs : List V}, DpAll K H vs ds → DpAll K H' vs ds
  | [], _, h => by
    cases h
    exact .nil
  | d :: ds, _, h => by
    cases h with
    | cons h1 h2 => exact .cons (dp_same s h1) (dps_same s h2)
end
theorem dps_len : ∀ {vs : List V} {ds : List PyData}, DpAll K H vs ds → vs.length = ds.length
  | _, [], h => by
    cases h
    rfl
  | _, _ :: _, h => by
    cases h with
    | cons _ h2 => exact congrArg Nat.succ (dps_len h2)
theorem dps_get : ∀ {vs : List V} {ds : List PyData}, DpAll K H vs ds → ∀ {i : Nat} {v : V}, vs[i]? = some v → ∃ d, ds[i]? = some d ∧ Dp K H v d
  | _, [], h, i, v, e => by
    cases h
    simp at e
  | _, d :: ds, h, i, v, e => by
    cases h with
    | cons h1 h2 =>
      cases i with
      | zero =>
        simp at e
        subst e
        exact ⟨d, rfl, h1⟩
      | succ i =>
        simp at e
        obtain ⟨d', q1, q2⟩ := dps_get h2 e
        exact ⟨d', by simpa using q1, q2⟩
end
end Dat
namespace Us
open PySem PySem.Spec PyProof.Rows L2
def rListOf (K : PySem.W.Frag) : List V → Hp → VK → Prop := fun xs H Q => ∃ p ys, xs = [V.ref p] ∧ (SqL K H p ys ∨ SqT K H p ys) ∧ ∀ l, H l = none → Q (.ref l) (upd H l (.lst ys))
/-- the block of a comprehension within a comprehension -/
theorem blkOk_in {N : List Str} {sc scopeO scope2 : Scope} {own : List (Str × Nat)} {cl : List (Str × Addr)} {C : Addr} {env : Env} (h : blkC N (relS scopeO sc) scope2 own = true) (e : env.scope = sc) : BlkOk N (compEnvC scopeO cl C env).scope scope2 own := by
  subst e
  exact blkOk_by h
section
variable {X : Cx} {K : PySem.W.Frag} {pos : Pos}
theorem pi_listK {tg l : Expr} {tl : TE} (hK : X.K = K) (hl : PE X l tl) : PI X tg l (iList K tl) := hK ▸ pi_list hl
theorem pi_tupK {tg l : Expr} {tl : TE} (hK : X.K = K) (hl : PE X l tl) : PI X tg l (iTup K tl) := hK ▸ pi_tup hl
theorem pg_tupK {es : List Expr} {k : Nat} {t : TGs} {n : Nat} (hK : X.K = K) (hc : X.calm = true) (h : PGs X es t)
    (hn : (assignEach es X.env).length = n := by rfl) (hst : (assignEach es X.env).findIdx? (·.1) = none := by rfl) : PG X (.Tuple es k pos) (gTup K n t) := hK ▸ pg_tup hc h hn hst
theorem pg_unlK {es : List Expr} {k : Nat} {t : TGs} {n : Nat} (hK : X.K = K) (hc : X.calm = true) (h : PGs X es t)
    (hn : (assignEach es X.env).length = n := by rfl) (hst : (assignEach es X.env).findIdx? (·.1) = none := by rfl) : PG X (.Tuple es k pos) (gUnl K n t) := hK ▸ pg_unl hc h hn hst
theorem pe_fldK {e : Expr} {f : Str} {ta : TE} (hK : X.K = K) (he : PE X e ta) (hb : attributeBase e f X.env (eval e X.env) = eval e X.env) : PE X (.Attribute e f pos) (tFld K ta f) := hK ▸ pe_fld he hb
end
end Us
namespace Pen
open PySem
def top (i : Nat) : Stmt := PySem.Challenge.pw_everycycle_k12_whole_sums_comparisons_pr.main.body.getD i (.Pass ⟨0, 0, 0, 0⟩)
abbrev cCyc : Stmt := top 1
abbrev cBadN : Stmt := top 2
abbrev cBadR : Stmt := top 3
abbrev sBetween : Stmt := top 5
abbrev sFrom : Stmt := top 6
abbrev sRow : Stmt := top 7
abbrev sRowB : Stmt := top 8
abbrev cGraph : Stmt := top 10
abbrev sNeed : Stmt := top 11
abbrev sGates : Stmt := top 12
abbrev cBuild : Stmt := top 13
abbrev sOr : Stmt := top 14
abbrev sXorB : Stmt := top 15
abbrev sChoice : Stmt := top 16
abbrev sNumberWord : Stmt := top 18
abbrev sWordNumber : Stmt := top 19
abbrev sNumberBits : Stmt := top 20
abbrev sOpposites : Stmt := top 21
abbrev sFullSum : Stmt := top 22
abbrev sSummed : Stmt := top 23
abbrev sDifference : Stmt := top 24
abbrev sProduct : Stmt := top 25
abbrev sIsBelow : Stmt := top 26
abbrev sIsEqual : Stmt := top 27
abbrev sChosen : Stmt := top 28
abbrev sPen : Stmt := top 30
abbrev sDraw : Stmt := top 31
abbrev sPick : Stmt := top 32
abbrev sWhole : Stmt := top 33
abbrev sValues : Stmt := top 34
abbrev sBit : Stmt := top 35
abbrev sFlip : Stmt := top 36
abbrev sLonger : Stmt := top 37
abbrev sRows : Stmt := top 38
abbrev sTold : Stmt := top 39
abbrev sLNumber : Stmt := top 40
abbrev sAreLits : Stmt := top 41
abbrev sLDrawnBits : Stmt := top 42
abbrev sLSomeRows : Stmt := top 43
abbrev sLits : Stmt := top 44
abbrev sLWordOf : Stmt := top 45
abbrev sLRowsRight : Stmt := top 46
abbrev sLThreeRight : Stmt := top 47
abbrev sLaw : Stmt := top 48
end Pen
namespace Pen
open PySem PySem.Spec PyProof.Rows L2
/-! ## The pen: the source of all draws. Its three defs, once for each law -/
abbrev FnP (K : PySem.W.Frag) (x : Str) (st : Stmt) (f : Addr) (fd : FuncData) : Prop := FunD K x x (defArgs st) (defBody st) (defScope st) [] [] f fd
/-- the pen's pairs: cells, at, digits, count, fold -/
def cols (c : Addr) (a d n f : Int) : List (Key × V) := [(.inr "cells", .ref c), (.inr "at", .int a), (.inr "digits", .int d), (.inr "count", .int n), (.inr "fold", .int f)]
section
variable {c : Addr} {a d n f z : Int}
theorem get_cells : valV (cols c a d n f) (.inr "cells" : Key) = some (.ref c) := by rfl
theorem get_at : valV (cols c a d n f) (.inr "at" : Key) = some (.int a) := by rfl
theorem get_digits : valV (cols c a d n f) (.inr "digits" : Key) = some (.int d) := by rfl
theorem get_count : valV (cols c a d n f) (.inr "count" : Key) = some (.int n) := by rfl
theorem get_fold : valV (cols c a d n f) (.inr "fold" : Key) = some (.int f) := by rfl
theorem put_at : putK (cols c a d n f) (.inr "at" : Key) (.int z) = cols c z d n f := by rfl
theorem put_digits : putK (cols c a d n f) (.inr "digits" : Key) (.int z) = cols c a z n f := by rfl
theorem put_count : putK (cols c a d n f) (.inr "count" : Key) (.int z) = cols c a d z f := by rfl
theorem put_fold : putK (cols c a d n f) (.inr "fold" : Key) (.int z) = cols c a d n z := by rfl
variable {H : Hp} {p : Addr}
theorem dg_cells (h : H p = some (.dK (cols c a d n f))) : DGet H p (.str "cells") (some (.ref c)) := DGet.k (k := .inr "cells") h
theorem dg_at (h : H p = some (.dK (cols c a d n f))) : DGet H p (.str "at") (some (.int a)) := DGet.k (k := .inr "at") h
theorem dg_digits (h : H p = some (.dK (cols c a d n f))) : DGet H p (.str "digits") (some (.int d)) := DGet.k (k := .inr "digits") h
theorem dg_count (h : H p = some (.dK (cols c a d n f))) : DGet H p (.str "count") (some (.int n)) := DGet.k (k := .inr "count") h
theorem dg_fold (h : H p = some (.dK (cols c a d n f))) : DGet H p (.str "fold") (some (.int f)) := DGet.k (k := .inr "fold") h
theorem five : 5 < sizeLine := by decide
theorem dp_at (h : H p = some (.dK (cols c a d n f))) : DPut H p (.str "at") (.int z) (upd H p (.dK (cols c z d n f))) := DPut.k (k := .inr "at") h five
theorem dp_digits (h : H p = some (.dK (cols c a d n f))) : DPut H p (.str "digits") (.int z) (upd H p (.dK (cols c a z n f))) := DPut.k (k := .inr "digits") h five
theorem dp_count (h : H p = some (.dK (cols c a d n f))) : DPut H p (.str "count") (.int z) (upd H p (.dK (cols c a d z f))) := DPut.k (k := .inr "count") h five
theorem dp_fold (h : H p = some (.dK (cols c a d n f))) : DPut H p (.str "fold") (.int z) (upd H p (.dK (cols c a d n z))) := DPut.k (k := .inr "fold") h five
end
/-- a pen stands at p, its cells at c; so many draws were made at most -/
def PenC (H : Hp) (p c : Addr) (m : Nat) : Prop :=
  ∃ (ns : List Int) (a d n f : Int), H p = some (.dK (cols c a d n f)) ∧ H c = some (.lst (ns.map V.int)) ∧ ns.length ≤ 1000 ∧ 0 ≤ a ∧ 0 ≤ n ∧ n ≤ m ∧ 0 ≤ f ∧ f < 2147483648
/-- all but the object at p stands as it stood -/
def But (p : Addr) (H H' : Hp) : Prop := ∀ b o, H b = some o → b ≠ p → H' b = some o
theorem But.upd {p : Addr} {H : Hp} {o : HO} : But p H (upd H p o) := fun b o e h => by
  rw [upd_ne h]
  exact e
theorem But.trans {p : Addr} {H H1 H2 : Hp} (a : But p H H1) (b : But p H1 H2) : But p H H2 := fun c o e h => b c o (a c o e h) h
theorem But.refl {p : Addr} {H : Hp} : But p H H := fun _ _ e _ => e
theorem But.of_same {p : Addr} {H H' : Hp} (s : Same H H') : But p H H' := fun c o e _ => s c o e
theorem PenC.same {H H' : Hp} {p c : Addr} {m : Nat} (h : PenC H p c m) (s : Same H H') : PenC H' p c m := by
  obtain ⟨ns, a, d, n, f, h1, h2, r⟩ := h
  exact ⟨ns, a, d, n, f, s _ _ h1, s _ _ h2, r⟩
theorem PenC.more {H : Hp} {p c : Addr} {m m' : Nat} (h : PenC H p c m) (s : m ≤ m') : PenC H p c m' := by
  obtain ⟨ns, a, d, n, f, h1, h2, h3, ha, h4, h5, r⟩ := h
  exact ⟨ns, a, d, n, f, h1, h2, h3, ha, h4, by omega, r⟩
theorem PenC.upd {H : Hp} {p c q : Addr} {m : Nat} {o : HO} (h : PenC H p c m) (n1 : q ≠ p) (n2 : q ≠ c) : PenC (upd H q o) p c m := by
  obtain ⟨ns, a, d, n, f, h1, h2, r⟩ := h
  exact ⟨ns, a, d, n, f, by rw [upd_ne n1.symm]; exact h1, by rw [upd_ne n2.symm]; exact h2, r⟩
theorem PenC.free {H : Hp} {p c q : Addr} {m : Nat} (h : PenC H p c m) (e : H q = none) : q ≠ p ∧ q ≠ c := by
  obtain ⟨ns, a, d, n, f, h1, h2, r⟩ := h
  refine ⟨fun z => ?_, fun z => ?_⟩
  · rw [z, h1] at e
    cases e
  · rw [z, h2] at e
    cases e
/-- the script, as each def is handed it -/
def spPen (K : PySem.W.Frag) : Sp := fun vs H Q _ => ∃ (a : Addr) (ns : List Int), vs = [.ref a] ∧ SqL K H a (ns.map V.int) ∧ ns.length ≤ 63 ∧
  ∀ (p c : Addr) (H' : Hp), H p = none → Same H H' → PenC H' p c 0 → Q (.ref p) H'
def spDraw : Sp := fun vs H Q _ => ∃ (p c : Addr) (m : Nat) (many : Int), vs = [.ref p, .int many] ∧ PenC H p c m ∧ m ≤ 1000000000000 ∧ 0 < many ∧ many < 1073741824 ∧
  ∀ (r : Int) (H' : Hp), 0 ≤ r → r < many → PenC H' p c (m + 1) → But p H H' → Q (.int r) H'
def spPick (K : PySem.W.Frag) : Sp := fun vs H Q _ => ∃ (p c l : Addr) (m : Nat) (xs : List V), vs = [.ref p, .ref l] ∧ PenC H p c m ∧ m ≤ 1000000000000 ∧ l ≠ p ∧ SqL K H l xs ∧ 0 < xs.length ∧ xs.length ≤ 1000 ∧
  ∀ (v : V) (i : Nat) (H' : Hp), xs[i]? = some v → PenC H' p c (m + 1) → But p H H' → Q v H'
abbrev pN : List Str := ["_law_script", "_law_fold", "_law_cell"]
abbrev dN : List Str := ["_law_pen_here", "_law_many", "_law_cell", "_law_digit", "_law_blend"]
abbrev kN : List Str := ["_law_pen_here", "_law_some"]
theorem int_item {ns : List Int} {i : Nat} {y : V} (h : (ns.map V.int)[i]? = some y) : ∃ z, y = V.int z := by
  rw [List.getElem?_map] at h
  cases e : ns[i]? with
  | none =>
    rw [e] at h
    cases h
  | some u =>
    rw [e] at h
    exact ⟨u, (Option.some.inj h).symm⟩
structure Txt (mg : Str → Option Value) : Prop where
  len : mg "len" = none
  int : mg "int" = none
  list : mg "list" = none
section
variable {P : Program} {w : World} {K : PySem.W.Frag} {mg : Str → Option Value} {base : Heap} {f : Addr} {fd : FuncData}
theorem scPen : FnScope pN ["_law_script"] (defScope sPen) := ⟨rfl, rfl, rfl, by decide +kernel, rfl, by decide +kernel, by decide +kernel⟩
theorem scDraw : FnScope dN ["_law_pen_here", "_law_many"] (defScope sDraw) := ⟨rfl, rfl, rfl, by decide +kernel, rfl, by decide +kernel, by decide +kernel⟩
theorem scPick : FnScope kN ["_law_pen_here", "_law_some"] (defScope sPick) := ⟨rfl, rfl, rfl, by decide +kernel, rfl, by decide +kernel, by decide +kernel⟩
theorem ok_pen {CX : CXT} (F : FnP K "_law_pen" sPen f fd) (T : Txt mg) : FnOk P w K mg base CX 1 f fd ["_law_script"] (spPen K) := by
  refine F.ok scPen (fun vs H Q E h => ?_) (fun cdv A outer s H vs Q E hr h => ?_)
  · obtain ⟨a, ns, rfl, _⟩ := h
    rfl
  · obtain ⟨a, ns, rfl, hS, hl, k⟩ := h
    refine ⟨_, PSs.nox (pss_cons (ps_set (i := 1) scPen.nd rfl (Or.inl rfl) pe_int)
      (pss_cons (ps_for PassesOwn.never rfl (pi_list (pv 0)) (pg_name (i := 2) scPen.nd rfl (Or.inl rfl))
        (pss_one (ps_set (i := 1) scPen.nd rfl (Or.inl rfl) (pe_op op_mod (pe_callTy call_int1 (by rfl) T.int (by decide +kernel) (pa_cons (pe_op op_add (pe_op op_mul (pv 1) pe_int) (pv 2)) pa_nil)) pe_int))))
      (pss_one (ps_ret (pe_disp (pps_cons pe_str (pe_callTy call_list_of (by rfl) T.list (by decide +kernel) (pa_cons (pv 0) pa_nil)) (pps_cons pe_str pe_int (pps_cons pe_str pe_int (pps_cons pe_str pe_int (pps_cons pe_str (pv 1) pps_nil))))) (by rfl) (by rfl) (fun z => by cases z) (by decide)))))), ?_⟩
    refine ⟨_, rfl, a, rfl, ⟨_, hS⟩, for_list (K := K) (a := a) (xs := ns.map V.int) (fun i σ H2 => ∃ (z : Int) (v : Option V), σ = [some (.ref a), some (.int z), v] ∧ H2 = H ∧ 0 ≤ z ∧ z < 1000000007)
      ⟨0, none, rfl, rfl, by decide, by decide⟩ (fun i σ H2 _ ⟨_, _, _, e, _⟩ => by rw [e]; exact hS) ?_ ?_⟩
    · rintro i y σ H2 hi ⟨z, v, rfl, rfl, h0, h1⟩
      obtain ⟨u, rfl⟩ := int_item hi
      refine ⟨_, rfl, _, _, rfl, rfl, .inr ⟨by decide, by decide⟩, _, rfl, _, _, rfl, rfl, .inl ⟨_, rfl, _, _, rfl, rfl, (by show (0 : Int) < 1000000007; decide), ?_⟩⟩
      exact ⟨_, _, rfl, rfl, Int.emod_nonneg _ (by decide), Int.emod_lt_of_pos _ (by decide)⟩
    · rintro σ H2 ⟨z, v, rfl, rfl, h0, h1⟩
      intro p hp
      have sp : Same H2 (upd H2 p (.dK [])) := fun b o e => by
        rw [upd_ne (ne_of_none e hp)]
        exact e
      refine ⟨_, rfl, a, _, rfl, .inl (sp.seq hS), fun l hl0 => ?_⟩
      have npl : p ≠ l := fun q => by
        rw [← q, upd_same] at hl0
        cases hl0
      have hl1 : H2 l = none := by
        rw [upd_ne npl.symm] at hl0
        exact hl0
      refine ⟨_, rfl, by rw [upd_ne npl, upd_same], cols l 0 0 0 z, rfl, (by show 5 ≤ 15; decide), ?_⟩
      refine k p l _ hp (fun b o e => ?_) ⟨ns, 0, 0, 0, z, upd_same, ?_, by omega, by decide, by decide, by decide, h0, by omega⟩
      · rw [upd_ne (ne_of_none e hp), upd_ne (ne_of_none e hl1), upd_ne (ne_of_none e hp)]
        exact e
      · rw [upd_ne npl.symm, upd_same]
theorem ok_draw {CX : CXT} (F : FnP K "_law_draw" sDraw f fd) (T : Txt mg) : FnOk P w K mg base CX 1 f fd ["_law_pen_here", "_law_many"] spDraw := by
  refine F.ok scDraw (fun vs H Q E h => ?_) (fun cdv A outer s H vs Q E hr h => ?_)
  · obtain ⟨p, c, m, many, rfl, _⟩ := h
    rfl
  · obtain ⟨p, c, m, many, rfl, ⟨ns, a, d, n, fo, hp, hc, hz, a0, n0, nm, f0, f1⟩, hm, m0, m1, k⟩ := h
    have hu := hu_of hr
    have ncp : c ≠ p := ne_of hc hp (by intro z; cases z)
    refine ⟨_, PSs.nox (pss_cons (ps_dput hu (pv 0) pe_str (pe_op op_add (pe_dget hu (pv 0) pe_str (fun _ _ => rfl)) pe_int) rfl)
      (C8.pss_cut (ps_if (PW.pt (pw_and (pt_cmpR op_eq (pe_dget hu (pv 0) pe_str (fun _ _ => rfl)) pe_int (nomark _))
          (pw_and1 (pt_cmpR op_lt (pe_dget hu (pv 0) pe_str (fun _ _ => rfl)) (pe_callB call_len_seq (by rfl) T.len PySem.boot_len (pa_cons (pe_dget hu (pv 0) pe_str (fun _ _ => rfl)) pa_nil)) (nomark _)))))
        (pss_cons (ps_set (i := 2) scDraw.nd rfl (Or.inl rfl) (pe_ix ix_list (pe_dget hu (pv 0) pe_str (fun _ _ => rfl)) (pe_dget hu (pv 0) pe_str (fun _ _ => rfl)) (fun _ _ => rfl)))
        (pss_cons (ps_dput hu (pv 0) pe_str (pe_op op_add (pe_dget hu (pv 0) pe_str (fun _ _ => rfl)) pe_int) rfl)
        (pss_one (ps_if (pt_cmpR op_ge (pv 2) (pe_op op_pow pe_int pe_int) (nomark _))
          (pss_one (ps_dput hu (pv 0) pe_str (pe_op op_sub (pv 2) (pe_op op_pow pe_int pe_int)) rfl))
          (pss_one (ps_dput hu (pv 0) pe_str (pe_op op_mod (pe_callTy call_int1 (by rfl) T.int (by decide +kernel) (pa_cons (pe_op op_add (pe_op op_mul (pe_dget hu (pv 0) pe_str (fun _ _ => rfl)) pe_int) (pv 2)) pa_nil)) pe_int) rfl))))))
        pss_nil)
      (pss_cons (ps_if (pt_cmpR op_gt (pe_dget hu (pv 0) pe_str (fun _ _ => rfl)) pe_int (nomark _))
        (pss_cons (ps_set (i := 3) scDraw.nd rfl (Or.inl rfl) (pe_op op_mod (pe_callTy call_int1 (by rfl) T.int (by decide +kernel) (pa_cons (pe_dget hu (pv 0) pe_str (fun _ _ => rfl)) pa_nil)) (pv 1)))
        (pss_cons (ps_dput hu (pv 0) pe_str (pe_op op_fdiv (pe_dget hu (pv 0) pe_str (fun _ _ => rfl)) (pv 1)) rfl)
        (pss_one (ps_ret (pv 3)))))
        pss_nil)
      (pss_cons (ps_set (i := 4) scDraw.nd rfl (Or.inl rfl) (pe_op op_add (pe_op op_add (pe_dget hu (pv 0) pe_str (fun _ _ => rfl)) (pe_op op_mul (pe_dget hu (pv 0) pe_str (fun _ _ => rfl)) pe_int)) pe_int))
      (pss_one (ps_ret (pe_op op_mod (pe_op op_fdiv (pe_callTy call_int1 (by rfl) T.int (by decide +kernel) (pa_cons (pe_op op_mod (pe_op op_pow (pv 4) pe_int) pe_int) pa_nil)) pe_int) (pv 1)))))))), ?_⟩
    -- count
    refine ⟨_, rfl, _, _, rfl, dg_count hp, _, _, rfl, rfl, _, rfl, p, _, rfl, dp_count hp, ?_⟩
    have hp1 : ∀ {o : HO}, upd H p o p = some o := upd_same
    have hc1 : ∀ {o : HO}, upd H p o c = some (.lst (ns.map V.int)) := by
      intro o
      rw [upd_ne ncp]
      exact hc
    refine ⟨fun σ H2 => ∃ (a' d' fo' : Int) (cell : Option V), σ = [some (.ref p), some (.int many), cell, none, none] ∧ H2 = upd H p (.dK (cols c a' d' (n + 1) fo')) ∧ 0 ≤ a' ∧ 0 ≤ fo' ∧ fo' < 2147483648, ?_, ?_⟩
    · refine ⟨_, rfl, _, _, rfl, dg_digits hp1, rfl, _, rfl, ?_⟩
      refine ite2 (fun _ => ?_) (fun _ => ?_)
      · refine ⟨_, rfl, _, _, rfl, dg_at hp1, _, rfl, _, _, rfl, dg_cells hp1, _, _, rfl, .inl (SqL.of hc1), _, _, rfl, rfl, _, rfl, ?_⟩
        refine ite2 (fun hlt => ?_) (fun _ => ?_)
        · have hlt := of_decide_eq_true hlt
          have hj : a.toNat < (ns.map V.int).length := by omega
          obtain ⟨u, hu2⟩ := int_item (List.getElem?_eq_getElem hj)
          have hit : (ns.map V.int)[a.toNat]? = some (V.int u) := by
            rw [List.getElem?_eq_getElem hj, hu2]
          refine ⟨_, rfl, _, _, rfl, dg_cells hp1, _, rfl, _, _, rfl, dg_at hp1, _, _, _, _, rfl, rfl, SqL.of hc1, at_of (j := a.toNat) (by omega) hit, ?_⟩
          refine ⟨_, rfl, _, _, rfl, dg_at hp1, _, _, rfl, rfl, _, rfl, p, _, rfl, dp_at hp1, ?_⟩
          rw [upd_upd]
          refine ⟨_, rfl, _, _, rfl, rfl, ⟨by decide, by decide, by decide⟩, _, _, rfl, rfl, _, rfl, ?_⟩
          refine ite2 (fun _ => ?_) (fun _ => ?_)
          · refine ⟨_, rfl, _, _, rfl, rfl, ⟨by decide, by decide, by decide⟩, _, _, rfl, rfl, _, rfl, p, _, rfl, dp_digits hp1, ?_⟩
            rw [upd_upd]
            exact ⟨_, _, _, _, rfl, rfl, by omega, f0, f1⟩
          · refine ⟨_, rfl, _, _, rfl, dg_fold hp1, _, _, rfl, rfl, .inr ⟨by decide, by decide⟩, _, rfl, _, _, rfl, rfl, .inl ⟨_, rfl, _, _, rfl, rfl, (by show (0 : Int) < 2147483587; decide), ?_⟩⟩
            refine ⟨_, rfl, p, _, rfl, dp_fold hp1, ?_⟩
            rw [upd_upd]
            exact ⟨_, _, _, _, rfl, rfl, by omega, Int.emod_nonneg _ (by decide), Int.lt_trans (Int.emod_lt_of_pos _ (by decide)) (by decide)⟩
        · exact ⟨_, _, _, _, rfl, rfl, a0, f0, f1⟩
      · exact ⟨_, _, _, _, rfl, rfl, a0, f0, f1⟩
    · rintro σ H2 ⟨a', d', fo', cell, rfl, rfl, h0, g0, g1⟩
      refine ⟨_, rfl, _, _, rfl, dg_digits hp1, _, _, rfl, rfl, _, rfl, ?_⟩
      refine ite2 (fun _ => ?_) (fun _ => ?_)
      · refine ⟨_, rfl, _, _, rfl, dg_digits hp1, .inl ⟨_, rfl, _, rfl, _, _, rfl, rfl, m0, ?_⟩⟩
        refine ⟨_, rfl, _, _, rfl, dg_digits hp1, _, rfl, _, _, rfl, rfl, ⟨m0, m1⟩, _, rfl, p, _, rfl, dp_digits hp1, ?_⟩
        rw [upd_upd]
        refine ⟨_, rfl, k _ _ (Int.emod_nonneg _ (by omega)) (Int.emod_lt_of_pos _ m0) ⟨ns, _, _, _, _, hp1, hc1, hz, h0, by omega, by omega, g0, g1⟩ But.upd⟩
      · refine ⟨_, rfl, _, _, rfl, dg_fold hp1, _, rfl, _, _, rfl, dg_count hp1, _, _, rfl, rfl, .inr ⟨by decide, by decide⟩, _, _, rfl, rfl, _, _, rfl, rfl, ?_⟩
        refine ⟨_, rfl, _, _, rfl, rfl, ⟨by decide, by decide, ?_⟩, _, _, rfl, rfl, (by show (0 : Int) < 2305843009213693951; decide), .inl ⟨_, rfl, _, _, rfl, rfl, ⟨by decide, by decide⟩, _, rfl, _, _, rfl, rfl, m0, ?_⟩⟩
        · omega
        · exact k _ _ (Int.emod_nonneg _ (by omega)) (Int.emod_lt_of_pos _ m0) ⟨ns, _, _, _, _, hp1, hc1, hz, h0, by omega, by omega, g0, g1⟩ But.upd
theorem ok_pick {CX : CXT} {fD : Addr} {fdD : FuncData} (F : FnP K "_law_pick" sPick f fd) (T : Txt mg) (FD : FnP K "_law_draw" sDraw fD fdD) (gD : mg "_law_draw" = some (.ref fD)) (hCX : ∀ X, Passes CX X E0 := by exact fun X => pass0) : FnOk P w K mg base CX 2 f fd ["_law_pen_here", "_law_some"] (spPick K) := by
  have GD : FnOk P w K mg base CX0 1 fD fdD ["_law_pen_here", "_law_many"] spDraw := ok_draw FD T
  have bD : Binds K fdD ["_law_pen_here", "_law_many"] [] := FD.bindsN fun _ _ _ _ _ _ us hl => match us, hl with | [_, _], _ => rfl
  refine F.ok scPick (fun vs H Q E h => ?_) (fun cdv A outer s H vs Q E hr h => ?_)
  · obtain ⟨p, c, l, m, xs, rfl, _⟩ := h
    rfl
  · obtain ⟨p, c, l, m, xs, rfl, hP, hm, hlp, hS, h0, h1, k⟩ := h
    refine ⟨_, PSs.nox (pss_one (ps_ret (pe_ix ix_list (pv 1) (pe_call GD hr rfl gD FD.kp bD .nil pass0 (pa_cons (pv 0) (pa_cons (pe_callB call_len_seq (by rfl) T.len PySem.boot_len (pa_cons (pv 1) pa_nil)) pa_nil))) (fun _ _ => rfl)))), ?_⟩
    refine ⟨_, rfl, _, rfl, _, rfl, _, _, rfl, .inl hS, p, c, m, _, rfl, hP, hm, by omega, by omega, fun r H' r0 r1 hP' hB => ?_⟩
    have hj : r.toNat < xs.length := by omega
    have hS' : SqL K H' l xs := by
      rcases hS with (h | ⟨o, h⟩) | h
      · exact .inl (.inl (hB _ _ h hlp))
      · exact .inl (.inr ⟨o, hB _ _ h hlp⟩)
      · exact .inr h
    exact ⟨_, _, _, _, rfl, rfl, hS', at_of (j := r.toNat) (by omega) (List.getElem?_eq_getElem hj), k _ _ _ (List.getElem?_eq_getElem hj) hP' hB⟩
end
end Pen
namespace Ki
open PySem PySem.Spec PyProof.Rows L2 Pen Dat
/-! ## Of which kind a value is -/
structure Tx (mg : Str → Option Value) : Prop where
  isi : mg "isinstance" = none
  int : mg "int" = none
  bool : mg "bool" = none
  tuple : mg "tuple" = none
  list : mg "list" = none
  len : mg "len" = none
  all : mg "all" = none
def betD (d : PyData) (lo hi : Int) : Bool :=
  match d with
  | .int i => decide (lo ≤ i) && decide (i ≤ hi)
  | _ => false
def fromD (d : PyData) (lo : Int) : Bool :=
  match d with
  | .int i => decide (i ≥ lo)
  | _ => false
def rowsD (d : PyData) : List PyData :=
  match d with
  | .list ds => ds
  | .tuple ds => ds
  | _ => []
def rowB (d : PyData) (many lo hi : Int) : Bool := isRowD d && (decide (((rowsD d).length : Int) = many) && (rowsD d).all fun e => betD e lo hi)
def spBetween (K : PySem.W.Frag) : Sp := fun vs H Q _ => ∃ (v : V) (lo hi : Int) (d : PyData), vs = [v, .int lo, .int hi] ∧ Dp K H v d ∧ Q (.bl (betD d lo hi)) H
def spFrom (K : PySem.W.Frag) : Sp := fun vs H Q _ => ∃ (v : V) (lo : Int) (d : PyData), vs = [v, .int lo] ∧ Dp K H v d ∧ Q (.bl (fromD d lo)) H
def spRow (K : PySem.W.Frag) : Sp := fun vs H Q _ => ∃ (v : V) (d : PyData), vs = [v] ∧ Dp K H v d ∧ ∀ H', Same H H' → Q (.bl (isRowD d)) H'
def spRowB (K : PySem.W.Frag) : Sp := fun vs H Q _ => ∃ (v : V) (many lo hi : Int) (d : PyData), vs = [v, .int many, .int lo, .int hi] ∧ Dp K H v d ∧ (rowsD d).length ≤ 1000 ∧ ∀ H', Same H H' → Q (.bl (rowB d many lo hi)) H'
section
variable {P : Program} {w : World} {K : PySem.W.Frag} {mg : Str → Option Value} {base : Heap} {f : Addr} {fd : FuncData}
theorem same_new {H : Hp} {p : Addr} {u : HO} (np : H p = none) : Same H (upd H p u) := fun b o e => by
  rw [upd_ne (ne_of_none e np)]
  exact e
theorem scBetween : FnScope ["value", "least", "most"] ["value", "least", "most"] (defScope sBetween) := ⟨rfl, rfl, rfl, by decide +kernel, rfl, by decide +kernel, by decide +kernel⟩
theorem scFrom : FnScope ["value", "least"] ["value", "least"] (defScope sFrom) := ⟨rfl, rfl, rfl, by decide +kernel, rfl, by decide +kernel, by decide +kernel⟩
theorem scRow : FnScope ["value"] ["value"] (defScope sRow) := ⟨rfl, rfl, rfl, by decide +kernel, rfl, by decide +kernel, by decide +kernel⟩
abbrev rbN : List Str := ["value", "many", "least", "most", "part"]
theorem scRowB : FnScope rbN ["value", "many", "least", "most"] (defScope sRowB) := ⟨rfl, rfl, rfl, by decide +kernel, rfl, by decide +kernel, by decide +kernel⟩
theorem ok_between (F : FnP K "is_between" sBetween f fd) (T : Tx mg) : FnOk P w K mg base CX0 1 f fd ["value", "least", "most"] (spBetween K) := by
  refine F.ok scBetween (fun vs H Q E h => ?_) (fun cdv A outer s H vs Q E hr h => ?_)
  · obtain ⟨v, lo, hi, d, rfl, _⟩ := h
    rfl
  · obtain ⟨v, lo, hi, d, rfl, hd, q⟩ := h
    refine ⟨_, PSs.nox (pss_one (ps_ret (pe_and (pe_callB call_isi (by rfl) T.isi (by decide +kernel) (pa_cons (pv 0) (pa_cons (pe_bltn (v := .ty "int") (by rfl) T.int (by decide +kernel) rfl) pa_nil)))
      (pe_and (pe_not (pe_callB call_isi (by rfl) T.isi (by decide +kernel) (pa_cons (pv 0) (pa_cons (pe_bltn (v := .ty "bool") (by rfl) T.bool (by decide +kernel) rfl) pa_nil))))
      (pe_one (pe_chain op_le op_le (pv 1) (pv 0) (pv 2))))))), ?_⟩
    refine ⟨_, rfl, _, _, _, _, _, rfl, .ty _, ty_of hd, kit_int hd, _, rfl, ?_⟩
    have kb := kit_bool hd
    have tb := ty_of hd
    cases hd with
    | non => exact iteF q
    | str x => exact iteF q
    | lst _ _ => exact iteF q
    | tup _ _ => exact iteF q
    | bl b => exact iteT ⟨_, rfl, _, _, _, _, _, rfl, .ty _, tb, kb, _, rfl, _, rfl, iteF q⟩
    | int i =>
      refine iteT ⟨_, rfl, _, _, _, _, _, rfl, .ty _, tb, kb, _, rfl, _, rfl, iteT ?_⟩
      refine ⟨_, rfl, _, rfl, _, _, rfl, rfl, _, rfl, ite2 (fun h1 => ?_) (fun h1 => ?_)⟩
      · refine ⟨_, rfl, _, _, rfl, rfl, ?_⟩
        have e : (decide (lo ≤ i) && decide (i ≤ hi)) = decide (i ≤ hi) := by
          rw [h1]
          rfl
        show Q (V.bl (decide (i ≤ hi))) H
        rw [← e]
        exact q
      · have e : (decide (lo ≤ i) && decide (i ≤ hi)) = false := by
          rw [Bool.eq_false_iff.mpr h1]
          rfl
        show Q (V.bl false) H
        rw [← e]
        exact q
theorem ok_from (F : FnP K "is_from" sFrom f fd) (T : Tx mg) : FnOk P w K mg base CX0 1 f fd ["value", "least"] (spFrom K) := by
  refine F.ok scFrom (fun vs H Q E h => ?_) (fun cdv A outer s H vs Q E hr h => ?_)
  · obtain ⟨v, lo, d, rfl, _⟩ := h
    rfl
  · obtain ⟨v, lo, d, rfl, hd, q⟩ := h
    refine ⟨_, PSs.nox (pss_one (ps_ret (pe_and (pe_callB call_isi (by rfl) T.isi (by decide +kernel) (pa_cons (pv 0) (pa_cons (pe_bltn (v := .ty "int") (by rfl) T.int (by decide +kernel) rfl) pa_nil)))
      (pe_and (pe_not (pe_callB call_isi (by rfl) T.isi (by decide +kernel) (pa_cons (pv 0) (pa_cons (pe_bltn (v := .ty "bool") (by rfl) T.bool (by decide +kernel) rfl) pa_nil))))
      (pe_one (pe_cmpR op_ge (pv 0) (pv 1) (nomark _))))))), ?_⟩
    refine ⟨_, rfl, _, _, _, _, _, rfl, .ty _, ty_of hd, kit_int hd, _, rfl, ?_⟩
    have kb := kit_bool hd
    have tb := ty_of hd
    cases hd with
    | non => exact iteF q
    | str x => exact iteF q
    | lst _ _ => exact iteF q
    | tup _ _ => exact iteF q
    | bl b => exact iteT ⟨_, rfl, _, _, _, _, _, rfl, .ty _, tb, kb, _, rfl, _, rfl, iteF q⟩
    | int i =>
      refine iteT ⟨_, rfl, _, _, _, _, _, rfl, .ty _, tb, kb, _, rfl, _, rfl, iteT ?_⟩
      exact ⟨_, rfl, _, rfl, _, _, rfl, rfl, q⟩
theorem ok_row (F : FnP K "is_row" sRow f fd) (T : Tx mg) : FnOk P w K mg base CX0 1 f fd ["value"] (spRow K) := by
  refine F.ok scRow (fun vs H Q E h => ?_) (fun cdv A outer s H vs Q E hr h => ?_)
  · obtain ⟨v, d, rfl, _⟩ := h
    rfl
  · obtain ⟨v, d, rfl, hd, q⟩ := h
    refine ⟨_, PSs.nox (pss_one (ps_ret (pe_callB call_isiT (by rfl) T.isi (by decide +kernel) (pa_cons (pv 0) (pa_cons (pe_tup (pa_cons (pe_bltn (v := .ty "tuple") (by rfl) T.tuple (by decide +kernel) rfl) (pa_cons (pe_bltn (v := .ty "list") (by rfl) T.list (by decide +kernel) rfl) pa_nil))) pa_nil))))), ?_⟩
    refine ⟨_, rfl, (by show 2 ≤ sizeLine; decide), fun p np => ?_⟩
    exact ⟨_, _, _, _, _, _, rfl, upd_same, .cons (.ty _) (.cons (.ty _) .nil), ty_of (dp_same (same_new np) hd), kit_row hd, q _ (same_new np)⟩
theorem take_more {α : Type} {xs : List α} {i : Nat} {x : α} (h : xs[i]? = some x) : xs.take (i + 1) = xs.take i ++ [x] := by
  rw [List.take_succ, h]
  rfl
theorem yes_of {σ : L2.St} {H : Hp} {A B : Hp → Prop} (h : A H) : tYes σ H fun b H3 => if b = true then A H3 else B H3 := by
  show if true = true then A H else B H
  exact iteT h
theorem ok_rowB {fB fR : Addr} {fdB fdR : FuncData} (F : FnP K "is_row_between" sRowB f fd) (T : Tx mg) (FB : FnP K "is_between" sBetween fB fdB) (gB : mg "is_between" = some (.ref fB)) (FR : FnP K "is_row" sRow fR fdR) (gR : mg "is_row" = some (.ref fR)) :
    FnOk P w K mg base CX0 2 f fd ["value", "many", "least", "most"] (spRowB K) := by
  have GB : FnOk P w K mg base CX0 1 fB fdB ["value", "least", "most"] (spBetween K) := ok_between FB T
  have GR : FnOk P w K mg base CX0 1 fR fdR ["value"] (spRow K) := ok_row FR T
  have bB : Binds K fdB ["value", "least", "most"] [] := FB.bindsN fun _ _ _ _ _ _ us hl => match us, hl with | [_, _, _], _ => rfl
  have bR : Binds K fdR ["value"] [] := FR.bindsN fun _ _ _ _ _ _ us hl => match us, hl with | [_], _ => rfl
  refine F.ok scRowB (fun vs H Q E h => ?_) (fun cdv A outer s H vs Q E hr h => ?_)
  · obtain ⟨v, many, lo, hi, d, rfl, _⟩ := h
    rfl
  · obtain ⟨v, many, lo, hi, d, rfl, hd, hz, q⟩ := h
    cases hd with
    | lst hs ha =>
      rename_i a vs ds
      have hlen := dps_len ha
      have hz' : ds.length ≤ 1000 := hz
      refine ⟨_, PSs.nox (pss_one (ps_ret (pe_and (pe_call GR hr (by rfl) gR FR.kp bR .nil pass0 (pa_cons (pv 0) pa_nil))
        (pe_and (pe_cmpR op_eq (pe_callB call_len_seq (by rfl) T.len PySem.boot_len (pa_cons (pv 0) pa_nil)) (pv 1) (nomark _))
        (pe_one (pe_callB (cr_all rfl) (by rfl) T.all (by decide +kernel) (pa_cons
          (pe_lc (own := [("part", 4)]) (g := gName 4) (tt := tYes) rfl scRowB.nd (pi_list (pv 0)) (blkOk_by (N := rbN) (sc := defScope sRowB) (by decide +kernel)) (fun _ _ _ _ _ => pg_name (i := 4) scRowB.nd rfl (Or.inl rfl)) (fun _ _ _ _ _ => pts_nil)
            (fun _ _ _ _ _ => pe_call GB hr (by rfl) gB FB.kp bB .nil pass0 (pa_cons (pv 4) (pa_cons (pv 2) (pa_cons (pv 3) pa_nil))))) pa_nil))))))), ?_⟩
      refine ⟨_, rfl, _, _, rfl, .lst hs ha, fun H1 s1 => ⟨_, rfl, iteT ?_⟩⟩
      refine ⟨_, rfl, _, _, rfl, .inl (s1.seq hs), _, rfl, rfl, _, rfl, ite2 (fun e1 => ?_) (fun e1 => ?_)⟩
      · have e2 : (ds.length : Int) = many := by
          rw [← hlen]
          exact V.int.inj (of_decide_eq_true e1)
        refine ⟨_, rfl, a, rfl, ⟨_, s1.seq hs⟩, fun D nD => ?_⟩
        have sD : Same H1 (upd H1 D (.lst [])) := same_new nD
        refine lc_list (K := K) (a := a) (xs := vs) (fun i H2 => Same H1 H2 ∧ H2 D = some (.lst ((ds.take i).map fun e => V.bl (betD e lo hi)))) ⟨sD, by rw [upd_same]; rfl⟩ (fun i H2 _ ⟨s2, _⟩ => s2.seq (s1.seq hs)) ?_ ?_
        · rintro i v H2 hi ⟨s2, h2⟩
          obtain ⟨e, he, hv⟩ := dps_get ha hi
          refine ⟨rfl, yes_of ?_⟩
          refine ⟨_, rfl, _, rfl, _, rfl, _, _, _, e, rfl, dp_same (s1.trans s2) hv, _, h2, ?_, fun b o z => ?_, ?_⟩
          · rw [List.length_map, List.length_take]
            exact Nat.lt_of_le_of_lt (Nat.min_le_right _ _) (Nat.lt_of_le_of_lt hz' (by decide))
          · rw [upd_ne (ne_of_none z nD)]
            exact s2 _ _ z
          · rw [upd_same, take_more he, List.map_append]
            rfl
        · rintro H2 ⟨s2, h2⟩
          rw [hlen, List.take_length] at h2
          refine ⟨D, ds.map fun e => betD e lo hi, rfl, SqL.of ?_, ?_⟩
          · rw [h2, List.map_map]
            rfl
          · have e3 : rowB (.list ds) many lo hi = (ds.map fun e => betD e lo hi).all id := by
              show (true && (decide ((ds.length : Int) = many) && ds.all fun e => betD e lo hi)) = _
              rw [decide_eq_true e2, List.all_map]
              rfl
            rw [← e3]
            exact q _ (s1.trans s2)
      · have e2 : ¬ (ds.length : Int) = many := fun z => e1 (decide_eq_true (by rw [hlen, z]))
        have e3 : rowB (.list ds) many lo hi = false := by
          show (true && (decide ((ds.length : Int) = many) && ds.all fun e => betD e lo hi)) = false
          rw [decide_eq_false e2]
          rfl
        rw [← e3]
        exact q _ s1
    | tup hs ha =>
      rename_i a vs ds
      have hlen := dps_len ha
      have hz' : ds.length ≤ 1000 := hz
      refine ⟨_, PSs.nox (pss_one (ps_ret (pe_and (pe_call GR hr (by rfl) gR FR.kp bR .nil pass0 (pa_cons (pv 0) pa_nil))
        (pe_and (pe_cmpR op_eq (pe_callB call_len_seq (by rfl) T.len PySem.boot_len (pa_cons (pv 0) pa_nil)) (pv 1) (nomark _))
        (pe_one (pe_callB (cr_all rfl) (by rfl) T.all (by decide +kernel) (pa_cons
          (pe_lc (own := [("part", 4)]) (g := gName 4) (tt := tYes) rfl scRowB.nd (pi_tup (pv 0)) (blkOk_by (N := rbN) (sc := defScope sRowB) (by decide +kernel)) (fun _ _ _ _ _ => pg_name (i := 4) scRowB.nd rfl (Or.inl rfl)) (fun _ _ _ _ _ => pts_nil)
            (fun _ _ _ _ _ => pe_call GB hr (by rfl) gB FB.kp bB .nil pass0 (pa_cons (pv 4) (pa_cons (pv 2) (pa_cons (pv 3) pa_nil))))) pa_nil))))))), ?_⟩
      refine ⟨_, rfl, _, _, rfl, .tup hs ha, fun H1 s1 => ⟨_, rfl, iteT ?_⟩⟩
      refine ⟨_, rfl, _, _, rfl, .inr (seqT_same s1 hs), _, rfl, rfl, _, rfl, ite2 (fun e1 => ?_) (fun e1 => ?_)⟩
      · have e2 : (ds.length : Int) = many := by
          rw [← hlen]
          exact V.int.inj (of_decide_eq_true e1)
        refine ⟨_, rfl, a, rfl, ⟨_, seqT_same s1 hs⟩, fun D nD => ?_⟩
        have sD : Same H1 (upd H1 D (.lst [])) := same_new nD
        refine lc_tup (K := K) (a := a) (xs := vs) (fun i H2 => Same H1 H2 ∧ H2 D = some (.lst ((ds.take i).map fun e => V.bl (betD e lo hi)))) ⟨sD, by rw [upd_same]; rfl⟩ (fun i H2 _ ⟨s2, _⟩ => seqT_same s2 (seqT_same s1 hs)) ?_ ?_
        · rintro i v H2 hi ⟨s2, h2⟩
          obtain ⟨e, he, hv⟩ := dps_get ha hi
          refine ⟨rfl, yes_of ?_⟩
          refine ⟨_, rfl, _, rfl, _, rfl, _, _, _, e, rfl, dp_same (s1.trans s2) hv, _, h2, ?_, fun b o z => ?_, ?_⟩
          · rw [List.length_map, List.length_take]
            exact Nat.lt_of_le_of_lt (Nat.min_le_right _ _) (Nat.lt_of_le_of_lt hz' (by decide))
          · rw [upd_ne (ne_of_none z nD)]
            exact s2 _ _ z
          · rw [upd_same, take_more he, List.map_append]
            rfl
        · rintro H2 ⟨s2, h2⟩
          rw [hlen, List.take_length] at h2
          refine ⟨D, ds.map fun e => betD e lo hi, rfl, SqL.of ?_, ?_⟩
          · rw [h2, List.map_map]
            rfl
          · have e3 : rowB (.tuple ds) many lo hi = (ds.map fun e => betD e lo hi).all id := by
              show (true && (decide ((ds.length : Int) = many) && ds.all fun e => betD e lo hi)) = _
              rw [decide_eq_true e2, List.all_map]
              rfl
            rw [← e3]
            exact q _ (s1.trans s2)
      · have e2 : ¬ (ds.length : Int) = many := fun z => e1 (decide_eq_true (by rw [hlen, z]))
        have e3 : rowB (.tuple ds) many lo hi = false := by
          show (true && (decide ((ds.length : Int) = many) && ds.all fun e => betD e lo hi)) = false
          rw [decide_eq_false e2]
          rfl
        rw [← e3]
        exact q _ s1
    | non =>
      refine ⟨_, PSs.nox (pss_one (ps_ret (pe_and (pe_call GR hr (by rfl) gR FR.kp bR .nil pass0 (pa_cons (pv 0) pa_nil))
        (pe_and (pe_cmpR op_eq (pe_callB call_len_seq (by rfl) T.len PySem.boot_len (pa_cons (pv 0) pa_nil)) (pv 1) (nomark _))
        (pe_one (pe_callB (cr_all rfl) (by rfl) T.all (by decide +kernel) (pa_cons
          (pe_lc (own := [("part", 4)]) (g := gName 4) (tt := tYes) rfl scRowB.nd (pi_list (pv 0)) (blkOk_by (N := rbN) (sc := defScope sRowB) (by decide +kernel)) (fun _ _ _ _ _ => pg_name (i := 4) scRowB.nd rfl (Or.inl rfl)) (fun _ _ _ _ _ => pts_nil)
            (fun _ _ _ _ _ => pe_call GB hr (by rfl) gB FB.kp bB .nil pass0 (pa_cons (pv 4) (pa_cons (pv 2) (pa_cons (pv 3) pa_nil))))) pa_nil))))))), ?_⟩
      exact ⟨_, rfl, _, _, rfl, .non, fun H1 s1 => ⟨_, rfl, iteF (q _ s1)⟩⟩
    | bl b =>
      refine ⟨_, PSs.nox (pss_one (ps_ret (pe_and (pe_call GR hr (by rfl) gR FR.kp bR .nil pass0 (pa_cons (pv 0) pa_nil))
        (pe_and (pe_cmpR op_eq (pe_callB call_len_seq (by rfl) T.len PySem.boot_len (pa_cons (pv 0) pa_nil)) (pv 1) (nomark _))
        (pe_one (pe_callB (cr_all rfl) (by rfl) T.all (by decide +kernel) (pa_cons
          (pe_lc (own := [("part", 4)]) (g := gName 4) (tt := tYes) rfl scRowB.nd (pi_list (pv 0)) (blkOk_by (N := rbN) (sc := defScope sRowB) (by decide +kernel)) (fun _ _ _ _ _ => pg_name (i := 4) scRowB.nd rfl (Or.inl rfl)) (fun _ _ _ _ _ => pts_nil)
            (fun _ _ _ _ _ => pe_call GB hr (by rfl) gB FB.kp bB .nil pass0 (pa_cons (pv 4) (pa_cons (pv 2) (pa_cons (pv 3) pa_nil))))) pa_nil))))))), ?_⟩
      exact ⟨_, rfl, _, _, rfl, .bl b, fun H1 s1 => ⟨_, rfl, iteF (q _ s1)⟩⟩
    | int i =>
      refine ⟨_, PSs.nox (pss_one (ps_ret (pe_and (pe_call GR hr (by rfl) gR FR.kp bR .nil pass0 (pa_cons (pv 0) pa_nil))
        (pe_and (pe_cmpR op_eq (pe_callB call_len_seq (by rfl) T.len PySem.boot_len (pa_cons (pv 0) pa_nil)) (pv 1) (nomark _))
        (pe_one (pe_callB (cr_all rfl) (by rfl) T.all (by decide +kernel) (pa_cons
          (pe_lc (own := [("part", 4)]) (g := gName 4) (tt := tYes) rfl scRowB.nd (pi_list (pv 0)) (blkOk_by (N := rbN) (sc := defScope sRowB) (by decide +kernel)) (fun _ _ _ _ _ => pg_name (i := 4) scRowB.nd rfl (Or.inl rfl)) (fun _ _ _ _ _ => pts_nil)
            (fun _ _ _ _ _ => pe_call GB hr (by rfl) gB FB.kp bB .nil pass0 (pa_cons (pv 4) (pa_cons (pv 2) (pa_cons (pv 3) pa_nil))))) pa_nil))))))), ?_⟩
      exact ⟨_, rfl, _, _, rfl, .int i, fun H1 s1 => ⟨_, rfl, iteF (q _ s1)⟩⟩
    | str x =>
      refine ⟨_, PSs.nox (pss_one (ps_ret (pe_and (pe_call GR hr (by rfl) gR FR.kp bR .nil pass0 (pa_cons (pv 0) pa_nil))
        (pe_and (pe_cmpR op_eq (pe_callB call_len_seq (by rfl) T.len PySem.boot_len (pa_cons (pv 0) pa_nil)) (pv 1) (nomark _))
        (pe_one (pe_callB (cr_all rfl) (by rfl) T.all (by decide +kernel) (pa_cons
          (pe_lc (own := [("part", 4)]) (g := gName 4) (tt := tYes) rfl scRowB.nd (pi_list (pv 0)) (blkOk_by (N := rbN) (sc := defScope sRowB) (by decide +kernel)) (fun _ _ _ _ _ => pg_name (i := 4) scRowB.nd rfl (Or.inl rfl)) (fun _ _ _ _ _ => pts_nil)
            (fun _ _ _ _ _ => pe_call GB hr (by rfl) gB FB.kp bB .nil pass0 (pa_cons (pv 4) (pa_cons (pv 2) (pa_cons (pv 3) pa_nil))))) pa_nil))))))), ?_⟩
      exact ⟨_, rfl, _, _, rfl, .str x, fun H1 s1 => ⟨_, rfl, iteF (q _ s1)⟩⟩
end
end Ki
namespace Fi
open PySem PySem.Spec PyProof.Rows L2 Pen Dat
/-! ## What never changes: tuples, locked things, instances -/
def firm : HO → Bool
  | .tup _ => true
  | .frz _ _ => true
  | .ins _ _ _ => true
  | _ => false
def Firm (H H' : Hp) : Prop := ∀ b o, H b = some o → firm o = true → H' b = some o
theorem Firm.refl (H : Hp) : Firm H H := fun _ _ e _ => e
theorem Firm.trans {H H1 H2 : Hp} (a : Firm H H1) (b : Firm H1 H2) : Firm H H2 := fun c o e h => b c o (a c o e h) h
theorem Firm.of {H H' : Hp} (s : Same H H') : Firm H H' := fun b o e _ => s b o e
theorem Firm.upd {H : Hp} {a : Addr} {u o : HO} (h : H a = some u) (hu : firm u = false) : Firm H (upd H a o) := fun b z e hz => by
  rw [upd_ne (fun q => by rw [q, h] at e; cases e; rw [hu] at hz; cases hz)]
  exact e
theorem Firm.but {H H' : Hp} {p : Addr} {u : HO} (c : But p H H') (h : H p = some u) (hu : firm u = false) : Firm H H' := fun b z e hz =>
  c b z e fun q => by
    rw [q, h] at e
    cases e
    rw [hu] at hz
    cases hz
theorem Firm.pen {H H' : Hp} {p c : Addr} {m : Nat} (b : But p H H') (h : PenC H p c m) : Firm H H' := by
  obtain ⟨_, _, _, _, _, h1, _⟩ := h
  exact Firm.but b h1 rfl
/-! ### two lists, item by item -/
inductive All2 {α : Type} (R : V → α → Prop) : List V → List α → Prop
  | nil : All2 R [] []
  | cons {v : V} {x : α} {vs : List V} {xs : List α} : R v x → All2 R vs xs → All2 R (v :: vs) (x :: xs)
section
variable {α : Type} {R R' : V → α → Prop}
theorem All2.len : ∀ {vs : List V} {xs : List α}, All2 R vs xs → vs.length = xs.length
  | _, _, .nil => rfl
  | _, _, .cons _ h => congrArg Nat.succ h.len
theorem All2.imp (f : ∀ v x, R v x → R' v x) : ∀ {vs : List V} {xs : List α}, All2 R vs xs → All2 R' vs xs
  | _, _, .nil => .nil
  | _, _, .cons h t => .cons (f _ _ h) (t.imp f)
theorem All2.get : ∀ {vs : List V} {xs : List α}, All2 R vs xs → ∀ {i : Nat} {v : V}, vs[i]? = some v → ∃ x, xs[i]? = some x ∧ R v x
  | _, _, .nil, i, v, e => by simp at e
  | _, _, .cons (v := v0) (x := x0) h t, 0, v, e => by
    simp at e
    subst e
    exact ⟨x0, rfl, h⟩
  | _, _, .cons h t, i + 1, v, e => by
    simp at e
    obtain ⟨x, q1, q2⟩ := t.get e
    exact ⟨x, by simpa using q1, q2⟩
theorem All2.get' : ∀ {vs : List V} {xs : List α}, All2 R vs xs → ∀ {i : Nat} {x : α}, xs[i]? = some x → ∃ v, vs[i]? = some v ∧ R v x
  | _, _, .nil, i, v, e => by simp at e
  | _, _, .cons (v := v0) (x := x0) h t, 0, v, e => by
    simp at e
    subst e
    exact ⟨v0, rfl, h⟩
  | _, _, .cons h t, i + 1, v, e => by
    simp at e
    obtain ⟨x, q1, q2⟩ := t.get' e
    exact ⟨x, by simpa using q1, q2⟩
theorem All2.snoc {v : V} {x : α} (h : R v x) : ∀ {vs : List V} {xs : List α}, All2 R vs xs → All2 R (vs ++ [v]) (xs ++ [x])
  | _, _, .nil => .cons h .nil
  | _, _, .cons h1 t => .cons h1 (t.snoc h)
theorem All2.append : ∀ {vs ws : List V} {xs ys : List α}, All2 R vs xs → All2 R ws ys → All2 R (vs ++ ws) (xs ++ ys)
  | _, _, _, _, .nil, h => h
  | _, _, _, _, .cons h1 t, h => .cons h1 (t.append h)
theorem All2.take : ∀ {vs : List V} {xs : List α} (n : Nat), All2 R vs xs → All2 R (vs.take n) (xs.take n)
  | _, _, 0, _ => by
    rw [List.take_zero, List.take_zero]
    exact .nil
  | _, _, _ + 1, .nil => .nil
  | _, _, n + 1, .cons h t => .cons h (t.take n)
end
/-! ### pairs, rows of pairs, rows of ints -/
def Pt (K : PySem.W.Frag) (H : Hp) (v : V) (p : Int × Int) : Prop := ∃ q, v = .ref q ∧ SqT K H q [.int p.1, .int p.2]
def Pr (K : PySem.W.Frag) (H : Hp) (v : V) (p : Int × Int) : Prop := ∃ q, v = .ref q ∧ (SqL K H q [.int p.1, .int p.2] ∨ SqT K H q [.int p.1, .int p.2])
def Tu (K : PySem.W.Frag) (H : Hp) (v : V) (r : List Int) : Prop := ∃ q, v = .ref q ∧ H q = some (.tup (r.map V.int))
def GT (K : PySem.W.Frag) (H : Hp) (g : Addr) (gs : List (Int × Int)) : Prop := ∃ vs, SqT K H g vs ∧ All2 (Pt K H) vs gs
def RowG (K : PySem.W.Frag) (H : Hp) (v : V) (gs : List (Int × Int)) : Prop := ∃ r vs, v = .ref r ∧ (SqL K H r vs ∨ SqT K H r vs) ∧ All2 (Pr K H) vs gs
section
variable {K : PySem.W.Frag} {H H' : Hp}
theorem firm_seq {a : Addr} {xs : List V} (s : Firm H H') (h : SqT K H a xs) : SqT K H' a xs :=
  h.elim (fun h => .inl (h.elim (fun h => .inl (s _ _ h rfl)) fun ⟨o, h⟩ => .inr ⟨o, s _ _ h rfl⟩)) .inr
theorem Pt.firm {v : V} {p : Int × Int} (s : Firm H H') (h : Pt K H v p) : Pt K H' v p := by
  obtain ⟨q, e, h⟩ := h
  exact ⟨q, e, firm_seq s h⟩
theorem Tu.firm {v : V} {r : List Int} (s : Firm H H') (h : Tu K H v r) : Tu K H' v r := by
  obtain ⟨q, e, h⟩ := h
  exact ⟨q, e, s _ _ h rfl⟩
theorem GT.firm {g : Addr} {gs : List (Int × Int)} (s : Firm H H') (h : GT K H g gs) : GT K H' g gs := by
  obtain ⟨vs, h1, h2⟩ := h
  exact ⟨vs, firm_seq s h1, h2.imp fun _ _ q => q.firm s⟩
theorem Pr.same {v : V} {p : Int × Int} (s : Same H H') (h : Pr K H v p) : Pr K H' v p := by
  obtain ⟨q, e, h⟩ := h
  exact ⟨q, e, h.elim (fun h => .inl (s.seq h)) fun h => .inr (seqT_same s h)⟩
theorem RowG.same {v : V} {gs : List (Int × Int)} (s : Same H H') (h : RowG K H v gs) : RowG K H' v gs := by
  obtain ⟨r, vs, e, h1, h2⟩ := h
  exact ⟨r, vs, e, h1.elim (fun h => .inl (s.seq h)) fun h => .inr (seqT_same s h), h2.imp fun _ _ q => q.same s⟩
theorem Pt.pr {v : V} {p : Int × Int} (h : Pt K H v p) : Pr K H v p := by
  obtain ⟨q, e, h⟩ := h
  exact ⟨q, e, .inr h⟩
theorem GT.row {g : Addr} {gs : List (Int × Int)} (h : GT K H g gs) : RowG K H (.ref g) gs := by
  obtain ⟨vs, h1, h2⟩ := h
  exact ⟨g, vs, rfl, .inr h1, h2.imp fun _ _ q => q.pr⟩
/-- a row of pairs, as data -/
def pD (p : Int × Int) : PyData := .tuple [.int p.1, .int p.2]
def gD (gs : List (Int × Int)) : PyData := .tuple (gs.map pD)
theorem pt_dp {v : V} {p : Int × Int} (h : Pt K H v p) : Dp K H v (pD p) := by
  obtain ⟨q, rfl, h⟩ := h
  exact .tup h (.cons (.int _) (.cons (.int _) .nil))
theorem pts_dp : ∀ {vs : List V} {gs : List (Int × Int)}, All2 (Pt K H) vs gs → DpAll K H vs (gs.map pD)
  | _, _, .nil => .nil
  | _, _, .cons h t => .cons (pt_dp h) (pts_dp t)
theorem GT.dp {g : Addr} {gs : List (Int × Int)} (h : GT K H g gs) : Dp K H (.ref g) (gD gs) := by
  obtain ⟨vs, h1, h2⟩ := h
  exact .tup h1 (pts_dp h2)
theorem ints_dp : ∀ (r : List Int), DpAll K H (r.map V.int) (r.map PyData.int)
  | [] => .nil
  | _ :: r => .cons (.int _) (ints_dp r)
end
end Fi
namespace Gr
open PySem PySem.Spec PyProof.Rows L2 Pen Dat Ki Fi
/-! ## Graphs -/
structure Tx (K : PySem.W.Frag) (mg : Str → Option Value) (C : Addr) : Prop where
  ki : Ki.Tx mg
  cl : Cls K C
  nL : NoAttr K C "leaves"
  nG : NoAttr K C "gates"
  mgC : mg "Graph" = some (.ref C)
  cls : PySem.W.findIn K (.ref C) "__class__" = some (some (.builtin "object.__class__"))
  spc : PySem.W.specialIn K (.builtin "object.__class__") "__get__" = some (some (.builtin "getset_descriptor.__get__"))
  tak : PySem.W.takesIn K (.builtin "object.__class__") = some true
  met : ∀ {H : Hp} {a dx : Addr} {fs : List (Str × V)}, H a = some (.ins C dx fs) → TyOf K H (.ref a) (.ref C)
  own : PySem.W.kitOne K (.ref C) (.ref C) = some true
  tup : PySem.W.kitOne K (.type "tuple") (.ref C) = some false
def flds (n : Int) (g : Addr) : List (Str × V) := putF "gates" (.ref g) (putF "leaves" (.int n) [])
theorem kLG : ¬ (("leaves" : Str) = "gates") := by decide +kernel
theorem flds_eq (n : Int) (g : Addr) : flds n g = ([("leaves", V.int n), ("gates", V.ref g)] : List (Str × V)) := by
  show (if ("leaves" : Str) = "gates" then [(("leaves" : Str), V.ref g)] else (("leaves" : Str), V.int n) :: putF "gates" (V.ref g) []) = ([("leaves", V.int n), ("gates", V.ref g)] : List (Str × V))
  rw [if_neg kLG]
  all_goals rfl
theorem flds_L (n : Int) (g : Addr) : (flds n g).lookup ("leaves" : Str) = some (.int n) := by
  unfold flds
  rw [lookup_putF, if_neg kLG, lookup_putF, if_pos rfl]
theorem flds_G (n : Int) (g : Addr) : (flds n g).lookup ("gates" : Str) = some (.ref g) := by
  unfold flds
  rw [lookup_putF, if_pos rfl]
def GraphAt (K : PySem.W.Frag) (C : Addr) (H : Hp) (p : Addr) (n : Int) (gs : List (Int × Int)) : Prop := ∃ dx g, H p = some (.ins C dx (flds n g)) ∧ GT K H g gs
theorem GraphAt.firm {K : PySem.W.Frag} {C p : Addr} {H H' : Hp} {n : Int} {gs : List (Int × Int)} (s : Firm H H') (h : GraphAt K C H p n gs) : GraphAt K C H' p n gs := by
  obtain ⟨dx, g, h1, h2⟩ := h
  exact ⟨dx, g, s _ _ h1 rfl, h2.firm s⟩
def goB : Int → List PyData → Bool
  | _, [] => true
  | m, e :: r => rowB e 2 0 m && goB (m + 2) r
def gatesB (n : Int) (d : PyData) : Bool := isRowD d && goB (2 * n + 1) (rowsD d)
def within (a m : Int) : Bool := decide (0 ≤ a) && decide (a ≤ m)
def okG : Int → List (Int × Int) → Bool
  | _, [] => true
  | m, p :: r => (within p.1 m && within p.2 m) && okG (m + 2) r
theorem pr_dp {K : PySem.W.Frag} {H : Hp} {v : V} {p : Int × Int} (h : Pr K H v p) : ∃ e, Dp K H v e ∧ (rowsD e).length ≤ 1000 ∧ ∀ m, rowB e 2 0 m = (within p.1 m && within p.2 m) := by
  obtain ⟨q, rfl, h | h⟩ := h
  · exact ⟨_, .lst h (.cons (.int _) (.cons (.int _) .nil)), by show 2 ≤ 1000; decide, fun m => by show (true && (decide (((2 : Nat) : Int) = 2) && (within p.1 m && (within p.2 m && true)))) = _; rw [decide_eq_true (by rfl), Bool.and_true]; rfl⟩
  · exact ⟨_, .tup h (.cons (.int _) (.cons (.int _) .nil)), by show 2 ≤ 1000; decide, fun m => by show (true && (decide (((2 : Nat) : Int) = 2) && (within p.1 m && (within p.2 m && true)))) = _; rw [decide_eq_true (by rfl), Bool.and_true]; rfl⟩
theorem prs_dp {K : PySem.W.Frag} {H : Hp} : ∀ {vs : List V} {gs : List (Int × Int)}, All2 (Pr K H) vs gs → ∃ ds, DpAll K H vs ds ∧ ds.length = gs.length ∧ (∀ e ∈ ds, (rowsD e).length ≤ 1000) ∧ ∀ m, goB m ds = okG m gs
  | _, _, .nil => ⟨[], .nil, rfl, (fun e z => absurd z List.not_mem_nil), fun m => rfl⟩
  | _, _, .cons h t => by
    obtain ⟨e, e1, e2, e3⟩ := pr_dp h
    obtain ⟨ds, d1, d2, d3, d4⟩ := prs_dp t
    refine ⟨e :: ds, .cons e1 d1, congrArg Nat.succ d2, fun z hz => ?_, fun m => ?_⟩
    · rcases List.mem_cons.mp hz with rfl | hz
      · exact e2
      · exact d3 z hz
    · show (rowB e 2 0 m && goB (m + 2) ds) = _
      rw [e3, d4]
      rfl
theorem row_dp {K : PySem.W.Frag} {H : Hp} {v : V} {gs : List (Int × Int)} (h : RowG K H v gs) : ∃ d, Dp K H v d ∧ (rowsD d).length = gs.length ∧ (∀ e ∈ rowsD d, (rowsD e).length ≤ 1000) ∧ ∀ n, gatesB n d = okG (2 * n + 1) gs := by
  obtain ⟨r, vs, rfl, h1, h2⟩ := h
  obtain ⟨ds, d1, d2, d3, d4⟩ := prs_dp h2
  rcases h1 with h1 | h1
  · exact ⟨.list ds, .lst h1 d1, d2, d3, fun n => d4 _⟩
  · exact ⟨.tuple ds, .tup h1 d1, d2, d3, fun n => d4 _⟩
def spNeed : Sp := fun vs H Q _ => ∃ n : Int, vs = [.int n] ∧ n ≥ 0 ∧ Q .non H
def spGates (K : PySem.W.Frag) : Sp := fun vs H Q _ => ∃ (n : Int) (v : V) (d : PyData), vs = [.int n, v] ∧ Dp K H v d ∧ (rowsD d).length ≤ 1000 ∧ (∀ e ∈ rowsD d, (rowsD e).length ≤ 1000) ∧ ∀ H', Same H H' → Q (.bl (gatesB n d)) H'
def spInit (K : PySem.W.Frag) (C : Addr) : Sp := fun vs H Q _ => ∃ (p dx : Addr) (n : Int) (v : V) (gs : List (Int × Int)), vs = [.ref p, .int n, v] ∧ H p = some (.ins C dx []) ∧ n ≥ 0 ∧ RowG K H v gs ∧ gs.length ≤ 1000 ∧ okG (2 * n + 1) gs = true ∧
  ∀ H', (∀ b o, H b = some o → b ≠ p → H' b = some o) → GraphAt K C H' p n gs → Q .non H'
def spEqG (K : PySem.W.Frag) (C : Addr) : Sp := fun vs H Q _ => ∃ (p : Addr) (v : V) (n : Int) (gs : List (Int × Int)), vs = [.ref p, v] ∧ GraphAt K C H p n gs ∧
  ((∃ (q : Addr) (n' : Int) (gs' : List (Int × Int)), v = .ref q ∧ GraphAt K C H q n' gs' ∧ Q (.bl (decide (n = n') && PyData.eqv (gD gs) (gD gs'))) H) ∨ ∃ (t : Addr) (xs : List V), v = .ref t ∧ SqT K H t xs ∧ Q (.bl false) H)
theorem can_pD : ∀ gs : List (Int × Int), PyData.canLayAll0 (gs.map pD) = true
  | [] => rfl
  | _ :: r => can_pD r
theorem deep_pD : ∀ gs : List (Int × Int), PyData.depthAll (gs.map pD) ≤ 1
  | [] => Nat.zero_le _
  | p :: r => Nat.max_le.mpr ⟨Nat.le_refl _, deep_pD r⟩
theorem shaped_gD (gs : List (Int × Int)) : SeqAt.shaped (gD gs) = true := by
  have h1 := can_pD gs
  have h2 := deep_pD gs
  unfold SeqAt.shaped
  rw [Bool.and_eq_true]
  exact ⟨h1, decide_eq_true (by show PyData.depthAll (gs.map pD) + 1 ≤ 64; omega)⟩
def rTupOf (K : PySem.W.Frag) : List V → Hp → VK → Prop := fun xs H Q => ∃ p ys, xs = [V.ref p] ∧ ((SqL K H p ys ∧ ∀ l, H l = none → Q (.ref l) (upd H l (.tup ys))) ∨ (SqT K H p ys ∧ Q (.ref p) H))
section
variable {P : Program} {w : World} {K : PySem.W.Frag} {mg : Str → Option Value} {base : Heap} {f C : Addr} {fd : FuncData}
theorem start_int (n : Int) : 2 * n + 1 = 2 * n + 1 + 2 * ((0 : Nat) : Int) := by omega
theorem start_eq (n : Int) (a : Addr) : ([some (.int n), some (.ref a), some (.int (2 * n + 1)), none] : List (Option V)) = [some (.int n), some (.ref a), some (.int (2 * n + 1 + 2 * ((0 : Nat) : Int))), none] := by
  rw [← start_int]
theorem scNeed : FnScope ["leaves"] ["leaves"] (defScope sNeed) := ⟨rfl, rfl, rfl, by decide +kernel, rfl, by decide +kernel, by decide +kernel⟩
theorem scGates : FnScope ["leaves", "value", "most", "pair"] ["leaves", "value"] (defScope sGates) := ⟨rfl, rfl, rfl, by decide +kernel, rfl, by decide +kernel, by decide +kernel⟩
abbrev sInit : Stmt := inClass cGraph 0
abbrev sEq : Stmt := inClass cGraph 1
abbrev inN : List Str := ["self", "leaves", "gates", "pair"]
theorem scInit : FnScope inN ["self", "leaves", "gates"] (defScope sInit) := ⟨rfl, rfl, rfl, by decide +kernel, rfl, by decide +kernel, by decide +kernel⟩
theorem scEq : FnScope ["self", "other"] ["self", "other"] (defScope sEq) := ⟨rfl, rfl, rfl, by decide +kernel, rfl, by decide +kernel, by decide +kernel⟩
abbrev FnI (K : PySem.W.Frag) (f : Addr) (fd : FuncData) : Prop := FunD K "__init__" "Graph.__init__" (defArgs sInit) (defBody sInit) (defScope sInit) [] [] f fd
abbrev FnE (K : PySem.W.Frag) (f : Addr) (fd : FuncData) : Prop := FunD K "__eq__" "Graph.__eq__" (defArgs sEq) (defBody sEq) (defScope sEq) [] [] f fd
theorem ok_need {fF : Addr} {fdF : FuncData} (F : FnP K "need_leaves" sNeed f fd) (T : Ki.Tx mg) (FF : FnP K "is_from" sFrom fF fdF) (gF : mg "is_from" = some (.ref fF)) : FnOk P w K mg base CX0 2 f fd ["leaves"] spNeed := by
  have GF : FnOk P w K mg base CX0 1 fF fdF ["value", "least"] (spFrom K) := ok_from FF T
  have bF : Binds K fdF ["value", "least"] [] := FF.bindsN fun _ _ _ _ _ _ us hl => match us, hl with | [_, _], _ => rfl
  refine F.ok scNeed (fun vs H Q E h => ?_) (fun cdv A outer s H vs Q E hr h => ?_)
  · obtain ⟨n, rfl, _⟩ := h
    rfl
  · obtain ⟨n, rfl, hn, q⟩ := h
    refine ⟨_, PSs.nox (pss_one (ps_if (pt_not (pt_val (pe_call GF hr (by rfl) gF FF.kp bF .nil pass0 (pa_cons (pv 0) (pa_cons pe_int pa_nil))))) (pss_one ps_never) pss_nil)), ?_⟩
    refine ⟨_, rfl, _, _, .int n, rfl, .int n, _, rfl, ?_⟩
    exact iteNS hn q
theorem ok_gates {fR fB : Addr} {fdR fdB : FuncData} (F : FnP K "are_gates" sGates f fd) (T : Ki.Tx mg) (FR : FnP K "is_row" sRow fR fdR) (gR : mg "is_row" = some (.ref fR)) (FB : FnP K "is_row_between" sRowB fB fdB) (gB : mg "is_row_between" = some (.ref fB))
    {fW : Addr} {fdW : FuncData} (FW : FnP K "is_between" sBetween fW fdW) (gW : mg "is_between" = some (.ref fW)) : FnOk P w K mg base CX0 3 f fd ["leaves", "value"] (spGates K) := by
  have GR : FnOk P w K mg base CX0 1 fR fdR ["value"] (spRow K) := ok_row FR T
  have GB : FnOk P w K mg base CX0 2 fB fdB ["value", "many", "least", "most"] (spRowB K) := ok_rowB FB T FW gW FR gR
  have bR : Binds K fdR ["value"] [] := FR.bindsN fun _ _ _ _ _ _ us hl => match us, hl with | [_], _ => rfl
  have bB : Binds K fdB ["value", "many", "least", "most"] [] := FB.bindsN fun _ _ _ _ _ _ us hl => match us, hl with | [_, _, _, _], _ => rfl
  refine F.ok scGates (fun vs H Q E h => ?_) (fun cdv A outer s H vs Q E hr h => ?_)
  · obtain ⟨n, v, d, rfl, _⟩ := h
    rfl
  · obtain ⟨n, v, d, rfl, hd, hz, hzz, q⟩ := h
    have hr1 := hr.mono (j := 1) (by decide)
    cases hd with
    | lst hs ha =>
      rename_i a vs ds
      have hlen := dps_len ha
      refine ⟨_, PSs.nox (pss_cons (ps_if (pt_not (pt_val (pe_call GR hr1 (by rfl) gR FR.kp bR .nil pass0 (pa_cons (pv 1) pa_nil)))) (pss_one (ps_ret pe_bl)) pss_nil)
        (pss_cons (ps_set (i := 2) scGates.nd rfl (Or.inl rfl) (pe_op op_add (pe_op op_mul pe_int (pv 0)) pe_int))
        (pss_cons (ps_for PassesOwn.never rfl (pi_list (pv 1)) (pg_name (i := 3) scGates.nd rfl (Or.inl rfl))
          (pss_cons (ps_if (pt_not (pt_val (pe_call GB hr (by rfl) gB FB.kp bB .nil pass0 (pa_cons (pv 3) (pa_cons pe_int (pa_cons pe_int (pa_cons (pv 2) pa_nil))))))) (pss_one (ps_ret pe_bl)) pss_nil)
          (pss_one (ps_aug (i := 2) scGates.nd rfl (Or.inl rfl) pe_int ip_add))))
        (pss_one (ps_ret pe_bl))))), ?_⟩
      refine ⟨_, rfl, _, _, rfl, .lst hs ha, fun H1 s1 => ⟨_, rfl, iteF ?_⟩⟩
      refine ⟨_, rfl, _, _, rfl, rfl, .inl ⟨by decide, by decide⟩, _, _, rfl, rfl, ?_⟩
      refine ⟨_, rfl, a, rfl, ⟨_, s1.seq hs⟩, for_list (K := K) (a := a) (xs := vs) (fun i σ H2 => ∃ v : Option V, σ = [some (.int n), some (.ref a), some (.int (2 * n + 1 + 2 * i)), v] ∧ Same H1 H2 ∧ goB (2 * n + 1) ds = goB (2 * n + 1 + 2 * i) (ds.drop i))
        ⟨none, start_eq n a, Same.refl _, by rw [List.drop_zero]; exact congrArg (fun z => goB z ds) (start_int n)⟩ (fun i σ H2 _ ⟨_, _, s2, _⟩ => s2.seq (s1.seq hs)) ?_ ?_⟩
      · rintro i v σ H2 hi ⟨w0, rfl, s2, e2⟩
        obtain ⟨e, he, hv⟩ := dps_get ha hi
        have hm : e ∈ ds := List.mem_of_getElem? he
        have hdrop : ds.drop i = e :: ds.drop (i + 1) := by
          obtain ⟨hlt, e5⟩ := List.getElem?_eq_some_iff.mp he
          rw [← e5]
          exact List.drop_eq_getElem_cons hlt
        rw [hdrop] at e2
        refine ⟨_, rfl, _, rfl, _, _, _, _, e, rfl, dp_same (s1.trans s2) hv, hzz e hm, fun H3 s3 => ⟨_, rfl, ?_⟩⟩
        cases er : rowB e 2 0 (2 * n + 1 + 2 * i) with
        | false =>
          refine iteT ?_
          have e4 : gatesB n (.list ds) = false := by
            show (true && goB (2 * n + 1) ds) = false
            rw [e2]
            show (rowB e 2 0 (2 * n + 1 + 2 * i) && goB _ _) = false
            rw [er]
            rfl
          show Q (V.bl false) H3
          rw [← e4]
          exact q _ ((s1.trans s2).trans s3)
        | true =>
          refine iteF ?_
          refine ⟨_, rfl, _, _, rfl, rfl, some v, ?_, s2.trans s3, ?_⟩
          · show _ = _
            have e5 : 2 * n + 1 + 2 * (i : Int) + 2 = 2 * n + 1 + 2 * ((i + 1 : Nat) : Int) := by omega
            rw [← e5]
            rfl
          · rw [e2]
            show (rowB e 2 0 (2 * n + 1 + 2 * i) && goB _ _) = _
            rw [er]
            have e5 : 2 * n + 1 + 2 * (i : Int) + 2 = 2 * n + 1 + 2 * ((i + 1 : Nat) : Int) := by omega
            rw [← e5]
            rfl
      · rintro σ H2 ⟨w0, rfl, s2, e2⟩
        rw [hlen, List.drop_length] at e2
        have e4 : gatesB n (.list ds) = true := by
          show (true && goB (2 * n + 1) ds) = true
          rw [e2]
          rfl
        show Q (V.bl true) H2
        rw [← e4]
        exact q _ (s1.trans s2)
    | tup hs ha =>
      rename_i a vs ds
      have hlen := dps_len ha
      refine ⟨_, PSs.nox (pss_cons (ps_if (pt_not (pt_val (pe_call GR hr1 (by rfl) gR FR.kp bR .nil pass0 (pa_cons (pv 1) pa_nil)))) (pss_one (ps_ret pe_bl)) pss_nil)
        (pss_cons (ps_set (i := 2) scGates.nd rfl (Or.inl rfl) (pe_op op_add (pe_op op_mul pe_int (pv 0)) pe_int))
        (pss_cons (ps_for PassesOwn.never rfl (pi_tup (pv 1)) (pg_name (i := 3) scGates.nd rfl (Or.inl rfl))
          (pss_cons (ps_if (pt_not (pt_val (pe_call GB hr (by rfl) gB FB.kp bB .nil pass0 (pa_cons (pv 3) (pa_cons pe_int (pa_cons pe_int (pa_cons (pv 2) pa_nil))))))) (pss_one (ps_ret pe_bl)) pss_nil)
          (pss_one (ps_aug (i := 2) scGates.nd rfl (Or.inl rfl) pe_int ip_add))))
        (pss_one (ps_ret pe_bl))))), ?_⟩
      refine ⟨_, rfl, _, _, rfl, .tup hs ha, fun H1 s1 => ⟨_, rfl, iteF ?_⟩⟩
      refine ⟨_, rfl, _, _, rfl, rfl, .inl ⟨by decide, by decide⟩, _, _, rfl, rfl, ?_⟩
      refine ⟨_, rfl, a, rfl, ⟨_, seqT_same s1 hs⟩, for_tup (K := K) (a := a) (xs := vs) (fun i σ H2 => ∃ v : Option V, σ = [some (.int n), some (.ref a), some (.int (2 * n + 1 + 2 * i)), v] ∧ Same H1 H2 ∧ goB (2 * n + 1) ds = goB (2 * n + 1 + 2 * i) (ds.drop i))
        ⟨none, start_eq n a, Same.refl _, by rw [List.drop_zero]; exact congrArg (fun z => goB z ds) (start_int n)⟩ (fun i σ H2 _ ⟨_, _, s2, _⟩ => seqT_same s2 (seqT_same s1 hs)) ?_ ?_⟩
      · rintro i v σ H2 hi ⟨w0, rfl, s2, e2⟩
        obtain ⟨e, he, hv⟩ := dps_get ha hi
        have hm : e ∈ ds := List.mem_of_getElem? he
        have hdrop : ds.drop i = e :: ds.drop (i + 1) := by
          obtain ⟨hlt, e5⟩ := List.getElem?_eq_some_iff.mp he
          rw [← e5]
          exact List.drop_eq_getElem_cons hlt
        rw [hdrop] at e2
        refine ⟨_, rfl, _, rfl, _, _, _, _, e, rfl, dp_same (s1.trans s2) hv, hzz e hm, fun H3 s3 => ⟨_, rfl, ?_⟩⟩
        cases er : rowB e 2 0 (2 * n + 1 + 2 * i) with
        | false =>
          refine iteT ?_
          have e4 : gatesB n (.tuple ds) = false := by
            show (true && goB (2 * n + 1) ds) = false
            rw [e2]
            show (rowB e 2 0 (2 * n + 1 + 2 * i) && goB _ _) = false
            rw [er]
            rfl
          show Q (V.bl false) H3
          rw [← e4]
          exact q _ ((s1.trans s2).trans s3)
        | true =>
          refine iteF ?_
          refine ⟨_, rfl, _, _, rfl, rfl, some v, ?_, s2.trans s3, ?_⟩
          · show _ = _
            have e5 : 2 * n + 1 + 2 * (i : Int) + 2 = 2 * n + 1 + 2 * ((i + 1 : Nat) : Int) := by omega
            rw [← e5]
            rfl
          · rw [e2]
            show (rowB e 2 0 (2 * n + 1 + 2 * i) && goB _ _) = _
            rw [er]
            have e5 : 2 * n + 1 + 2 * (i : Int) + 2 = 2 * n + 1 + 2 * ((i + 1 : Nat) : Int) := by omega
            rw [← e5]
            rfl
      · rintro σ H2 ⟨w0, rfl, s2, e2⟩
        rw [hlen, List.drop_length] at e2
        have e4 : gatesB n (.tuple ds) = true := by
          show (true && goB (2 * n + 1) ds) = true
          rw [e2]
          rfl
        show Q (V.bl true) H2
        rw [← e4]
        exact q _ (s1.trans s2)
    | non =>
      refine ⟨_, PSs.nox (pss_cons (ps_if (pt_not (pt_val (pe_call GR hr1 (by rfl) gR FR.kp bR .nil pass0 (pa_cons (pv 1) pa_nil)))) (pss_one (ps_ret pe_bl)) pss_nil)
        (pss_cons (ps_set (i := 2) scGates.nd rfl (Or.inl rfl) (pe_op op_add (pe_op op_mul pe_int (pv 0)) pe_int))
        (pss_cons (ps_for PassesOwn.never rfl (pi_list (pv 1)) (pg_name (i := 3) scGates.nd rfl (Or.inl rfl))
          (pss_cons (ps_if (pt_not (pt_val (pe_call GB hr (by rfl) gB FB.kp bB .nil pass0 (pa_cons (pv 3) (pa_cons pe_int (pa_cons pe_int (pa_cons (pv 2) pa_nil))))))) (pss_one (ps_ret pe_bl)) pss_nil)
          (pss_one (ps_aug (i := 2) scGates.nd rfl (Or.inl rfl) pe_int ip_add))))
        (pss_one (ps_ret pe_bl))))), ?_⟩
      exact ⟨_, rfl, _, _, rfl, .non, fun H1 s1 => ⟨_, rfl, iteT (q _ s1)⟩⟩
    | bl b =>
      refine ⟨_, PSs.nox (pss_cons (ps_if (pt_not (pt_val (pe_call GR hr1 (by rfl) gR FR.kp bR .nil pass0 (pa_cons (pv 1) pa_nil)))) (pss_one (ps_ret pe_bl)) pss_nil)
        (pss_cons (ps_set (i := 2) scGates.nd rfl (Or.inl rfl) (pe_op op_add (pe_op op_mul pe_int (pv 0)) pe_int))
        (pss_cons (ps_for PassesOwn.never rfl (pi_list (pv 1)) (pg_name (i := 3) scGates.nd rfl (Or.inl rfl))
          (pss_cons (ps_if (pt_not (pt_val (pe_call GB hr (by rfl) gB FB.kp bB .nil pass0 (pa_cons (pv 3) (pa_cons pe_int (pa_cons pe_int (pa_cons (pv 2) pa_nil))))))) (pss_one (ps_ret pe_bl)) pss_nil)
          (pss_one (ps_aug (i := 2) scGates.nd rfl (Or.inl rfl) pe_int ip_add))))
        (pss_one (ps_ret pe_bl))))), ?_⟩
      exact ⟨_, rfl, _, _, rfl, .bl b, fun H1 s1 => ⟨_, rfl, iteT (q _ s1)⟩⟩
    | int i =>
      refine ⟨_, PSs.nox (pss_cons (ps_if (pt_not (pt_val (pe_call GR hr1 (by rfl) gR FR.kp bR .nil pass0 (pa_cons (pv 1) pa_nil)))) (pss_one (ps_ret pe_bl)) pss_nil)
        (pss_cons (ps_set (i := 2) scGates.nd rfl (Or.inl rfl) (pe_op op_add (pe_op op_mul pe_int (pv 0)) pe_int))
        (pss_cons (ps_for PassesOwn.never rfl (pi_list (pv 1)) (pg_name (i := 3) scGates.nd rfl (Or.inl rfl))
          (pss_cons (ps_if (pt_not (pt_val (pe_call GB hr (by rfl) gB FB.kp bB .nil pass0 (pa_cons (pv 3) (pa_cons pe_int (pa_cons pe_int (pa_cons (pv 2) pa_nil))))))) (pss_one (ps_ret pe_bl)) pss_nil)
          (pss_one (ps_aug (i := 2) scGates.nd rfl (Or.inl rfl) pe_int ip_add))))
        (pss_one (ps_ret pe_bl))))), ?_⟩
      exact ⟨_, rfl, _, _, rfl, .int i, fun H1 s1 => ⟨_, rfl, iteT (q _ s1)⟩⟩
    | str x =>
      refine ⟨_, PSs.nox (pss_cons (ps_if (pt_not (pt_val (pe_call GR hr1 (by rfl) gR FR.kp bR .nil pass0 (pa_cons (pv 1) pa_nil)))) (pss_one (ps_ret pe_bl)) pss_nil)
        (pss_cons (ps_set (i := 2) scGates.nd rfl (Or.inl rfl) (pe_op op_add (pe_op op_mul pe_int (pv 0)) pe_int))
        (pss_cons (ps_for PassesOwn.never rfl (pi_list (pv 1)) (pg_name (i := 3) scGates.nd rfl (Or.inl rfl))
          (pss_cons (ps_if (pt_not (pt_val (pe_call GB hr (by rfl) gB FB.kp bB .nil pass0 (pa_cons (pv 3) (pa_cons pe_int (pa_cons pe_int (pa_cons (pv 2) pa_nil))))))) (pss_one (ps_ret pe_bl)) pss_nil)
          (pss_one (ps_aug (i := 2) scGates.nd rfl (Or.inl rfl) pe_int ip_add))))
        (pss_one (ps_ret pe_bl))))), ?_⟩
      exact ⟨_, rfl, _, _, rfl, .str x, fun H1 s1 => ⟨_, rfl, iteT (q _ s1)⟩⟩
theorem ok_init {fN fA : Addr} {fdN fdA : FuncData} (F : FnI K f fd) (T : Tx K mg C) (GN : FnOk P w K mg base CX0 2 fN fdN ["leaves"] spNeed) (gN : mg "need_leaves" = some (.ref fN)) (kN : PySem.W.keepIn K (.ref fN) = true) (bN : Binds K fdN ["leaves"] [])
    (GA : FnOk P w K mg base CX0 3 fA fdA ["leaves", "value"] (spGates K)) (gA : mg "are_gates" = some (.ref fA)) (kA : PySem.W.keepIn K (.ref fA) = true) (bA : Binds K fdA ["leaves", "value"] []) : FnOk P w K mg base CX0 4 f fd ["self", "leaves", "gates"] (spInit K C) := by
  refine F.ok scInit (fun vs H Q E h => ?_) (fun cdv A outer s H vs Q E hr h => ?_)
  · obtain ⟨p, dx, n, v, gs, rfl, _⟩ := h
    rfl
  · obtain ⟨p, dx, n, v, gs, rfl, hp, hn, hv, hz, hok, q⟩ := h
    have hr2 := hr.mono (j := 2) (by decide)
    obtain ⟨d, d1, d2, d3, d4⟩ := row_dp hv
    obtain ⟨r, vs, rfl, hs, ha⟩ := id hv
    rcases hs with hs | hs
    · refine ⟨_, PSs.nox (pss_cons (ps_expr (pe_call GN hr2 (by rfl) gN kN bN .nil pass0 (pa_cons (pv 1) pa_nil)))
        (pss_cons (ps_if (pt_not (pt_val (pe_call GA hr (by rfl) gA kA bA .nil pass0 (pa_cons (pv 1) (pa_cons (pv 2) pa_nil))))) (pss_one ps_never) pss_nil)
        (pss_cons (ps_fld (pv 0) (pv 1) rfl)
        (pss_one (ps_fld (pv 0) (pe_callTy call_tuple_of (by rfl) T.ki.tuple (by decide +kernel) (pa_cons
          (pe_lc (own := [("pair", 3)]) (g := gName 3) (tt := tYes) rfl scInit.nd (pi_list (pv 2)) (blkOk_by (N := inN) (sc := defScope sInit) (by decide +kernel)) (fun _ _ _ _ _ => pg_name (i := 3) scInit.nd rfl (Or.inl rfl)) (fun _ _ _ _ _ => pts_nil)
            (fun _ _ _ _ _ => pe_callTy (T := "tuple") (r := rTupOf K) (by exact call_tuple_of) (by rfl) T.ki.tuple (by decide +kernel) (pa_cons (pv 3) pa_nil))) pa_nil)) rfl))))), ?_⟩
      refine ⟨_, rfl, n, rfl, hn, ?_⟩
      refine ⟨_, rfl, _, rfl, n, _, d, rfl, d1, by omega, d3, fun H1 s1 => ⟨_, rfl, ?_⟩⟩
      rw [d4, hok]
      refine iteF ?_
      have hp1 := s1 _ _ hp
      refine ⟨_, rfl, _, rfl, p, C, dx, _, rfl, hp1, T.cl, T.nL, (by show 0 < 1000; decide), ?_⟩
      have hrp : ∀ {b : Addr} {u : HO}, H b = some u → (∀ C dx fs, u ≠ .ins C dx fs) → (upd H1 p (.ins C dx (putF "leaves" (.int n) []))) b = some u := fun {b u} e ne => by
        rw [upd_ne (fun z => by rw [z, hp] at e; cases e; exact ne _ _ _ rfl)]
        exact s1 _ _ e
      have hs3 : SqL K (upd H1 p (.ins C dx (putF "leaves" (.int n) []))) r vs := by
        rcases hs with (h | ⟨o, h⟩) | h
        · exact .inl (.inl (hrp h (by intro C dx fs z; cases z)))
        · exact .inl (.inr ⟨o, hrp h (by intro C dx fs z; cases z)⟩)
        · exact .inr h
      have pr3 : ∀ {v : V} {z : Int × Int}, Pr K H v z → Pr K (upd H1 p (.ins C dx (putF "leaves" (.int n) []))) v z := by
        rintro v z ⟨q, e, h⟩
        refine ⟨q, e, ?_⟩
        rcases h with ((h | ⟨o, h⟩) | h) | ((h | ⟨o, h⟩) | h)
        · exact .inl (.inl (.inl (hrp h (by intro C dx fs z; cases z))))
        · exact .inl (.inl (.inr ⟨o, hrp h (by intro C dx fs z; cases z)⟩))
        · exact .inl (.inr h)
        · exact .inr (.inl (.inl (hrp h (by intro C dx fs z; cases z))))
        · exact .inr (.inl (.inr ⟨o, hrp h (by intro C dx fs z; cases z)⟩))
        · exact .inr (.inr h)
      have hp3 : (upd H1 p (.ins C dx (putF "leaves" (.int n) []))) p = some (.ins C dx (putF "leaves" (.int n) [])) := upd_same
      have out3 : ∀ b o, H b = some o → b ≠ p → (upd H1 p (.ins C dx (putF "leaves" (.int n) []))) b = some o := fun b o e ne => by
        rw [upd_ne ne]
        exact s1 _ _ e
      generalize (upd H1 p (.ins C dx (putF "leaves" (.int n) []))) = H3 at hs3 pr3 hp3 out3 ⊢
      refine ⟨_, rfl, r, rfl, ⟨_, hs3⟩, fun D nD => ?_⟩
      refine lc_list (K := K) (a := r) (xs := vs) (fun i H4 => Same H3 H4 ∧ ∃ ys, H4 D = some (.lst ys) ∧ All2 (Pt K H4) ys (gs.take i)) ⟨same_new nD, [], upd_same, .nil⟩ (fun i H4 _ ⟨s4, _⟩ => s4.seq hs3) ?_ ?_
      · rintro i v H4 hi ⟨s4, ys, h4, a4⟩
        obtain ⟨z, hz1, hz2⟩ := ha.get hi
        obtain ⟨q0, rfl, hq⟩ := (pr3 hz2).same s4
        have lys : ys.length < sizeLine := by
          rw [a4.len, List.length_take]
          exact Nat.lt_of_le_of_lt (Nat.min_le_right _ _) (Nat.lt_of_le_of_lt hz (by decide))
        have keep : ∀ {H5 : Hp} {zs : List V}, Same H4 H5 → Same H3 (upd H5 D (.lst zs)) := fun {H5 zs} s5 b o e => by
          rw [upd_ne (ne_of_none e nD)]
          exact s5 _ _ (s4 _ _ e)
        refine ⟨rfl, yes_of ?_⟩
        rcases hq with hq | hq
        · refine ⟨_, rfl, q0, _, rfl, .inl ⟨hq, fun l nl => ?_⟩⟩
          have s5 : Same H4 (upd H4 l (.tup [.int z.1, .int z.2])) := same_new nl
          refine ⟨_, s5 _ _ h4, lys, keep s5, _, upd_same, ?_⟩
          rw [take_more hz1]
          have fi : Firm (upd H4 l (.tup [.int z.1, .int z.2])) (upd (upd H4 l (.tup [.int z.1, .int z.2])) D (.lst (ys ++ [.ref l]))) := Firm.upd (s5 _ _ h4) rfl
          exact (a4.imp fun _ _ h => (h.firm (Firm.of s5)).firm fi).snoc ⟨l, rfl, firm_seq fi (SqT.of upd_same)⟩
        · refine ⟨_, rfl, q0, _, rfl, .inr ⟨hq, ?_⟩⟩
          refine ⟨_, h4, lys, keep (Same.refl _), _, upd_same, ?_⟩
          rw [take_more hz1]
          have fi : Firm H4 (upd H4 D (.lst (ys ++ [.ref q0]))) := Firm.upd h4 rfl
          exact (a4.imp fun _ _ h => h.firm fi).snoc ⟨q0, rfl, firm_seq fi hq⟩
      · rintro H4 ⟨s4, ys, h4, a4⟩
        rw [ha.len, List.take_length] at a4
        refine ⟨D, ys, rfl, .inl ⟨SqL.of h4, fun g ng => ?_⟩⟩
        have hp4 := s4 _ _ hp3
        have s5 : Same H4 (upd H4 g (.tup ys)) := same_new ng
        refine ⟨_, rfl, p, C, dx, _, rfl, s5 _ _ hp4, T.cl, T.nG, (by show 1 < 1000; decide), ?_⟩
        refine q _ (fun b o e ne => ?_) ⟨dx, g, upd_same, ys, ?_, ?_⟩
        · rw [upd_ne ne]
          exact s5 _ _ (s4 _ _ (out3 b o e ne))
        · have ngp : g ≠ p := fun e => by
            rw [e, hp4] at ng
            cases ng
          exact SqT.of (by rw [upd_ne ngp, upd_same])
        · refine a4.imp fun _ _ h => ?_
          obtain ⟨q1, e1, h1⟩ := h.firm (Firm.of s5)
          refine ⟨q1, e1, ?_⟩
          rcases h1 with (h | ⟨o, h⟩) | h
          · exact .inl (.inl (by rw [upd_ne (fun e => by rw [e, s5 _ _ hp4] at h; cases h)]; exact h))
          · exact .inl (.inr ⟨o, by rw [upd_ne (fun e => by rw [e, s5 _ _ hp4] at h; cases h)]; exact h⟩)
          · exact .inr h
    · refine ⟨_, PSs.nox (pss_cons (ps_expr (pe_call GN hr2 (by rfl) gN kN bN .nil pass0 (pa_cons (pv 1) pa_nil)))
        (pss_cons (ps_if (pt_not (pt_val (pe_call GA hr (by rfl) gA kA bA .nil pass0 (pa_cons (pv 1) (pa_cons (pv 2) pa_nil))))) (pss_one ps_never) pss_nil)
        (pss_cons (ps_fld (pv 0) (pv 1) rfl)
        (pss_one (ps_fld (pv 0) (pe_callTy call_tuple_of (by rfl) T.ki.tuple (by decide +kernel) (pa_cons
          (pe_lc (own := [("pair", 3)]) (g := gName 3) (tt := tYes) rfl scInit.nd (pi_tup (pv 2)) (blkOk_by (N := inN) (sc := defScope sInit) (by decide +kernel)) (fun _ _ _ _ _ => pg_name (i := 3) scInit.nd rfl (Or.inl rfl)) (fun _ _ _ _ _ => pts_nil)
            (fun _ _ _ _ _ => pe_callTy (T := "tuple") (r := rTupOf K) (by exact call_tuple_of) (by rfl) T.ki.tuple (by decide +kernel) (pa_cons (pv 3) pa_nil))) pa_nil)) rfl))))), ?_⟩
      refine ⟨_, rfl, n, rfl, hn, ?_⟩
      refine ⟨_, rfl, _, rfl, n, _, d, rfl, d1, by omega, d3, fun H1 s1 => ⟨_, rfl, ?_⟩⟩
      rw [d4, hok]
      refine iteF ?_
      have hp1 := s1 _ _ hp
      refine ⟨_, rfl, _, rfl, p, C, dx, _, rfl, hp1, T.cl, T.nL, (by show 0 < 1000; decide), ?_⟩
      have hrp : ∀ {b : Addr} {u : HO}, H b = some u → (∀ C dx fs, u ≠ .ins C dx fs) → (upd H1 p (.ins C dx (putF "leaves" (.int n) []))) b = some u := fun {b u} e ne => by
        rw [upd_ne (fun z => by rw [z, hp] at e; cases e; exact ne _ _ _ rfl)]
        exact s1 _ _ e
      have hs3 : SqT K (upd H1 p (.ins C dx (putF "leaves" (.int n) []))) r vs := by
        rcases hs with (h | ⟨o, h⟩) | h
        · exact .inl (.inl (hrp h (by intro C dx fs z; cases z)))
        · exact .inl (.inr ⟨o, hrp h (by intro C dx fs z; cases z)⟩)
        · exact .inr h
      have pr3 : ∀ {v : V} {z : Int × Int}, Pr K H v z → Pr K (upd H1 p (.ins C dx (putF "leaves" (.int n) []))) v z := by
        rintro v z ⟨q, e, h⟩
        refine ⟨q, e, ?_⟩
        rcases h with ((h | ⟨o, h⟩) | h) | ((h | ⟨o, h⟩) | h)
        · exact .inl (.inl (.inl (hrp h (by intro C dx fs z; cases z))))
        · exact .inl (.inl (.inr ⟨o, hrp h (by intro C dx fs z; cases z)⟩))
        · exact .inl (.inr h)
        · exact .inr (.inl (.inl (hrp h (by intro C dx fs z; cases z))))
        · exact .inr (.inl (.inr ⟨o, hrp h (by intro C dx fs z; cases z)⟩))
        · exact .inr (.inr h)
      have hp3 : (upd H1 p (.ins C dx (putF "leaves" (.int n) []))) p = some (.ins C dx (putF "leaves" (.int n) [])) := upd_same
      have out3 : ∀ b o, H b = some o → b ≠ p → (upd H1 p (.ins C dx (putF "leaves" (.int n) []))) b = some o := fun b o e ne => by
        rw [upd_ne ne]
        exact s1 _ _ e
      generalize (upd H1 p (.ins C dx (putF "leaves" (.int n) []))) = H3 at hs3 pr3 hp3 out3 ⊢
      refine ⟨_, rfl, r, rfl, ⟨_, hs3⟩, fun D nD => ?_⟩
      refine lc_tup (K := K) (a := r) (xs := vs) (fun i H4 => Same H3 H4 ∧ ∃ ys, H4 D = some (.lst ys) ∧ All2 (Pt K H4) ys (gs.take i)) ⟨same_new nD, [], upd_same, .nil⟩ (fun i H4 _ ⟨s4, _⟩ => seqT_same s4 hs3) ?_ ?_
      · rintro i v H4 hi ⟨s4, ys, h4, a4⟩
        obtain ⟨z, hz1, hz2⟩ := ha.get hi
        obtain ⟨q0, rfl, hq⟩ := (pr3 hz2).same s4
        have lys : ys.length < sizeLine := by
          rw [a4.len, List.length_take]
          exact Nat.lt_of_le_of_lt (Nat.min_le_right _ _) (Nat.lt_of_le_of_lt hz (by decide))
        have keep : ∀ {H5 : Hp} {zs : List V}, Same H4 H5 → Same H3 (upd H5 D (.lst zs)) := fun {H5 zs} s5 b o e => by
          rw [upd_ne (ne_of_none e nD)]
          exact s5 _ _ (s4 _ _ e)
        refine ⟨rfl, yes_of ?_⟩
        rcases hq with hq | hq
        · refine ⟨_, rfl, q0, _, rfl, .inl ⟨hq, fun l nl => ?_⟩⟩
          have s5 : Same H4 (upd H4 l (.tup [.int z.1, .int z.2])) := same_new nl
          refine ⟨_, s5 _ _ h4, lys, keep s5, _, upd_same, ?_⟩
          rw [take_more hz1]
          have fi : Firm (upd H4 l (.tup [.int z.1, .int z.2])) (upd (upd H4 l (.tup [.int z.1, .int z.2])) D (.lst (ys ++ [.ref l]))) := Firm.upd (s5 _ _ h4) rfl
          exact (a4.imp fun _ _ h => (h.firm (Firm.of s5)).firm fi).snoc ⟨l, rfl, firm_seq fi (SqT.of upd_same)⟩
        · refine ⟨_, rfl, q0, _, rfl, .inr ⟨hq, ?_⟩⟩
          refine ⟨_, h4, lys, keep (Same.refl _), _, upd_same, ?_⟩
          rw [take_more hz1]
          have fi : Firm H4 (upd H4 D (.lst (ys ++ [.ref q0]))) := Firm.upd h4 rfl
          exact (a4.imp fun _ _ h => h.firm fi).snoc ⟨q0, rfl, firm_seq fi hq⟩
      · rintro H4 ⟨s4, ys, h4, a4⟩
        rw [ha.len, List.take_length] at a4
        refine ⟨D, ys, rfl, .inl ⟨SqL.of h4, fun g ng => ?_⟩⟩
        have hp4 := s4 _ _ hp3
        have s5 : Same H4 (upd H4 g (.tup ys)) := same_new ng
        refine ⟨_, rfl, p, C, dx, _, rfl, s5 _ _ hp4, T.cl, T.nG, (by show 1 < 1000; decide), ?_⟩
        refine q _ (fun b o e ne => ?_) ⟨dx, g, upd_same, ys, ?_, ?_⟩
        · rw [upd_ne ne]
          exact s5 _ _ (s4 _ _ (out3 b o e ne))
        · have ngp : g ≠ p := fun e => by
            rw [e, hp4] at ng
            cases ng
          exact SqT.of (by rw [upd_ne ngp, upd_same])
        · refine a4.imp fun _ _ h => ?_
          obtain ⟨q1, e1, h1⟩ := h.firm (Firm.of s5)
          refine ⟨q1, e1, ?_⟩
          rcases h1 with (h | ⟨o, h⟩) | h
          · exact .inl (.inl (by rw [upd_ne (fun e => by rw [e, s5 _ _ hp4] at h; cases h)]; exact h))
          · exact .inl (.inr ⟨o, by rw [upd_ne (fun e => by rw [e, s5 _ _ hp4] at h; cases h)]; exact h⟩)
          · exact .inr h
theorem ok_eq (F : FnE K f fd) (T : Tx K mg C) : FnOk P w K mg base CX0 1 f fd ["self", "other"] (spEqG K C) := by
  refine F.ok scEq (fun vs H Q E h => ?_) (fun cdv A outer s H vs Q E hr h => ?_)
  · obtain ⟨p, v, n, gs, rfl, _⟩ := h
    rfl
  · obtain ⟨p, v, n, gs, rfl, hp, q⟩ := h
    obtain ⟨dx, g, h1, h2⟩ := hp
    refine ⟨_, PSs.nox (pss_one (ps_ret (pe_and (pe_callB call_isi (by rfl) T.ki.isi (by decide +kernel) (pa_cons (pv 1) (pa_cons (pe_glob (v := V.ref C) (by rfl) T.mgC rfl) pa_nil)))
      (pe_and (pe_cmpR op_eq (pe_fld (pv 0) rfl) (pe_fld (pv 1) rfl) (nomark _)) (pe_one (pe_cmpR (op_eqD hr.units) (pe_fld (pv 0) rfl) (pe_fld (pv 1) rfl) (nomark _))))))), ?_⟩
    rcases q with ⟨q, n', gs', rfl, hq, k⟩ | ⟨t, xs, rfl, ht, k⟩
    · obtain ⟨dy, g', e1, e2⟩ := hq
      refine ⟨_, rfl, _, _, _, _, _, rfl, .own _, .base (T.met e1), T.own, _, rfl, iteT ?_⟩
      refine ⟨_, rfl, p, C, dx, _, _, rfl, h1, T.cl, T.nL, flds_L _ _, _, rfl, q, C, dy, _, _, rfl, e1, T.cl, T.nL, flds_L _ _, rfl, _, rfl, ite2 (fun c => ?_) (fun c => ?_)⟩
      · refine ⟨_, rfl, p, C, dx, _, _, rfl, h1, T.cl, T.nG, flds_G _ _, _, rfl, q, C, dy, _, _, rfl, e1, T.cl, T.nG, flds_G _ _, _, _, h2.dp, e2.dp, ?_, ?_, ?_⟩
        · exact shaped_gD gs
        · exact shaped_gD gs'
        · have e : n = n' := V.int.inj (of_decide_eq_true c)
          rw [decide_eq_true e] at k
          exact k
      · have e : ¬ n = n' := fun z => c (decide_eq_true (congrArg V.int z))
        rw [decide_eq_false e] at k
        exact k
    · exact ⟨_, rfl, _, _, _, _, _, rfl, .own _, ty_tup ht, T.tup, _, rfl, iteF k⟩
end
end Gr
namespace No
open PySem PySem.Spec PyProof.Rows L2 Pen Dat Ki Fi Gr
/-! ## Values of nodes and literals -/
/-- abs, as its rule tells it -/
def ab (z : Int) : Int := if z < 0 then -z else z
def lit (f : List Int) (a : Int) : Int := ab (f.getD (a / 2).toNat 0 - a % 2)
def step (f : List Int) (p : Int × Int) : List Int := f ++ [lit f p.1 * lit f p.2]
def vals (bs : List Int) (gs : List (Int × Int)) : List Int := gs.foldl step (0 :: bs)
def B01 (f : List Int) : Prop := ∀ z ∈ f, z = 0 ∨ z = 1
theorem getD_01 {f : List Int} (h : B01 f) (j : Nat) : f.getD j 0 = 0 ∨ f.getD j 0 = 1 := by
  rw [List.getD_eq_getElem?_getD]
  cases e : f[j]? with
  | none => exact .inl rfl
  | some z => exact h z (List.mem_of_getElem? e)
theorem lit_01 {f : List Int} (h : B01 f) (a : Int) : lit f a = 0 ∨ lit f a = 1 := by
  have h1 := getD_01 h (a / 2).toNat
  have h2 : a % 2 = 0 ∨ a % 2 = 1 := by omega
  unfold lit ab
  rcases h1 with e1 | e1 <;> rcases h2 with e2 | e2 <;> rw [e1, e2] <;> decide
theorem mul_01 {x y : Int} (hx : x = 0 ∨ x = 1) (hy : y = 0 ∨ y = 1) : x * y = 0 ∨ x * y = 1 := by
  rcases hx with rfl | rfl <;> rcases hy with rfl | rfl <;> decide
theorem step_01 {f : List Int} (h : B01 f) (p : Int × Int) : B01 (step f p) := fun z hz => by
  rcases List.mem_append.mp hz with q | q
  · exact h z q
  · rw [List.mem_singleton.mp q]
    exact mul_01 (lit_01 h _) (lit_01 h _)
theorem foldl_len : ∀ (gs : List (Int × Int)) (f : List Int), (gs.foldl step f).length = f.length + gs.length
  | [], f => rfl
  | p :: r, f => by
    show (r.foldl step (step f p)).length = _
    rw [foldl_len r]
    unfold step
    rw [List.length_append]
    show f.length + 1 + r.length = f.length + (r.length + 1)
    omega
theorem foldl_01 : ∀ (gs : List (Int × Int)) {f : List Int}, B01 f → B01 (gs.foldl step f)
  | [], _, h => h
  | p :: r, _, h => foldl_01 r (step_01 h p)
theorem vals_take (bs : List Int) {gs : List (Int × Int)} {i : Nat} {p : Int × Int} (h : gs[i]? = some p) : vals bs (gs.take (i + 1)) = step (vals bs (gs.take i)) p := by
  unfold vals
  rw [take_more h, List.foldl_append]
  rfl
theorem vals_len (bs : List Int) (gs : List (Int × Int)) : (vals bs gs).length = bs.length + 1 + gs.length := by
  unfold vals
  rw [foldl_len]
  rfl
theorem vals_01 {bs : List Int} (gs : List (Int × Int)) (h : B01 bs) : B01 (vals bs gs) :=
  foldl_01 gs fun z hz => by
    rcases List.mem_cons.mp hz with rfl | hz
    · exact .inl rfl
    · exact h z hz
/-- the literals of gate i are of nodes ahead -/
theorem okG_at : ∀ {gs : List (Int × Int)} {m : Int} {i : Nat} {p : Int × Int}, okG m gs = true → gs[i]? = some p → (0 ≤ p.1 ∧ p.1 ≤ m + 2 * i) ∧ 0 ≤ p.2 ∧ p.2 ≤ m + 2 * i
  | [], _, _, _, _, e => by simp at e
  | q :: r, m, 0, p, h, e => by
    simp at e
    subst e
    unfold okG within at h
    simp only [Bool.and_eq_true, decide_eq_true_eq] at h
    obtain ⟨⟨⟨a, b⟩, c, d⟩, _⟩ := h
    exact ⟨⟨a, by omega⟩, c, by omega⟩
  | q :: r, m, i + 1, p, h, e => by
    simp at e
    unfold okG at h
    rw [Bool.and_eq_true] at h
    obtain ⟨⟨a, b⟩, c, d⟩ := okG_at h.2 e
    exact ⟨⟨a, by omega⟩, c, by omega⟩
theorem half_lt {a m : Int} (h0 : 0 ≤ a) (h : a ≤ 2 * m + 1) : (a / 2).toNat < (m + 1).toNat := by omega
/-- x ^ (a & 1), x a bit -/
theorem flip_bit {x a : Int} (hx : x = 0 ∨ x = 1) : Builtin.bitXor x (Builtin.bitAnd a 1) = ab (x - a % 2) := by
  have e := bitAnd_m1 a
  rw [e]
  have h2 : a % 2 = 0 ∨ a % 2 = 1 := by omega
  rcases hx with rfl | rfl <;> rcases h2 with e2 | e2 <;> rw [e2] <;> decide
theorem and_bits {x y : Int} (hx : x = 0 ∨ x = 1) (hy : y = 0 ∨ y = 1) : Builtin.bitAnd x y = x * y := by
  rcases hx with rfl | rfl <;> rcases hy with rfl | rfl <;> decide
theorem getD_of {f : List Int} {j : Nat} (h : j < f.length) : (f.map V.int)[j]? = some (.int (f.getD j 0)) := by
  rw [List.getElem?_map, List.getD_eq_getElem?_getD, List.getElem?_eq_getElem h]
  rfl
/-- a row of ints, list or tuple -/
def SeqI (K : PySem.W.Frag) (H : Hp) (v : V) (bs : List Int) : Prop := ∃ r, v = .ref r ∧ (SqL K H r (bs.map V.int) ∨ SqT K H r (bs.map V.int))
theorem SeqI.same {K : PySem.W.Frag} {H H' : Hp} {v : V} {bs : List Int} (s : Same H H') (h : SeqI K H v bs) : SeqI K H' v bs := by
  obtain ⟨r, e, h⟩ := h
  exact ⟨r, e, h.elim (fun h => .inl (s.seq h)) fun h => .inr (seqT_same s h)⟩
theorem bet_all {bs : List Int} (h : B01 bs) : ((bs.map PyData.int).all fun e => betD e 0 1) = true := by
  rw [List.all_map, List.all_eq_true]
  intro z hz
  rcases h z hz with rfl | rfl <;> rfl
theorem seqI_dp {K : PySem.W.Frag} {H : Hp} {v : V} {bs : List Int} (h : SeqI K H v bs) (hb : B01 bs) : ∃ d, Dp K H v d ∧ (rowsD d).length = bs.length ∧ rowB d (bs.length : Int) 0 1 = true := by
  have e : ∀ l : List PyData, l = bs.map PyData.int → (true && (decide (((l.length : Nat) : Int) = bs.length) && l.all fun e => betD e 0 1)) = true := by
    rintro l rfl
    rw [bet_all hb, List.length_map, decide_eq_true rfl]
    rfl
  obtain ⟨r, rfl, h | h⟩ := h
  · exact ⟨_, .lst h (ints_dp bs), List.length_map .., e _ rfl⟩
  · exact ⟨_, .tup h (ints_dp bs), List.length_map .., e _ rfl⟩
def spNode (K : PySem.W.Frag) (C : Addr) : Sp := fun vs H Q _ => ∃ (p : Addr) (v : V) (gs : List (Int × Int)) (bs : List Int), vs = [.ref p, v] ∧ GraphAt K C H p bs.length gs ∧ SeqI K H v bs ∧ B01 bs ∧ okG (2 * bs.length + 1) gs = true ∧ bs.length ≤ 500 ∧ gs.length ≤ 500 ∧
  ∀ (H' : Hp) (t : Addr), Same H H' → SqT K H' t ((vals bs gs).map V.int) → Q (.ref t) H'
def spLit (K : PySem.W.Frag) : Sp := fun vs H Q _ => ∃ (t : Addr) (xs : List V) (a : Int) (v : V), vs = [.ref t, .int a] ∧ SqT K H t xs ∧ 0 ≤ a ∧ xs[(a / 2).toNat]? = some v ∧
  ((v = .non ∧ Q .non H) ∨ ∃ x : Int, v = .int x ∧ (x = 0 ∨ x = 1) ∧ Q (.int (ab (x - a % 2))) H)
section
variable {P : Program} {w : World} {K : PySem.W.Frag} {mg : Str → Option Value} {base : Heap} {f C : Addr} {fd : FuncData}
abbrev noN : List Str := ["graph", "bits", "found", "one", "other"]
end
end No
namespace Lf
open PySem PySem.Spec PyProof.Rows L2 Pen Dat Ki Fi Gr No
/-! ## The law's own functions -/
structure Tx (mg : Str → Option Value) : Prop where
  pen : Pen.Txt mg
  abs : mg "abs" = none
  range : mg "range" = none
  tuple : mg "tuple" = none
def longer (rs : List (List Int)) : List (List Int) := rs.flatMap fun r => [r ++ [0], r ++ [1]]
def rowsM : Nat → List (List Int)
  | 0 => [[]]
  | n + 1 => longer (rowsM n)
theorem longer_cons (r : List Int) (rs : List (List Int)) : longer (r :: rs) = (r ++ [0]) :: (r ++ [1]) :: longer rs := rfl
theorem longer_app (rs ts : List (List Int)) : longer (rs ++ ts) = longer rs ++ longer ts := List.flatMap_append
theorem longer_len : ∀ rs : List (List Int), (longer rs).length = 2 * rs.length
  | [] => rfl
  | r :: rs => by
    rw [longer_cons, List.length_cons, List.length_cons, longer_len rs, List.length_cons]
    omega
theorem longer_mem : ∀ {rs : List (List Int)} {n : Nat}, (∀ r ∈ rs, r.length = n ∧ B01 r) → ∀ r ∈ longer rs, r.length = n + 1 ∧ B01 r
  | [], _, _, r, h => by cases h
  | t :: rs, n, hr, r, h => by
    have ht := hr t List.mem_cons_self
    rw [longer_cons] at h
    have one : ∀ z : Int, (z = 0 ∨ z = 1) → (t ++ [z]).length = n + 1 ∧ B01 (t ++ [z]) := fun z hz => ⟨by rw [List.length_append, ht.1]; rfl, fun y hy => by
      rcases List.mem_append.mp hy with q | q
      · exact ht.2 y q
      · rw [List.mem_singleton.mp q]
        exact hz⟩
    rcases List.mem_cons.mp h with rfl | h
    · exact one 0 (.inl rfl)
    · rcases List.mem_cons.mp h with rfl | h
      · exact one 1 (.inr rfl)
      · exact longer_mem (fun r hr2 => hr r (List.mem_cons_of_mem _ hr2)) r h
theorem rowsM_mem : ∀ (n : Nat), ∀ r ∈ rowsM n, r.length = n ∧ B01 r
  | 0, r, h => by
    rw [List.mem_singleton.mp h]
    exact ⟨rfl, fun z hz => by cases hz⟩
  | n + 1, r, h => longer_mem (rowsM_mem n) r h
theorem rowsM_len : ∀ n : Nat, (rowsM n).length = 2 ^ n
  | 0 => rfl
  | n + 1 => by
    show (longer (rowsM n)).length = _
    rw [longer_len, rowsM_len n, Nat.pow_succ, Nat.mul_comm]
theorem okG_snoc : ∀ {gs : List (Int × Int)} {m : Int} {p : Int × Int}, okG m gs = true → 0 ≤ p.1 → p.1 ≤ m + 2 * gs.length → 0 ≤ p.2 → p.2 ≤ m + 2 * gs.length → okG m (gs ++ [p]) = true
  | [], m, p, _, a, b, c, d => by
    show ((within p.1 m && within p.2 m) && true) = true
    unfold within
    have b' : p.1 ≤ m := by simpa using b
    have d' : p.2 ≤ m := by simpa using d
    rw [decide_eq_true a, decide_eq_true b', decide_eq_true c, decide_eq_true d']
    rfl
  | q :: r, m, p, h, a, b, c, d => by
    unfold okG at h
    rw [Bool.and_eq_true] at h
    show ((within q.1 m && within q.2 m) && okG (m + 2) (r ++ [p])) = true
    rw [h.1, okG_snoc h.2 a (by rw [List.length_cons] at b; omega) c (by rw [List.length_cons] at d; omega)]
    rfl
def spBit (K : PySem.W.Frag) : Sp := fun vs H Q _ => ∃ (l : Addr) (xs : List Int) (a : Int), vs = [.ref l, .int a] ∧ SqL K H l (xs.map V.int) ∧ 0 ≤ a ∧ (a / 2).toNat < xs.length ∧ Q (.int (lit xs a)) H
def spValues (K : PySem.W.Frag) : Sp := fun vs H Q _ => ∃ (u : V) (g r : Addr) (gs : List (Int × Int)) (bs : List Int), vs = [u, .ref g, .ref r] ∧ GT K H g gs ∧ SqT K H r (bs.map V.int) ∧ B01 bs ∧ okG (2 * bs.length + 1) gs = true ∧ bs.length ≤ 500 ∧ gs.length ≤ 1000 ∧
  ∀ (H' : Hp) (l : Addr), Same H H' → H l = none → H' l = some (.lst ((vals bs gs).map V.int)) → Q (.ref l) H'
def spDrawn (K : PySem.W.Frag) : Sp := fun vs H Q _ => ∃ (p c : Addr) (k : Nat) (n m : Int), vs = [.ref p, .int n, .int m] ∧ PenC H p c k ∧ k ≤ 100000000000 ∧ 0 ≤ n ∧ n ≤ 100 ∧ 0 ≤ m ∧ m ≤ 100 ∧
  ∀ (H' : Hp) (g : Addr) (gs : List (Int × Int)), PenC H' p c (k + 2 * m.toNat) → But p H H' → GT K H' g gs → okG (2 * n + 1) gs = true → gs.length = m.toNat → Q (.ref g) H'
def spLonger (K : PySem.W.Frag) : Sp := fun vs H Q _ => ∃ (l : Addr) (ws : List V) (rs : List (List Int)), vs = [.ref l, .int 2] ∧ SqL K H l ws ∧ All2 (Tu K H) ws rs ∧ rs.length ≤ 2100 ∧ (∀ r ∈ rs, r.length ≤ 100) ∧
  ∀ (H' : Hp) (l' : Addr) (zs : List V), Same H H' → H' l' = some (.lst zs) → All2 (Tu K H') zs (longer rs) → Q (.ref l') H'
def spRows (K : PySem.W.Frag) : Sp := fun vs H Q _ => ∃ (m : Int), vs = [.int m] ∧ 0 ≤ m ∧ m ≤ 11 ∧
  ∀ (H' : Hp) (l : Addr) (ws : List V), Same H H' → H' l = some (.lst ws) → All2 (Tu K H') ws (rowsM m.toNat) → Q (.ref l) H'
section
variable {P : Program} {w : World} {K : PySem.W.Frag} {mg : Str → Option Value} {base : Heap} {f C : Addr} {fd : FuncData}
abbrev vaN : List Str := ["_law_leaves", "_law_gates", "_law_bits", "_law_found", "_law_one", "_law_two"]
abbrev drN : List Str := ["_law_pen_here", "_law_leaves", "_law_many", "_law_gates", "_law_k", "_law_ahead"]
abbrev loN : List Str := ["_law_rows_here", "_law_many", "_law_found", "_law_row", "_law_number_here"]
theorem scBit : FnScope ["_law_found", "_law_literal"] ["_law_found", "_law_literal"] (defScope sBit) := ⟨rfl, rfl, rfl, by decide +kernel, rfl, by decide +kernel, by decide +kernel⟩
theorem scValues : FnScope vaN ["_law_leaves", "_law_gates", "_law_bits"] (defScope sValues) := ⟨rfl, rfl, rfl, by decide +kernel, rfl, by decide +kernel, by decide +kernel⟩
theorem scLonger : FnScope loN ["_law_rows_here", "_law_many"] (defScope sLonger) := ⟨rfl, rfl, rfl, by decide +kernel, rfl, by decide +kernel, by decide +kernel⟩
theorem scRows : FnScope ["_law_many", "_law_rows_here", "_law_k"] ["_law_many"] (defScope sRows) := ⟨rfl, rfl, rfl, by decide +kernel, rfl, by decide +kernel, by decide +kernel⟩
theorem ok_bit (F : FnP K "_law_bit" sBit f fd) (T : Tx mg) : FnOk P w K mg base CX0 1 f fd ["_law_found", "_law_literal"] (spBit K) := by
  refine F.ok scBit (fun vs H Q E h => ?_) (fun cdv A outer s H vs Q E hr h => ?_)
  · obtain ⟨l, xs, a, rfl, _⟩ := h
    rfl
  · obtain ⟨l, xs, a, rfl, hl, ha, hz, q⟩ := h
    refine ⟨_, PSs.nox (pss_one (ps_ret (pe_callB call_abs (by rfl) T.abs (by decide +kernel) (pa_cons (pe_op op_sub (pe_ix ix_list (pv 0) (pe_op op_fdiv (pv 1) pe_int) (fun _ _ => rfl))
      (pe_op op_mod (pe_callTy call_int1 (by rfl) T.pen.int (by decide +kernel) (pa_cons (pv 1) pa_nil)) pe_int)) pa_nil)))), ?_⟩
    have e : a / 2 = (((a / 2).toNat : Nat) : Int) := by omega
    exact ⟨_, rfl, _, rfl, _, _, rfl, rfl, ⟨by decide, by decide⟩, l, _, _, _, rfl, rfl, hl, at_of e (getD_of hz), _, rfl, .inl ⟨_, rfl, _, _, rfl, rfl, (by show (0 : Int) < 2; decide), _, _, rfl, rfl, _, rfl, q⟩⟩
theorem ok_values {fB : Addr} {fdB : FuncData} (F : FnP K "_law_values" sValues f fd) (T : Tx mg) (FB : FnP K "_law_bit" sBit fB fdB) (gB : mg "_law_bit" = some (.ref fB)) : FnOk P w K mg base CX0 2 f fd ["_law_leaves", "_law_gates", "_law_bits"] (spValues K) := by
  have GB : FnOk P w K mg base CX0 1 fB fdB ["_law_found", "_law_literal"] (spBit K) := ok_bit FB T
  have bB : Binds K fdB ["_law_found", "_law_literal"] [] := FB.bindsN fun _ _ _ _ _ _ us hl => match us, hl with | [_, _], _ => rfl
  refine F.ok scValues (fun vs H Q E h => ?_) (fun cdv A outer s H vs Q E hr h => ?_)
  · obtain ⟨u, g, r, gs, bs, rfl, _⟩ := h
    rfl
  · obtain ⟨u, g, r, gs, bs, rfl, hG, hB, hb, hok, hz1, hz2, q⟩ := h
    obtain ⟨ps, hg, ha⟩ := id hG
    refine ⟨_, PSs.nox (pss_cons (ps_set (i := 3) scValues.nd rfl (Or.inl rfl) (pe_op op_cat (pe_lst (pa_cons pe_int pa_nil)) (pe_callTy call_list_of (by rfl) T.pen.list (by decide +kernel) (pa_cons (pv 2) pa_nil))))
      (pss_cons (ps_for PassesOwn.never rfl (pi_tup (pv 1)) (pg_tup rfl (pgs_cons (pg_name (i := 4) scValues.nd rfl (Or.inl rfl)) (pgs_cons (pg_name (i := 5) scValues.nd rfl (Or.inl rfl)) pgs_nil)))
        (pss_one (ps_expr (pe_bm PySem.F.plainAttrs_list PySem.F.slot_list_append PySem.F.type_list_append mt_append (pv 3) (pa_cons (pe_op op_mul
          (pe_call GB hr (by rfl) gB FB.kp bB .nil pass0 (pa_cons (pv 3) (pa_cons (pv 4) pa_nil)))
          (pe_call GB hr (by rfl) gB FB.kp bB .nil pass0 (pa_cons (pv 3) (pa_cons (pv 5) pa_nil)))) pa_nil)))))
      (pss_one (ps_ret (pv 3))))), ?_⟩
    refine ⟨(by show 1 ≤ sizeLine; decide), fun l1 n1 => ?_⟩
    have s1 : Same H (upd H l1 (.lst [.int 0])) := same_new n1
    refine ⟨_, rfl, r, _, rfl, .inr (seqT_same s1 hB), fun l2 n2 => ?_⟩
    have s2 := same_new (u := .lst (bs.map V.int)) n2
    refine ⟨_, _, _, _, rfl, rfl, s2 _ _ upd_same, upd_same, ?_, fun l n3 => ?_⟩
    · rw [List.length_map]
      show 1 + bs.length ≤ sizeLine
      exact Nat.le_trans (by omega : 1 + bs.length ≤ 501) (by decide)
    have s3 := same_new (u := .lst ([V.int 0] ++ bs.map V.int)) n3
    have s123 := s1.trans (s2.trans s3)
    have nl : H l = none := (s1.trans s2).free n3
    generalize hH : upd _ l _ = H1 at s123
    have h1 : H1 l = some (.lst ((vals bs []).map V.int)) := by
      rw [← hH, upd_same]
      rfl
    clear hH s3 n3
    refine ⟨_, rfl, g, rfl, ⟨_, seqT_same s123 hg⟩, for_tup (K := K) (a := g) (xs := ps)
      (fun i σ H2 => ∃ x y : Option V, σ = [some u, some (.ref g), some (.ref r), some (.ref l), x, y] ∧ Same H H2 ∧ H2 l = some (.lst ((vals bs (gs.take i)).map V.int)))
      ⟨none, none, rfl, s123, h1⟩ (fun i σ H2 _ ⟨_, _, _, z, _⟩ => seqT_same z hg) ?_ ?_⟩
    · rintro i x σ H2 hi ⟨y, y', rfl, z2, h2⟩
      obtain ⟨z, hz, hx⟩ := ha.get hi
      obtain ⟨q0, rfl, hq⟩ := hx
      have hi2 : i < gs.length := (List.getElem?_eq_some_iff.mp hz).1
      obtain ⟨⟨a0, a1⟩, b0, b1⟩ := okG_at hok hz
      have lv : (vals bs (gs.take i)).length = bs.length + 1 + i := by
        rw [vals_len, List.length_take, Nat.min_eq_left (Nat.le_of_lt hi2)]
      have v01 := vals_01 (gs.take i) hb
      have f1 := lit_01 v01 z.1
      refine ⟨q0, _, rfl, seqT_same z2 hq, rfl, _, _, rfl, _, _, rfl, rfl, ?_⟩
      refine ⟨_, rfl, .inl ⟨rfl, _, SqL.of h2⟩, _, rfl, _, rfl, l, _, z.1, rfl, SqL.of h2, a0, by omega, _, rfl, _, rfl, l, _, z.2, rfl, SqL.of h2, b0, by omega, _, _, rfl, rfl, .inl ?_, l, _, _, rfl, rfl, h2, ?_, ?_⟩
      · rcases f1 with e | e <;> rw [e] <;> exact ⟨by decide, by decide⟩
      · rw [List.length_map, lv]
        exact Nat.lt_of_lt_of_le (by omega : bs.length + 1 + i < 1602) (by decide)
      · refine ⟨_, _, rfl, fun b o e => ?_, ?_⟩
        · rw [upd_ne (ne_of_none e nl)]
          exact z2 _ _ e
        · rw [upd_same, vals_take bs hz]
          unfold No.step
          rw [List.map_append]
          rfl
    · rintro σ H2 ⟨y, y', rfl, z2, h2⟩
      rw [ha.len, List.take_length] at h2
      exact ⟨_, rfl, q _ l z2 nl h2⟩
theorem ok_longer (F : FnP K "_law_longer" sLonger f fd) (T : Tx mg) : FnOk P w K mg base CX0 1 f fd ["_law_rows_here", "_law_many"] (spLonger K) := by
  refine F.ok scLonger (fun vs H Q E h => ?_) (fun cdv A outer s H vs Q E hr h => ?_)
  · obtain ⟨l, ws, rs, rfl, _⟩ := h
    rfl
  · obtain ⟨l, ws, rs, rfl, hl, ha, hzn, hz2, q⟩ := h
    refine ⟨_, PSs.nox (pss_cons (ps_set (i := 2) scLonger.nd rfl (Or.inl rfl) (pe_lst pa_nil))
      (pss_cons (ps_for PassesOwn.never rfl (pi_list (pv 0)) (pg_name (i := 3) scLonger.nd rfl (Or.inr rfl))
        (pss_one (ps_set (i := 2) scLonger.nd rfl (Or.inl rfl) (pe_op op_cat (pv 2) (pe_lc (own := [("_law_number_here", 4)]) (g := gName 4) (tt := tYes) rfl scLonger.nd (pi_range1 (by rfl) T.range (pa_cons (pv 1) pa_nil)) (blkOk_by (N := loN) (sc := defScope sLonger) (by decide +kernel))
          (fun _ _ _ _ _ => pg_name (i := 4) scLonger.nd rfl (Or.inl rfl)) (fun _ _ _ _ _ => pts_nil) (fun _ _ _ _ _ => pe_op (r := rCatA K) (by exact op_catA) (pv 3) (pe_tup (pa_cons (pv 4) pa_nil))))))))
      (pss_one (ps_ret (pv 2))))), ?_⟩
    refine ⟨(by show 0 ≤ sizeLine; decide), fun l0 n0 => ?_⟩
    have s0 := same_new (u := .lst []) n0
    refine ⟨_, rfl, l, rfl, ⟨_, s0.seq hl⟩, for_list (K := K) (a := l) (xs := ws)
      (fun i σ H2 => ∃ (x : Option V) (t : Addr) (zs : List V), σ = [some (.ref l), some (.int 2), some (.ref t), x, none] ∧ Same H H2 ∧ H2 t = some (.lst zs) ∧ All2 (Tu K H2) zs (longer (rs.take i)))
      ⟨none, l0, [], rfl, s0, upd_same, .nil⟩ (fun i σ H2 _ ⟨_, _, _, _, z, _⟩ => z.seq hl) ?_ ?_⟩
    · rintro i x σ H2 hi ⟨y, t, zs, rfl, s2, h2, hz⟩
      obtain ⟨r, hr1, hr2⟩ := ha.get hi
      obtain ⟨q0, rfl, hq⟩ := hr2
      have hq2 : SqT K H2 q0 (r.map V.int) := SqT.of (s2 _ _ hq)
      refine ⟨_, rfl, _, rfl, 2, rfl, by decide, by decide, fun D nD => ?_⟩
      refine lc_range (lo := 0) (n := 2) (fun j H3 => Same H2 H3 ∧ ∃ us, H3 D = some (.lst us) ∧ All2 (Tu K H3) us ((List.range j).map fun (k : Nat) => r ++ [0 + (k : Int)])) ⟨same_new nD, [], upd_same, .nil⟩ ?_ ?_
      · rintro j H3 hj ⟨s3, us, h3, h3a⟩
        have ul : us.length < sizeLine := by
          rw [h3a.len, List.length_map, List.length_range]
          exact Nat.lt_trans hj (by decide)
        have fin : ∀ (t2 : Addr) (H4 : Hp), Same H3 H4 → H4 t2 = some (.tup ((r ++ [0 + (j : Int)]).map V.int)) → ∃ acc, H4 D = some (.lst acc) ∧ acc.length < sizeLine ∧ Same H2 (upd H4 D (.lst (acc ++ [.ref t2]))) ∧
            ∃ us, (upd H4 D (.lst (acc ++ [.ref t2]))) D = some (.lst us) ∧ All2 (Tu K (upd H4 D (.lst (acc ++ [.ref t2])))) us ((List.range (j + 1)).map fun (k : Nat) => r ++ [0 + (k : Int)]) := fun t2 H4 s4 ht => by
          have fi : Firm H4 (upd H4 D (.lst (us ++ [.ref t2]))) := Firm.upd (s4 _ _ h3) rfl
          refine ⟨us, s4 _ _ h3, ul, fun b o e => ?_, us ++ [.ref t2], upd_same, ?_⟩
          · rw [upd_ne (ne_of_none e nD)]
            exact s4 _ _ (s3 _ _ e)
          · rw [List.range_succ, List.map_append]
            exact (h3a.imp fun _ _ h => (h.firm (Firm.of s4)).firm fi).snoc ⟨t2, rfl, fi _ _ ht rfl⟩
        refine ⟨rfl, yes_of ?_⟩
        refine ⟨_, rfl, _, rfl, (by show 1 ≤ sizeLine; decide), fun t1 nt1 => ?_⟩
        have s1 := same_new (u := .tup [V.int (0 + (j : Int))]) nt1
        have hr3 := hz2 r (List.mem_of_getElem? hr1)
        refine ⟨q0, t1, _, _, rfl, rfl, seqT_same (s3.trans s1) hq2, SqT.of upd_same, ?_, fun e => ?_, fun _ e => ?_, fun e _ t2 nt2 => ?_⟩
        · rw [List.length_map]
          exact Nat.le_trans (by show r.length + 1 ≤ 101; omega) (by decide)
        · have er : r = [] := List.map_eq_nil_iff.mp e
          exact fin t1 _ s1 (by rw [er]; exact upd_same)
        · cases e
        · have s2' := same_new (u := .tup (r.map V.int ++ [V.int (0 + (j : Int))])) nt2
          exact fin t2 _ (s1.trans s2') (by rw [List.map_append]; exact upd_same)
      · rintro H3 ⟨s3, us, h3, h3a⟩
        have hu2 : us.length = 2 := by
          rw [h3a.len]
          rfl
        have hzl := hz.len
        have tl : (rs.take i).length ≤ 2100 := by
          rw [List.length_take]
          exact Nat.le_trans (Nat.min_le_right _ _) hzn
        refine ⟨t, D, zs, us, rfl, rfl, s3 _ _ h2, h3, ?_, fun t2 nt2 => ?_⟩
        · rw [hzl, longer_len, hu2]
          exact Nat.le_trans (by omega : 2 * (rs.take i).length + 2 ≤ 4202) (by decide)
        · have s4 := same_new (u := .lst (zs ++ us)) nt2
          refine ⟨_, t2, zs ++ us, rfl, s2.trans (s3.trans s4), upd_same, ?_⟩
          rw [take_more hr1, longer_app]
          exact (hz.imp fun _ _ h => h.firm (Firm.of (s3.trans s4))).append (h3a.imp fun _ _ h => h.firm (Firm.of s4))
    · rintro σ H2 ⟨y, t, zs, rfl, s2, h2, hz⟩
      rw [ha.len, List.take_length] at hz
      exact ⟨_, rfl, q _ t zs s2 h2 hz⟩
theorem ok_rows {fL : Addr} {fdL : FuncData} (F : FnP K "_law_rows" sRows f fd) (T : Tx mg) (FL : FnP K "_law_longer" sLonger fL fdL) (gL : mg "_law_longer" = some (.ref fL)) : FnOk P w K mg base CX0 2 f fd ["_law_many"] (spRows K) := by
  have GL : FnOk P w K mg base CX0 1 fL fdL ["_law_rows_here", "_law_many"] (spLonger K) := ok_longer FL T
  have bL : Binds K fdL ["_law_rows_here", "_law_many"] [] := FL.bindsN fun _ _ _ _ _ _ us hl => match us, hl with | [_, _], _ => rfl
  refine F.ok scRows (fun vs H Q E h => ?_) (fun cdv A outer s H vs Q E hr h => ?_)
  · obtain ⟨m, rfl, _⟩ := h
    rfl
  · obtain ⟨m, rfl, m0, m1, q⟩ := h
    refine ⟨_, PSs.nox (pss_cons (ps_set (i := 1) scRows.nd rfl (Or.inl rfl) (pe_lst (pa_cons (pe_tup pa_nil) pa_nil)))
      (pss_cons (ps_for PassesOwn.never rfl (pi_range1 (by rfl) T.range (pa_cons (pv 0) pa_nil)) (pg_name (i := 2) scRows.nd rfl (Or.inl rfl))
        (pss_one (ps_set (i := 1) scRows.nd rfl (Or.inl rfl) (pe_call GL hr (by rfl) gL FL.kp bL .nil pass0 (pa_cons (pv 1) (pa_cons pe_int pa_nil))))))
      (pss_one (ps_ret (pv 1))))), ?_⟩
    refine ⟨(by show 0 ≤ sizeLine; decide), fun t nt => ⟨(by show 1 ≤ sizeLine; decide), fun l nl => ?_⟩⟩
    have s1 := same_new (u := .tup []) nt
    have s2 := same_new (u := .lst [.ref t]) nl
    refine ⟨_, rfl, m, rfl, ?_, ?_, for_range (lo := 0) (n := m.toNat)
      (fun i σ H2 => ∃ (x : Option V) (l : Addr) (zs : List V), σ = [some (.int m), some (.ref l), x] ∧ Same H H2 ∧ H2 l = some (.lst zs) ∧ All2 (Tu K H2) zs (rowsM i))
      ⟨none, l, [.ref t], rfl, s1.trans s2, upd_same, .cons ⟨t, rfl, s2 _ _ upd_same⟩ .nil⟩ ?_ ?_⟩
    · omega
    · omega
    · rintro i σ H2 hi ⟨x, l, zs, rfl, s3, h3, ha⟩
      have hi7 : i < 11 := by omega
      have hpow : (rowsM i).length ≤ 2100 := by
        rw [rowsM_len]
        exact Nat.le_trans (Nat.pow_le_pow_right (by decide) (by omega : i ≤ 10)) (by decide)
      refine ⟨_, rfl, l, zs, rowsM i, rfl, SqL.of h3, ha, hpow, fun r hr => ?_, fun H4 l' ws s4 h4 ha4 => ?_⟩
      · rw [(rowsM_mem i r hr).1]
        omega
      · exact ⟨_, l', ws, rfl, s3.trans s4, h4, ha4⟩
    · rintro σ H2 ⟨x, l, zs, rfl, s3, h3, ha⟩
      exact ⟨_, rfl, q _ l zs s3 h3 ha⟩
end
end Lf
namespace Rp
open PySem PySem.Spec PyProof.Rows L2 Fi
/-! ## What may be handed to repr -/
structure ROk (d : PyData) : Prop where
  show_ : d.showable = true
  dict : d.hasDict = false
  deep : d.depth ≤ 60
  long : d.shown.length ≤ sizeLine
def Small (i : Int) : Prop := 0 ≤ i ∧ i < 1000
theorem log_small : ∀ n : Nat, n < 1000 → n.log2 < 10 := by decide +kernel
theorem abs_small {i : Int} (h : Small i) : i.natAbs < 1000 := by
  obtain ⟨a, b⟩ := h
  omega
theorem show_small {i : Int} (h : Small i) : (PyData.int i).showable = true := by
  have := log_small _ (abs_small h)
  exact decide_eq_true (Nat.lt_trans this (by decide))
theorem weigh_small {i : Int} (h : Small i) : (PyData.int i).weight ≤ 10 := by
  have := log_small _ (abs_small h)
  show (if i == 0 then 0 else i.natAbs.log2 + 1) ≤ 10
  split <;> omega
theorem short_small {i : Int} (h : Small i) : (PyData.int i).intsShort 13 = true := by
  have := abs_small h
  exact decide_eq_true (PyData.shown_int_le (Nat.lt_trans this (by decide)))
theorem ints_all : ∀ {ns : List Int}, (∀ z ∈ ns, Small z) → PyData.showableAll (ns.map .int) = true ∧ PyData.hasDictAll (ns.map .int) = false ∧ PyData.depthAll (ns.map .int) = 0 ∧ PyData.canLayAll0 (ns.map .int) = true ∧
    PyData.intsShortAll 13 (ns.map .int) = true ∧ PyData.weightAll (ns.map .int) ≤ 11 * ns.length
  | [], _ => ⟨rfl, rfl, rfl, rfl, rfl, Nat.zero_le _⟩
  | z :: r, h => by
    have hz := h z List.mem_cons_self
    obtain ⟨a, b, c, d, e, g⟩ := ints_all (ns := r) fun y hy => h y (List.mem_cons_of_mem _ hy)
    refine ⟨?_, b, ?_, d, ?_, ?_⟩
    · show ((PyData.int z).showable && PyData.showableAll (r.map .int)) = true
      rw [show_small hz, a]
      rfl
    · show max 0 (PyData.depthAll (r.map .int)) = 0
      rw [c]
      rfl
    · show ((PyData.int z).intsShort 13 && PyData.intsShortAll 13 (r.map .int)) = true
      rw [short_small hz, e]
      rfl
    · show (PyData.int z).weight + 1 + PyData.weightAll (r.map .int) ≤ 11 * (r.length + 1)
      have := weigh_small hz
      omega
theorem row_ok {ns : List Int} (h : ∀ z ∈ ns, Small z) (hz : ns.length ≤ 1000) : ROk (.tuple (ns.map .int)) := by
  obtain ⟨a, b, c, d, e, g⟩ := ints_all h
  refine ⟨a, b, by show PyData.depthAll (ns.map .int) + 1 ≤ 60; omega, PyData.shown_fits_of_layable0 (B := 13) (by decide) (by decide) ?_ e⟩
  show ((PyData.canLayAll0 (ns.map .int) && decide (PyData.depthAll (ns.map .int) + 1 ≤ 64)) && decide (PyData.weightAll (ns.map .int) ≤ 2 ^ 20)) = true
  rw [d, decide_eq_true (by omega), decide_eq_true (Nat.le_trans g (Nat.le_trans (Nat.mul_le_mul_left 11 hz) (by decide)))]
  rfl
def SmallP (p : Int × Int) : Prop := Small p.1 ∧ Small p.2
theorem pairs_all : ∀ {gs : List (Int × Int)}, (∀ p ∈ gs, SmallP p) → PyData.showableAll (gs.map pD) = true ∧ PyData.hasDictAll (gs.map pD) = false ∧ PyData.depthAll (gs.map pD) ≤ 1 ∧ PyData.canLayAll0 (gs.map pD) = true ∧
    PyData.intsShortAll 13 (gs.map pD) = true ∧ PyData.weightAll (gs.map pD) ≤ 30 * gs.length
  | [], _ => ⟨rfl, rfl, Nat.zero_le _, rfl, rfl, Nat.zero_le _⟩
  | p :: r, h => by
    obtain ⟨p1, p2⟩ := h p List.mem_cons_self
    obtain ⟨a, b, c, d, e, g⟩ := pairs_all (gs := r) fun y hy => h y (List.mem_cons_of_mem _ hy)
    refine ⟨?_, b, ?_, d, ?_, ?_⟩
    · show (((PyData.int p.1).showable && ((PyData.int p.2).showable && true)) && PyData.showableAll (r.map pD)) = true
      rw [show_small p1, show_small p2, a]
      rfl
    · show max 1 (PyData.depthAll (r.map pD)) ≤ 1
      exact Nat.max_le.mpr ⟨Nat.le_refl _, c⟩
    · show (((PyData.int p.1).intsShort 13 && ((PyData.int p.2).intsShort 13 && true)) && PyData.intsShortAll 13 (r.map pD)) = true
      rw [short_small p1, short_small p2, e]
      rfl
    · show ((PyData.int p.1).weight + 1 + ((PyData.int p.2).weight + 1 + 0)) + 1 + PyData.weightAll (r.map pD) ≤ 30 * (r.length + 1)
      have h1 := weigh_small p1
      have h2 := weigh_small p2
      omega
theorem gates_ok {gs : List (Int × Int)} (h : ∀ p ∈ gs, SmallP p) (hz : gs.length ≤ 1000) : ROk (gD gs) := by
  obtain ⟨a, b, c, d, e, g⟩ := pairs_all h
  refine ⟨a, b, by show PyData.depthAll (gs.map pD) + 1 ≤ 60; omega, PyData.shown_fits_of_layable0 (B := 13) (by decide) (by decide) ?_ e⟩
  show ((PyData.canLayAll0 (gs.map pD) && decide (PyData.depthAll (gs.map pD) + 1 ≤ 64)) && decide (PyData.weightAll (gs.map pD) ≤ 2 ^ 20)) = true
  rw [d, decide_eq_true (by omega), decide_eq_true (Nat.le_trans g (Nat.le_trans (Nat.mul_le_mul_left 30 hz) (by decide)))]
  rfl
theorem shaped_ints {ns : List Int} (h : ∀ z ∈ ns, Small z) : SeqAt.shaped (.list (ns.map .int)) = true ∧ SeqAt.shaped (.tuple (ns.map .int)) = true := by
  obtain ⟨a, b, c, d, e, g⟩ := ints_all h
  have k : (PyData.canLayAll0 (ns.map .int) && decide (PyData.depthAll (ns.map .int) + 1 ≤ 64)) = true := by
    rw [d, decide_eq_true (by omega)]
    rfl
  exact ⟨k, k⟩
theorem eqv_len : ∀ (xs ys : List PyData), PyData.eqvAll xs ys = true → xs.length = ys.length
  | [], [], _ => rfl
  | [], _ :: _, h => by
    unfold PyData.eqvAll at h
    cases h
  | _ :: _, [], h => by
    unfold PyData.eqvAll at h
    cases h
  | x :: xs, y :: ys, h => by
    unfold PyData.eqvAll at h
    exact congrArg Nat.succ (eqv_len xs ys (Bool.and_eq_true_iff.mp h).2)
theorem eqv_self (gs : List (Int × Int)) : PyData.eqv (gD gs) (gD gs) = true := SeqAt.eqv_refl _ (Gr.can_pD gs)
theorem eqv_cut {gs hs : List (Int × Int)} (h : gs.length ≠ hs.length) : PyData.eqv (gD gs) (gD hs) = false := by
  cases e : PyData.eqv (gD gs) (gD hs) with
  | false => rfl
  | true =>
    have e' : PyData.eqvAll (gs.map pD) (hs.map pD) = true := by
      unfold gD PyData.eqv at e
      exact e
    have := eqv_len _ _ e'
    rw [List.length_map, List.length_map] at this
    exact absurd this h
end Rp
namespace Cm
open PySem PySem.Spec PyProof.Rows L2 Fi No
/-! ## Clauses, as mathematics -/
def fl (l : Int) : Int := l + 1 - 2 * (l % 2)
def sgn (l : Int) : Int := if l % 2 = 1 then -(l / 2) else l / 2
def bad (ls : List Int) : Bool := ls.any (fun l => l == 1) || ls.any fun l => ls.any fun m => m == fl l
def Asc (cl : List Int) : Prop := cl.Pairwise fun a b => a.natAbs < b.natAbs
def IsCl (ls cl : List Int) : Prop := Asc cl ∧ ∀ z, z ∈ cl ↔ ∃ l ∈ ls, 1 < l ∧ z = sgn l
theorem asc_ext : ∀ {xs ys : List Int}, Asc xs → Asc ys → (∀ z, z ∈ xs ↔ z ∈ ys) → xs = ys
  | [], [], _, _, _ => rfl
  | [], y :: _, _, _, h => absurd ((h y).mpr List.mem_cons_self) List.not_mem_nil
  | x :: _, [], _, _, h => absurd ((h x).mp List.mem_cons_self) List.not_mem_nil
  | x :: xs, y :: ys, hx, hy, h => by
    unfold Asc at hx hy
    rw [List.pairwise_cons] at hx hy
    have e : x = y := by
      rcases List.mem_cons.mp ((h x).mp List.mem_cons_self) with e | m1
      · exact e
      · rcases List.mem_cons.mp ((h y).mpr List.mem_cons_self) with e | m2
        · exact e.symm
        · have a := hx.1 y m2
          have b := hy.1 x m1
          omega
    subst e
    refine congrArg (x :: ·) (asc_ext hx.2 hy.2 fun z => ⟨fun m => ?_, fun m => ?_⟩)
    · rcases List.mem_cons.mp ((h z).mp (List.mem_cons_of_mem _ m)) with e | m'
      · have := hx.1 z m
        rw [e] at this
        exact absurd this (Nat.lt_irrefl _)
      · exact m'
    · rcases List.mem_cons.mp ((h z).mpr (List.mem_cons_of_mem _ m)) with e | m'
      · have := hy.1 z m
        rw [e] at this
        exact absurd this (Nat.lt_irrefl _)
      · exact m'
theorem isCl_uniq {ls c1 c2 : List Int} (h1 : IsCl ls c1) (h2 : IsCl ls c2) : c1 = c2 := asc_ext h1.1 h2.1 fun z => (h1.2 z).trans (h2.2 z).symm
theorem not_bad {ls : List Int} (h : bad ls = false) : ¬ (1 : Int) ∈ ls ∧ ∀ l ∈ ls, ¬ fl l ∈ ls := by
  unfold bad at h
  rw [Bool.or_eq_false_iff, List.any_eq_false, List.any_eq_false] at h
  refine ⟨fun m => h.1 1 m (by rfl), fun l m m2 => ?_⟩
  have z := h.2 l m
  rw [Bool.not_eq_true, List.any_eq_false] at z
  exact z _ m2 (by simp)
theorem is_bad {ls : List Int} (h : bad ls = true) : (1 : Int) ∈ ls ∨ ∃ l ∈ ls, fl l ∈ ls := by
  unfold bad at h
  rw [Bool.or_eq_true, List.any_eq_true, List.any_eq_true] at h
  rcases h with ⟨l, m, e⟩ | ⟨l, m, e⟩
  · rw [beq_iff_eq] at e
    subst e
    exact .inl m
  · obtain ⟨k, mk, ek⟩ := List.any_eq_true.mp e
    rw [beq_iff_eq] at ek
    subst ek
    exact .inr ⟨l, m, mk⟩
theorem bad_of {ls : List Int} (h : (1 : Int) ∈ ls ∨ ∃ l ∈ ls, fl l ∈ ls) : bad ls = true := by
  cases e : bad ls with
  | true => rfl
  | false =>
    obtain ⟨a, b⟩ := not_bad e
    rcases h with h | ⟨l, m, m2⟩
    · exact absurd h a
    · exact absurd m2 (b l m)
theorem sgn_abs {l : Int} (h : 0 ≤ l) : (sgn l).natAbs = (l / 2).toNat := by
  unfold sgn
  split <;> omega
/-- literals in order, none the opposite of another one: their clause -/
theorem isCl_map {ls ns : List Int} (h0 : ∀ l ∈ ls, 0 ≤ l) (hb : bad ls = false) (hn : ns.Pairwise (· < ·)) (hm : ∀ l, l ∈ ns ↔ l ∈ ls ∧ 1 < l) : IsCl ls (ns.map sgn) := by
  obtain ⟨b1, b2⟩ := not_bad hb
  refine ⟨?_, fun z => ⟨fun h => ?_, ?_⟩⟩
  · unfold Asc
    rw [List.pairwise_map]
    refine hn.imp_of_mem fun {a b} ma mb hab => ?_
    have a0 := (hm a).mp ma
    have c0 := (hm b).mp mb
    rw [sgn_abs (h0 a a0.1), sgn_abs (h0 b c0.1)]
    have ne : ¬ b = fl a := fun e => b2 a a0.1 (e ▸ c0.1)
    unfold fl at ne
    have := a0.2
    omega
  · obtain ⟨l, m, rfl⟩ := List.mem_map.mp h
    exact ⟨l, ((hm l).mp m).1, ((hm l).mp m).2, rfl⟩
  · rintro ⟨l, m, h1, rfl⟩
    exact List.mem_map.mpr ⟨l, (hm l).mpr ⟨m, h1⟩, rfl⟩
/-- nodes in order, each with its sign: the same clause -/
theorem isCl_nodes {ls ns : List Int} (h0 : ∀ l ∈ ls, 0 ≤ l) (hb : bad ls = false) (hn : ns.Pairwise (· < ·)) (hm : ∀ n, n ∈ ns ↔ ∃ l ∈ ls, 1 < l ∧ n = l / 2) :
    IsCl ls (ns.map fun n => if 2 * n ∈ ls then n else -n) := by
  obtain ⟨b1, b2⟩ := not_bad hb
  have val : ∀ l ∈ ls, 1 < l → (if 2 * (l / 2) ∈ ls then l / 2 else -(l / 2)) = sgn l := fun l m h1 => by
    unfold sgn
    by_cases e : l % 2 = 1
    · rw [if_pos e, if_neg]
      intro m2
      refine b2 l m ?_
      have : fl l = 2 * (l / 2) := by
        unfold fl
        omega
      rw [this]
      exact m2
    · rw [if_neg e, if_pos]
      have : 2 * (l / 2) = l := by omega
      rw [this]
      exact m
  refine ⟨?_, fun z => ⟨fun h => ?_, ?_⟩⟩
  · unfold Asc
    rw [List.pairwise_map]
    refine hn.imp_of_mem fun {a b} ma mb hab => ?_
    obtain ⟨l, ml, hl, rfl⟩ := (hm a).mp ma
    obtain ⟨k, mk, hk, rfl⟩ := (hm b).mp mb
    rw [val l ml hl, val k mk hk, sgn_abs (h0 l ml), sgn_abs (h0 k mk)]
    omega
  · obtain ⟨n, m, rfl⟩ := List.mem_map.mp h
    obtain ⟨l, ml, hl, rfl⟩ := (hm n).mp m
    exact ⟨l, ml, hl, val l ml hl⟩
  · rintro ⟨l, m, h1, rfl⟩
    exact List.mem_map.mpr ⟨l / 2, (hm _).mpr ⟨l, m, h1, rfl⟩, val l m h1⟩
def bnd (ls : List Int) : Nat := ls.foldr (fun l b => max l.toNat b) 0 + 1
theorem bnd_lt : ∀ {ls : List Int} {l : Int}, l ∈ ls → l.toNat < bnd ls
  | k :: r, l, h => by
    unfold bnd
    rw [List.foldr_cons]
    rcases List.mem_cons.mp h with rfl | h
    · have := Nat.le_max_left l.toNat (r.foldr (fun l b => max l.toNat b) 0)
      omega
    · have z := bnd_lt h
      unfold bnd at z
      have := Nat.le_max_right k.toNat (r.foldr (fun l b => max l.toNat b) 0)
      omega
def clL (ls : List Int) : List Int := (((List.range (bnd ls)).map fun (l : Nat) => (l : Int)).filter fun l => decide (l ∈ ls ∧ 1 < l)).map sgn
theorem isCl_clL {ls : List Int} (h0 : ∀ l ∈ ls, 0 ≤ l) (hb : bad ls = false) : IsCl ls (clL ls) := by
  refine isCl_map h0 hb (List.Pairwise.filter _ ?_) fun l => ?_
  · rw [List.pairwise_map]
    exact (List.pairwise_lt_range).imp fun h => by omega
  · rw [List.mem_filter, List.mem_map, decide_eq_true_eq]
    refine ⟨fun h => h.2, fun h => ⟨⟨l.toNat, List.mem_range.mpr (bnd_lt h.1), ?_⟩, h⟩⟩
    have := h0 l h.1
    omega
def clM (ls : List Int) : Option (List Int) := if bad ls then none else some (clL ls)
/-! ### what they say -/
def satB (as cl : List Int) : Bool := cl.any fun z => decide (as.getD (z.natAbs - 1) 0 = if z > 0 then 1 else 0)
def litv (as : List Int) (l : Int) : Int := lit (0 :: as) l
theorem litv_01 {as : List Int} (h : B01 as) (l : Int) : litv as l = 0 ∨ litv as l = 1 := lit_01 (fun z hz => by
  rcases List.mem_cons.mp hz with rfl | hz
  · exact .inl rfl
  · exact h z hz) l
theorem getD_tail (as : List Int) {k : Nat} (h : 0 < k) : (0 :: as).getD k 0 = as.getD (k - 1) 0 := by
  obtain ⟨j, rfl⟩ := Nat.exists_eq_succ_of_ne_zero (Nat.pos_iff_ne_zero.mp h)
  rw [List.getD_eq_getElem?_getD, List.getD_eq_getElem?_getD]
  rfl
theorem sgn_lit {as : List Int} (h : B01 as) {l : Int} (h1 : 1 < l) : (as.getD ((sgn l).natAbs - 1) 0 = if sgn l > 0 then 1 else 0) ↔ litv as l = 1 := by
  have g := getD_tail as (k := (l / 2).toNat) (by omega)
  have b := getD_01 h ((l / 2).toNat - 1)
  rw [sgn_abs (by omega)]
  unfold litv lit ab
  rw [g]
  generalize as.getD ((l / 2).toNat - 1) 0 = x at b
  unfold sgn
  by_cases e : l % 2 = 1
  · rw [if_pos e, if_neg (by omega), e]
    rcases b with rfl | rfl <;> decide
  · have e0 : l % 2 = 0 := by omega
    rw [if_neg e, if_pos (by omega), e0]
    rcases b with rfl | rfl <;> decide
theorem litv_zero (as : List Int) : litv as 0 = 0 := rfl
theorem litv_one (as : List Int) : litv as 1 = 1 := rfl
theorem litv_fl {as : List Int} (h : B01 as) {l : Int} (h0 : 0 ≤ l) : litv as (fl l) = 1 - litv as l := by
  have e : fl l / 2 = l / 2 := by
    unfold fl
    omega
  have b : (0 :: as).getD (l / 2).toNat 0 = 0 ∨ (0 :: as).getD (l / 2).toNat 0 = 1 := getD_01 (fun z hz => by
    rcases List.mem_cons.mp hz with rfl | hz
    · exact .inl rfl
    · exact h z hz) _
  unfold litv lit ab
  rw [e]
  have m : l % 2 = 0 ∨ l % 2 = 1 := by omega
  have m2 : fl l % 2 = 1 - l % 2 := by
    unfold fl
    omega
  rw [m2]
  rcases b with b | b <;> rcases m with m | m <;> rw [b, m] <;> decide
theorem sat_cl {as ls cl : List Int} (h : B01 as) (h0 : ∀ l ∈ ls, 0 ≤ l) (h1 : ¬ (1 : Int) ∈ ls) (hc : IsCl ls cl) : satB as cl = true ↔ ∃ l ∈ ls, litv as l = 1 := by
  unfold satB
  rw [List.any_eq_true]
  constructor
  · rintro ⟨z, hz, e⟩
    obtain ⟨l, ml, hl, rfl⟩ := (hc.2 z).mp hz
    exact ⟨l, ml, (sgn_lit h hl).mp (of_decide_eq_true e)⟩
  · rintro ⟨l, ml, e⟩
    have l0 := h0 l ml
    have l1 : 1 < l := by
      rcases Int.lt_trichotomy l 1 with q | q | q
      · have : l = 0 := by omega
        rw [this, litv_zero] at e
        cases e
      · rw [q] at ml
        exact absurd ml h1
      · exact q
    exact ⟨sgn l, (hc.2 _).mpr ⟨l, ml, l1, rfl⟩, decide_eq_true ((sgn_lit h l1).mpr e)⟩
theorem sat_bad {as ls : List Int} (h : B01 as) (h0 : ∀ l ∈ ls, 0 ≤ l) (hb : bad ls = true) : ∃ l ∈ ls, litv as l = 1 := by
  rcases is_bad hb with m | ⟨l, m, m2⟩
  · exact ⟨1, m, litv_one as⟩
  · rcases litv_01 h l with e | e
    · refine ⟨fl l, m2, ?_⟩
      rw [litv_fl h (h0 l m), e]
      rfl
    · exact ⟨l, m, e⟩
/-- a row of literals, as the clause of it says -/
def holds (as ls : List Int) : Prop := match clM ls with
  | none => True
  | some cl => satB as cl = true
theorem holds_iff {as ls : List Int} (h : B01 as) (h0 : ∀ l ∈ ls, 0 ≤ l) : holds as ls ↔ ∃ l ∈ ls, litv as l = 1 := by
  unfold holds clM
  cases e : bad ls with
  | true => exact ⟨fun _ => sat_bad h h0 e, fun _ => trivial⟩
  | false => exact sat_cl h h0 (not_bad e).1 (isCl_clL h0 e)
def three (g : Int) (p : Int × Int) : List (List Int) := [[p.1, g + 1], [p.2, g + 1], [fl p.1, fl p.2, g]]
def clauses (n : Nat) : List (Int × Int) → List (List Int)
  | [] => []
  | p :: r => (three (2 * ((n : Int) + 1)) p).filterMap clM ++ clauses (n + 1) r
theorem gate_iff {as : List Int} {g : Int} {p : Int × Int} (h : B01 as) (h1 : 0 ≤ p.1) (h2 : 0 ≤ p.2) (hg : 0 ≤ g) (he : g % 2 = 0) :
    (∀ cl ∈ (three g p).filterMap clM, satB as cl = true) ↔ litv as g = litv as p.1 * litv as p.2 := by
  have tr : (∀ cl ∈ (three g p).filterMap clM, satB as cl = true) ↔ ∀ ls ∈ three g p, holds as ls := by
    constructor
    · intro q ls m
      unfold holds
      cases e : clM ls with
      | none => exact trivial
      | some cl => exact q cl (List.mem_filterMap.mpr ⟨ls, m, e⟩)
    · intro q cl m
      obtain ⟨ls, m1, e⟩ := List.mem_filterMap.mp m
      have z := q ls m1
      unfold holds at z
      rw [e] at z
      exact z
  have f1 : 0 ≤ fl p.1 := by
    unfold fl
    omega
  have f2 : 0 ≤ fl p.2 := by
    unfold fl
    omega
  have eg : g + 1 = fl g := by
    unfold fl
    omega
  have nn1 : ∀ l ∈ [p.1, g + 1], 0 ≤ l := fun l m => by
    rcases List.mem_cons.mp m with rfl | m
    · exact h1
    · rw [List.mem_singleton.mp m]
      omega
  have nn2 : ∀ l ∈ [p.2, g + 1], 0 ≤ l := fun l m => by
    rcases List.mem_cons.mp m with rfl | m
    · exact h2
    · rw [List.mem_singleton.mp m]
      omega
  have nn3 : ∀ l ∈ [fl p.1, fl p.2, g], 0 ≤ l := fun l m => by
    rcases List.mem_cons.mp m with rfl | m
    · exact f1
    · rcases List.mem_cons.mp m with rfl | m
      · exact f2
      · rw [List.mem_singleton.mp m]
        exact hg
  have k1 := holds_iff h nn1
  have k2 := holds_iff h nn2
  have k3 := holds_iff h nn3
  simp only [List.mem_cons, List.not_mem_nil, or_false, exists_eq_or_imp, exists_eq_left] at k1 k2 k3
  rw [tr]
  simp only [three, List.mem_cons, List.not_mem_nil, or_false, forall_eq_or_imp, forall_eq]
  rw [k1, k2, k3, eg, litv_fl h hg, litv_fl h h1, litv_fl h h2]
  rcases litv_01 h p.1 with a | a <;> rcases litv_01 h p.2 with b | b <;> rcases litv_01 h g with c | c <;> rw [a, b, c] <;> decide
end Cm
namespace Cn
open PySem PySem.Spec PyProof.Rows L2 Fi Gr No Lf Cm
/-! ## Just one assignment, and all rows of bits -/
def fits (as : List Int) (n : Nat) (gs : List (Int × Int)) : Prop := ∀ cl ∈ clauses n gs, satB as cl = true
theorem foldl_pre : ∀ (gs : List (Int × Int)) (f : List Int), (gs.foldl No.step f).take f.length = f
  | [], f => List.take_length
  | p :: r, f => by
    show (r.foldl No.step (No.step f p)).take f.length = f
    have e := foldl_pre r (No.step f p)
    have hl : f.length ≤ (No.step f p).length := by
      unfold No.step
      rw [List.length_append]
      exact Nat.le_add_right _ _
    have e2 : ((r.foldl No.step (No.step f p)).take (No.step f p).length).take f.length = (No.step f p).take f.length := by rw [e]
    rw [List.take_take, Nat.min_eq_left hl] at e2
    rw [e2]
    unfold No.step
    exact List.take_left
theorem getD_take {f : List Int} {j k : Nat} (h : j < k) : (f.take k).getD j 0 = f.getD j 0 := by
  rw [List.getD_eq_getElem?_getD, List.getD_eq_getElem?_getD, List.getElem?_take_of_lt h]
theorem lit_take {f : List Int} {a : Int} {k : Nat} (h0 : 0 ≤ a) (h : (a / 2).toNat < k) : lit (f.take k) a = lit f a := by
  unfold lit
  rw [getD_take h]
theorem take_snoc {as : List Int} {n : Nat} (h : n < as.length) : as.take (n + 1) = as.take n ++ [as.getD n 0] := by
  rw [List.take_succ, List.getD_eq_getElem?_getD, List.getElem?_eq_getElem h]
  rfl
theorem fits_iff : ∀ (gs : List (Int × Int)) (n : Nat) (as : List Int), B01 as → as.length = n + gs.length → okG (2 * (n : Int) + 1) gs = true → (fits as n gs ↔ 0 :: as = gs.foldl No.step (0 :: as.take n))
  | [], n, as, _, hl, _ => by
    have e : as.take n = as := List.take_of_length_le (by simp at hl; omega)
    refine ⟨fun _ => ?_, fun _ cl m => by cases m⟩
    show 0 :: as = 0 :: as.take n
    rw [e]
  | p :: r, n, as, hb, hl, hok => by
    have hl' : as.length = n + 1 + r.length := by
      rw [hl, List.length_cons]
      omega
    have hn : n < as.length := by omega
    obtain ⟨⟨a0, a1⟩, b0, b1⟩ := okG_at (i := 0) (p := p) hok rfl
    have hok2 : okG (2 * ((n + 1 : Nat) : Int) + 1) r = true := by
      unfold okG at hok
      rw [Bool.and_eq_true] at hok
      rw [show 2 * ((n + 1 : Nat) : Int) + 1 = 2 * (n : Int) + 1 + 2 by omega]
      exact hok.2
    have ih := fits_iff r (n + 1) as hb hl' hok2
    have gate := gate_iff (as := as) (g := 2 * ((n : Int) + 1)) (p := p) hb a0 b0 (by omega) (by omega)
    have split : fits as n (p :: r) ↔ litv as (2 * ((n : Int) + 1)) = litv as p.1 * litv as p.2 ∧ fits as (n + 1) r := by
      rw [← gate]
      have ec : clauses n (p :: r) = (three (2 * ((n : Int) + 1)) p).filterMap clM ++ clauses (n + 1) r := rfl
      unfold fits
      rw [ec]
      constructor
      · exact fun h => ⟨fun cl m => h cl (List.mem_append_left _ m), fun cl m => h cl (List.mem_append_right _ m)⟩
      · rintro ⟨h1, h2⟩ cl m
        rcases List.mem_append.mp m with m | m
        · exact h1 cl m
        · exact h2 cl m
    have lg : litv as (2 * ((n : Int) + 1)) = as.getD n 0 := by
      unfold litv lit
      have e1 : (2 * ((n : Int) + 1) / 2).toNat = n + 1 := by omega
      have e2 : 2 * ((n : Int) + 1) % 2 = 0 := by omega
      rw [e1, e2, getD_tail as (by omega : 0 < n + 1)]
      show ab (as.getD n 0 - 0) = _
      rcases getD_01 hb n with q | q <;> rw [q] <;> rfl
    have st : No.step (0 :: as.take n) p = 0 :: as.take n ++ [litv as p.1 * litv as p.2] := by
      unfold No.step
      have e : (0 :: as.take n) = (0 :: as).take (n + 1) := rfl
      rw [e, lit_take a0 (by omega), lit_take b0 (by omega)]
      rfl
    have goal : (p :: r).foldl No.step (0 :: as.take n) = r.foldl No.step (0 :: as.take n ++ [litv as p.1 * litv as p.2]) := by
      show r.foldl No.step (No.step (0 :: as.take n) p) = _
      rw [st]
    have tk := take_snoc hn
    rw [split, goal, lg, ih, tk]
    constructor
    · rintro ⟨e1, e2⟩
      rw [e1] at e2
      exact e2
    · intro e2
      have pre := foldl_pre r (0 :: as.take n ++ [litv as p.1 * litv as p.2])
      rw [← e2] at pre
      have ln : (0 :: as.take n ++ [litv as p.1 * litv as p.2]).length = n + 2 := by
        rw [List.length_append, List.length_cons, List.length_take, Nat.min_eq_left (Nat.le_of_lt hn)]
        rfl
      rw [ln] at pre
      have pre2 : (0 :: as).take (n + 2) = 0 :: as.take n ++ [as.getD n 0] := by
        show 0 :: as.take (n + 1) = _
        rw [tk]
        rfl
      rw [pre2] at pre
      have e1 : as.getD n 0 = litv as p.1 * litv as p.2 := by
        have z := List.append_inj_right' pre rfl
        exact List.head_eq_of_cons_eq z
      refine ⟨e1, ?_⟩
      rw [e1]
      exact e2
/-- the one assignment that has these bits -/
def whole (bs : List Int) (gs : List (Int × Int)) : List Int := (vals bs gs).drop 1
theorem vals_head (bs : List Int) (gs : List (Int × Int)) : vals bs gs = 0 :: whole bs gs := by
  have e := foldl_pre gs (0 :: bs)
  unfold whole
  cases h : vals bs gs with
  | nil =>
    have z := vals_len bs gs
    rw [h] at z
    have z2 : 0 = bs.length + 1 + gs.length := z
    omega
  | cons x r =>
    unfold vals at h
    rw [h] at e
    have : x = 0 := List.head_eq_of_cons_eq e
    rw [this]
    rfl
theorem whole_len (bs : List Int) (gs : List (Int × Int)) : (whole bs gs).length = bs.length + gs.length := by
  unfold whole
  rw [List.length_drop, vals_len]
  omega
theorem whole_01 {bs : List Int} (gs : List (Int × Int)) (h : B01 bs) : B01 (whole bs gs) := fun z hz => vals_01 gs h z (List.mem_of_mem_drop hz)
theorem whole_take (bs : List Int) (gs : List (Int × Int)) : (whole bs gs).take bs.length = bs := by
  have e := foldl_pre gs (0 :: bs)
  have v := vals_head bs gs
  unfold vals at v
  rw [v] at e
  exact List.tail_eq_of_cons_eq e
theorem fits_whole {as bs : List Int} {gs : List (Int × Int)} (hb : B01 as) (hl : as.length = bs.length + gs.length) (hok : okG (2 * (bs.length : Int) + 1) gs = true) : (fits as bs.length gs ∧ as.take bs.length = bs) ↔ as = whole bs gs := by
  rw [fits_iff gs bs.length as hb hl hok]
  constructor
  · rintro ⟨e1, e2⟩
    rw [e2] at e1
    have v := vals_head bs gs
    unfold vals at v
    rw [v] at e1
    exact List.tail_eq_of_cons_eq e1
  · intro e
    have t : as.take bs.length = bs := by
      rw [e]
      exact whole_take bs gs
    refine ⟨?_, t⟩
    rw [t]
    have v := vals_head bs gs
    unfold vals at v
    rw [v, e]
/-! ### all rows of so many bits -/
theorem longer_in : ∀ {rs : List (List Int)} {t : List Int}, t ∈ longer rs ↔ ∃ r ∈ rs, t = r ++ [0] ∨ t = r ++ [1]
  | [], t => ⟨fun h => absurd h List.not_mem_nil, fun ⟨_, h, _⟩ => absurd h List.not_mem_nil⟩
  | r :: rs, t => by
    rw [longer_cons, List.mem_cons, List.mem_cons, longer_in]
    constructor
    · rintro (h | h | ⟨s, m, h⟩)
      · exact ⟨r, List.mem_cons_self, .inl h⟩
      · exact ⟨r, List.mem_cons_self, .inr h⟩
      · exact ⟨s, List.mem_cons_of_mem _ m, h⟩
    · rintro ⟨s, m, h⟩
      rcases List.mem_cons.mp m with rfl | m
      · rcases h with h | h
        · exact .inl h
        · exact .inr (.inl h)
      · exact .inr (.inr ⟨s, m, h⟩)
theorem longer_nd : ∀ {rs : List (List Int)}, rs.Nodup → (longer rs).Nodup
  | [], _ => List.nodup_nil
  | r :: rs, h => by
    rw [List.nodup_cons] at h
    rw [longer_cons, List.nodup_cons, List.nodup_cons, List.mem_cons, longer_in, longer_in]
    have no : ∀ z : Int, ¬ ∃ s ∈ rs, r ++ [z] = s ++ [0] ∨ r ++ [z] = s ++ [1] := fun z ⟨s, m, e⟩ => by
      have : r = s := by
        rcases e with e | e <;> exact List.append_inj_left' e rfl
      rw [this] at h
      exact h.1 m
    refine ⟨fun e => ?_, no 1, longer_nd h.2⟩
    rcases e with e | e
    · have z := List.append_inj_right' e rfl
      cases z
    · exact no 0 e
theorem rowsM_nd : ∀ n : Nat, (rowsM n).Nodup
  | 0 => by
    show [([] : List Int)].Nodup
    rw [List.nodup_cons]
    exact ⟨List.not_mem_nil, List.nodup_nil⟩
  | n + 1 => longer_nd (rowsM_nd n)
theorem rowsM_all : ∀ (n : Nat) (r : List Int), r.length = n → B01 r → r ∈ rowsM n
  | 0, r, h, _ => by
    rw [List.length_eq_zero_iff.mp h]
    exact List.mem_cons_self
  | n + 1, r, h, hb => by
    show r ∈ longer (rowsM n)
    have hne : r ≠ [] := fun e => by
      rw [e] at h
      cases h
    have e := List.dropLast_concat_getLast hne
    have hd : B01 r.dropLast := fun z hz => hb z (List.dropLast_subset r hz)
    have hl := hb _ (List.getLast_mem hne)
    have hm := rowsM_all n r.dropLast (by rw [List.length_dropLast, h]; rfl) hd
    rw [longer_in]
    refine ⟨r.dropLast, hm, ?_⟩
    rcases hl with q | q
    · rw [q] at e
      exact .inl e.symm
    · rw [q] at e
      exact .inr e.symm
theorem filter_one {p : List Int → Bool} {w : List Int} : ∀ {l : List (List Int)}, l.Nodup → w ∈ l → (∀ r ∈ l, p r = true ↔ r = w) → l.filter p = [w]
  | [], _, h, _ => by cases h
  | r :: l, nd, h, hp => by
    rw [List.nodup_cons] at nd
    by_cases e : r = w
    · rw [List.filter_cons_of_pos ((hp r List.mem_cons_self).mpr e), e]
      have none : l.filter p = [] := by
        rw [List.filter_eq_nil_iff]
        intro s m q
        have := (hp s (List.mem_cons_of_mem _ m)).mp q
        rw [this, ← e] at m
        exact nd.1 m
      rw [none]
    · have hr : ¬ p r = true := fun q => e ((hp r List.mem_cons_self).mp q)
      rw [List.filter_cons_of_neg hr]
      rcases List.mem_cons.mp h with q | q
      · exact absurd q.symm e
      · exact filter_one nd.2 q fun s m => hp s (List.mem_cons_of_mem _ m)
end Cn
namespace Bd
open PySem PySem.Spec PyProof.Rows L2 Pen Dat Ki Fi Gr
/-! ## Builders -/
def flp (l : Int) : Int := l + 1 - 2 * (l % 2)
def ix (p : Int × Int) (gs : List (Int × Int)) : Nat := gs.findIdx (fun q => decide (q = p))
def ordP (a b : Int) : Int × Int := if a > b then (a, b) else (b, a)
def gated (n : Int) (gs : List (Int × Int)) (p : Int × Int) : List (Int × Int) × Int := if p ∈ gs then (gs, 2 * (n + ix p gs + 1)) else (gs ++ [p], 2 * (n + gs.length + 1))
theorem xor_one {l : Int} (h : 0 ≤ l) : Builtin.bitXor l 1 = flp l := by
  obtain ⟨n, rfl⟩ := Int.eq_ofNat_of_zero_le h
  rw [Bits.bitXor_pp h (by decide)]
  have z := Bits.nat_xor_add_and n 1
  rw [Nat.and_one_is_mod] at z
  unfold flp
  have e : ((n : Int)).toNat = n := Int.toNat_natCast n
  have e1 : (1 : Int).toNat = 1 := rfl
  rw [e, e1]
  omega
/-- what and_of does -/
def andM (n : Int) (gs : List (Int × Int)) (a b : Int) : List (Int × Int) × Int :=
  if a = 0 ∨ b = 0 ∨ a = flp b then (gs, 0) else if a = 1 then (gs, b) else if b = 1 ∨ a = b then (gs, a) else gated n gs (ordP a b)
def kP (p : Int × Int) : List Key := [.inl p.1, .inl p.2]
/-- a table of pairs' literals -/
def StandM (n : Int) (gs : List (Int × Int)) (kvs : List (List Key × V)) : Prop := kvs.length = gs.length ∧ ∀ p : Int × Int, valV kvs (kP p) = if p ∈ gs then some (.int (2 * (n + ix p gs + 1))) else none
theorem kP_inj {p q : Int × Int} (h : kP p = kP q) : p = q := by
  unfold kP at h
  injection h with a b
  injection b with b _
  exact Prod.ext (Sum.inl.inj a) (Sum.inl.inj b)
theorem ix_mem {p : Int × Int} {gs : List (Int × Int)} {t : List (Int × Int)} (h : p ∈ gs) : ix p (gs ++ t) = ix p gs := by
  unfold ix
  rw [List.findIdx_append]
  have : gs.findIdx (fun q => decide (q = p)) < gs.length := List.findIdx_lt_length_of_exists ⟨p, h, decide_eq_true rfl⟩
  rw [if_pos this]
theorem ix_new {p : Int × Int} {gs : List (Int × Int)} (h : ¬ p ∈ gs) : ix p (gs ++ [p]) = gs.length := by
  unfold ix
  rw [List.findIdx_append]
  have e : gs.findIdx (fun q => decide (q = p)) = gs.length := List.findIdx_eq_length.mpr fun q hq => decide_eq_false fun e => h (e ▸ hq)
  rw [e, if_neg (Nat.lt_irrefl _)]
  have : [p].findIdx (fun q => decide (q = p)) = 0 := by
    rw [List.findIdx_cons, decide_eq_true rfl]
    rfl
  rw [this]
  exact Nat.zero_add _
theorem StandM.put {n : Int} {gs : List (Int × Int)} {kvs : List (List Key × V)} {p : Int × Int} (h : StandM n gs kvs) (hp : ¬ p ∈ gs) : StandM n (gs ++ [p]) (putK kvs (kP p) (.int (2 * (n + gs.length + 1)))) := by
  obtain ⟨h1, h2⟩ := h
  have hv : valV kvs (kP p) = none := by
    rw [h2 p, if_neg hp]
  refine ⟨?_, fun q => ?_⟩
  · rw [putK_new _ hv, List.length_append, List.length_append, h1]
    rfl
  · rw [valV_put]
    by_cases e : q = p
    · subst e
      rw [if_pos rfl, if_pos (List.mem_append_right _ List.mem_cons_self), ix_new hp]
    · rw [if_neg fun z => e (kP_inj z), h2 q]
      by_cases m : q ∈ gs
      · rw [if_pos m, if_pos (List.mem_append_left _ m), ix_mem m]
      · rw [if_neg m, if_neg fun z => (List.mem_append.mp z).elim m fun z => e (List.mem_singleton.mp z)]
structure Tx (K : PySem.W.Frag) (mg : Str → Option Value) (B : Addr) : Prop where
  ki : Ki.Tx mg
  cl : Cls K B
  nL : NoAttr K B "leaves"
  nG : NoAttr K B "gates"
  nS : NoAttr K B "standing"
def fB (n : Int) (gl sd : Addr) : List (Str × V) := putF "standing" (.ref sd) (putF "gates" (.ref gl) (putF "leaves" (.int n) []))
theorem fB_L (n : Int) (gl sd : Addr) : (fB n gl sd).lookup ("leaves" : Str) = some (.int n) := by
  have a : ¬ (("leaves" : Str) = "standing") := by decide +kernel
  have b : ¬ (("leaves" : Str) = "gates") := by decide +kernel
  unfold fB
  rw [lookup_putF, if_neg a, lookup_putF, if_neg b, lookup_putF, if_pos rfl]
theorem fB_G (n : Int) (gl sd : Addr) : (fB n gl sd).lookup ("gates" : Str) = some (.ref gl) := by
  have a : ¬ (("gates" : Str) = "standing") := by decide +kernel
  unfold fB
  rw [lookup_putF, if_neg a, lookup_putF, if_pos rfl]
theorem fB_S (n : Int) (gl sd : Addr) : (fB n gl sd).lookup ("standing" : Str) = some (.ref sd) := by
  unfold fB
  rw [lookup_putF, if_pos rfl]
/-- a builder stands at b, its gates at gl, its table at sd -/
def BAt (K : PySem.W.Frag) (B : Addr) (H : Hp) (b gl sd : Addr) (n : Int) (gs : List (Int × Int)) : Prop :=
  ∃ dx ws kvs, H b = some (.ins B dx (fB n gl sd)) ∧ H gl = some (.lst ws) ∧ All2 (Pt K H) ws gs ∧ H sd = some (.dT kvs) ∧ StandM n gs kvs
/-- all but two objects stand as they stood -/
def But2 (p q : Addr) (H H' : Hp) : Prop := ∀ b o, H b = some o → b ≠ p → b ≠ q → H' b = some o
abbrev sAnd : Stmt := inClass cBuild 2
def spAnd (K : PySem.W.Frag) (B : Addr) : Sp := fun vs H Q _ => ∃ (b gl sd : Addr) (n x y : Int) (gs : List (Int × Int)), vs = [.ref b, .int x, .int y] ∧ BAt K B H b gl sd n gs ∧ gs.length ≤ 5000 ∧ 0 ≤ x ∧ 0 ≤ y ∧
  ∀ H', But2 gl sd H H' → Firm H H' → BAt K B H' b gl sd n (andM n gs x y).1 → Q (.int (andM n gs x y).2) H'
section
variable {P : Program} {w : World} {K : PySem.W.Frag} {mg : Str → Option Value} {base : Heap} {f B : Addr} {fd : FuncData}
theorem scAnd : FnScope ["self", "one", "other", "pair"] ["self", "one", "other"] (defScope sAnd) := ⟨rfl, rfl, rfl, by decide +kernel, rfl, by decide +kernel, by decide +kernel⟩
abbrev FnA (K : PySem.W.Frag) (f : Addr) (fd : FuncData) : Prop := FunD K "and_of" "Builder.and_of" (defArgs sAnd) (defBody sAnd) (defScope sAnd) [] [] f fd
theorem ok_and (F : FnA K f fd) (T : Tx K mg B) : FnOk P w K mg base CX0 1 f fd ["self", "one", "other"] (spAnd K B) := by
  refine F.ok scAnd (fun vs H Q E h => ?_) (fun cdv A outer s H vs Q E hr h => ?_)
  · obtain ⟨b, gl, sd, n, x, y, gs, rfl, _⟩ := h
    rfl
  · obtain ⟨b, gl, sd, n, x, y, gs, rfl, hB, hz, x0, y0, q⟩ := h
    have hu := hu_of hr
    refine ⟨_, PSs.nox (pss_cons (ps_if (PW.pt (pw_or (pt_cmpR op_eq (pv 1) pe_int (nomark _)) (pw_or (pt_cmpR op_eq (pv 2) pe_int (nomark _)) (pw_or1 (pt_cmpR op_eq (pv 1) (pe_op op_xor (pv 2) pe_int) (nomark _)))))) (pss_one (ps_ret pe_int)) pss_nil)
      (pss_cons (ps_if (pt_cmpR op_eq (pv 1) pe_int (nomark _)) (pss_one (ps_ret (pv 2))) pss_nil)
      (pss_cons (ps_if (PW.pt (pw_or (pt_cmpR op_eq (pv 2) pe_int (nomark _)) (pw_or1 (pt_cmpR op_eq (pv 1) (pv 2) (nomark _))))) (pss_one (ps_ret (pv 1))) pss_nil)
      (C8.pss_cut (ps_set (i := 3) scAnd.nd rfl (Or.inl rfl) (pe_ifExp (pt_cmpR op_gt (pv 1) (pv 2) (nomark _)) (pe_tup (pa_cons (pv 1) (pa_cons (pv 2) pa_nil))) (pe_tup (pa_cons (pv 2) (pa_cons (pv 1) pa_nil)))))
      (C8.pss_cut (ps_if (pt_cmp (pc_dnotin hu (pv 3) (pe_fld (pv 0) rfl)))
        (pss_cons (ps_expr (pe_bm PySem.F.plainAttrs_list PySem.F.slot_list_append PySem.F.type_list_append mt_append (pe_fld (pv 0) rfl) (pa_cons (pv 3) pa_nil)))
        (pss_one (ps_dput hu (pe_fld (pv 0) rfl) (pv 3) (pe_op op_mul pe_int (pe_op op_add (pe_fld (pv 0) rfl) (pe_callB call_len_seq (by rfl) T.ki.len PySem.boot_len (pa_cons (pe_fld (pv 0) rfl) pa_nil)))) rfl))) pss_nil)
      (pss_one (ps_ret (pe_dget hu (pe_fld (pv 0) rfl) (pv 3) (fun _ _ => rfl))))))))), ?_⟩
    obtain ⟨dx, ws, kvs, hb, hg, ha, hs, hS⟩ := id hB
    have done : ∀ {r : Int}, andM n gs x y = (gs, r) → Q (.int r) H := fun {r} e => by
      have z := q H (fun _ _ e _ _ => e) (Firm.refl H)
      rw [e] at z
      exact z hB
    have di : ∀ {a b : Int}, decide (V.int a = V.int b) = true → a = b := fun h => V.int.inj (of_decide_eq_true h)
    have dn : ∀ {a b : Int}, ¬ decide (V.int a = V.int b) = true → ¬ a = b := fun h e => h (decide_eq_true (congrArg V.int e))
    refine ⟨_, rfl, rfl, _, rfl, ?_⟩
    refine ite2 (fun c1 => ?_) (fun c1 => ?_)
    · exact iteT (done (if_pos (.inl (di c1))))
    refine ⟨_, rfl, rfl, _, rfl, ?_⟩
    refine ite2 (fun c2 => ?_) (fun c2 => ?_)
    · exact iteT (done (if_pos (.inr (.inl (di c2)))))
    refine ⟨_, rfl, _, rfl, _, _, rfl, rfl, rfl, _, rfl, ?_⟩
    have ex := xor_one y0
    refine ite2 (fun c3 => ?_) (fun c3 => ?_)
    · exact done (if_pos (.inr (.inr ((di c3).trans ex))))
    have n1 : ¬ (x = 0 ∨ y = 0 ∨ x = flp y) := fun h => h.elim (dn c1) fun h => h.elim (dn c2) fun h => dn c3 (h.trans ex.symm)
    refine ⟨_, rfl, rfl, _, rfl, ?_⟩
    refine ite2 (fun c4 => ?_) (fun c4 => ?_)
    · exact ⟨_, rfl, done ((if_neg n1).trans (if_pos (di c4)))⟩
    have n4 := dn c4
    refine ⟨_, rfl, rfl, _, rfl, ?_⟩
    refine ite2 (fun c5 => ?_) (fun c5 => ?_)
    · exact iteT ⟨_, rfl, done ((if_neg n1).trans ((if_neg n4).trans (if_pos (.inl (di c5)))))⟩
    refine ⟨_, rfl, _, rfl, rfl, _, rfl, ?_⟩
    refine ite2 (fun c6 => ?_) (fun c6 => ?_)
    · exact ⟨_, rfl, done ((if_neg n1).trans ((if_neg n4).trans (if_pos (.inr (di c6)))))⟩
    have n5 : ¬ (y = 1 ∨ x = y) := fun h => h.elim (dn c5) (dn c6)
    have eA : andM n gs x y = gated n gs (ordP x y) := (if_neg n1).trans ((if_neg n4).trans (if_neg n5))
    rw [eA] at q
    -- the pair
    generalize ep : ordP x y = pr at q
    refine ⟨fun σ H1 => ∃ t, σ = [some (.ref b), some (.int x), some (.int y), some (.ref t)] ∧ Same H H1 ∧ H1 t = some (.tup [.int pr.1, .int pr.2]), ?_, ?_⟩
    · refine ⟨_, rfl, _, rfl, _, _, rfl, rfl, _, rfl, ?_⟩
      refine ite2 (fun c7 => ?_) (fun c7 => ?_)
      · have e : pr = (x, y) := by
          rw [← ep]
          exact if_pos (of_decide_eq_true c7)
        refine ⟨_, rfl, _, rfl, (by show 2 ≤ sizeLine; decide), fun t nt => ⟨t, rfl, same_new nt, ?_⟩⟩
        rw [e]
        exact upd_same
      · have e : pr = (y, x) := by
          rw [← ep]
          exact if_neg fun z => c7 (decide_eq_true z)
        refine ⟨_, rfl, _, rfl, (by show 2 ≤ sizeLine; decide), fun t nt => ⟨t, rfl, same_new nt, ?_⟩⟩
        rw [e]
        exact upd_same
    rintro σ H1 ⟨t, rfl, s1, ht⟩
    have hb1 := s1 _ _ hb
    have hg1 := s1 _ _ hg
    have hs1 := s1 _ _ hs
    have ha1 := ha.imp fun _ _ h => h.firm (Firm.of s1)
    have kt : H1 t = some (.tup ((kP pr).map kV)) := ht
    have ngs : gl ≠ sd := fun e => by
      rw [e, hs] at hg
      cases hg
    have ntg : t ≠ gl := fun e => by
      rw [e, hg1] at ht
      cases ht
    have nts : t ≠ sd := fun e => by
      rw [e, hs1] at ht
      cases ht
    have nbg : b ≠ gl := fun e => by
      rw [e, hg1] at hb1
      cases hb1
    have nbs : b ≠ sd := fun e => by
      rw [e, hs1] at hb1
      cases hb1
    refine ⟨fun σ H2 => σ = [some (.ref b), some (.int x), some (.int y), some (.ref t)] ∧ But2 gl sd H H2 ∧ Firm H H2 ∧ BAt K B H2 b gl sd n (gated n gs pr).1 ∧ H2 t = some (.tup ((kP pr).map kV)), ?_, ?_⟩
    · refine ⟨_, rfl, _, rfl, b, B, dx, _, _, rfl, hb1, T.cl, T.nS, fB_S _ _ _, sd, _, rfl, DGet.t (k := kP pr) hs1 kt, _, rfl, ?_⟩
      by_cases m : pr ∈ gs
      · have e : (valV kvs (kP pr)).isSome = true := by
          rw [hS.2 pr, if_pos m]
          rfl
        rw [e]
        refine iteF ⟨rfl, fun _ _ e _ _ => s1 _ _ e, Firm.of s1, ?_, kt⟩
        have eg : (gated n gs pr).1 = gs := by
          unfold gated
          rw [if_pos m]
        rw [eg]
        exact ⟨dx, ws, kvs, hb1, hg1, ha1, hs1, hS⟩
      · have e : (valV kvs (kP pr)).isSome = false := by
          rw [hS.2 pr, if_neg m]
          rfl
        rw [e]
        refine iteT ?_
        have wl := ha.len
        refine ⟨_, rfl, b, B, dx, _, _, rfl, hb1, T.cl, T.nG, fB_G _ _ _, .inl ⟨rfl, _, SqL.of hg1⟩, _, rfl, gl, _, _, rfl, rfl, hg1, ?_, ?_⟩
        · rw [wl]
          exact Nat.lt_of_le_of_lt hz (by decide)
        have fg := Firm.upd (o := .lst (ws ++ [V.ref t])) hg1 rfl
        have hb2 : (upd H1 gl (.lst (ws ++ [V.ref t]))) b = some (.ins B dx (fB n gl sd)) := by
          rw [upd_ne nbg]
          exact hb1
        have hs2 : (upd H1 gl (.lst (ws ++ [V.ref t]))) sd = some (.dT kvs) := by
          rw [upd_ne ngs.symm]
          exact hs1
        have kt2 : (upd H1 gl (.lst (ws ++ [V.ref t]))) t = some (.tup ((kP pr).map kV)) := by
          rw [upd_ne ntg]
          exact kt
        have hg2 := upd_same (H := H1) (a := gl) (o := .lst (ws ++ [V.ref t]))
        have a2 : All2 (Pt K (upd H1 gl (.lst (ws ++ [V.ref t])))) (ws ++ [V.ref t]) (gs ++ [pr]) := (ha1.imp fun _ _ h => h.firm fg).snoc ⟨t, rfl, SqT.of kt2⟩
        have o2 : ∀ a o, H1 a = some o → a ≠ gl → (upd H1 gl (.lst (ws ++ [V.ref t]))) a = some o := fun a o e ne => by
          rw [upd_ne ne]
          exact e
        generalize upd H1 gl (.lst (ws ++ [V.ref t])) = H2 at fg hb2 hs2 kt2 hg2 a2 o2 ⊢
        refine ⟨_, rfl, b, B, dx, _, _, rfl, hb2, T.cl, T.nL, fB_L _ _ _, _, rfl, b, B, dx, _, _, rfl, hb2, T.cl, T.nG, fB_G _ _ _, gl, _, rfl, .inl (SqL.of hg2), _, _, rfl, rfl, _, _, rfl, rfl, .inl ⟨by decide, by decide⟩, ?_⟩
        have el : (2 * (n + (((ws ++ [V.ref t]).length : Nat) : Int))) = 2 * (n + gs.length + 1) := by
          rw [List.length_append, wl]
          show 2 * (n + ((gs.length + 1 : Nat) : Int)) = _
          omega
        refine ⟨_, rfl, b, B, dx, _, _, rfl, hb2, T.cl, T.nS, fB_S _ _ _, _, rfl, sd, _, rfl, DPut.t (k := kP pr) hs2 kt2 (by rw [hS.1]; exact Nat.lt_of_le_of_lt hz (by decide)), ?_⟩
        show _ ∧ _
        have fs := Firm.upd (o := .dT (putK kvs (kP pr) (.int (2 * (n + (((ws ++ [V.ref t]).length : Nat) : Int)))))) hs2 rfl
        refine ⟨rfl, fun a o e ne1 ne2 => ?_, (Firm.of s1).trans (fg.trans fs), ?_, ?_⟩
        · rw [upd_ne ne2]
          exact o2 _ _ (s1 _ _ e) ne1
        · have eg : (gated n gs pr).1 = gs ++ [pr] := by
            unfold gated
            rw [if_neg m]
          rw [eg]
          refine ⟨dx, _, _, ?_, ?_, a2.imp fun _ _ h => h.firm fs, upd_same, ?_⟩
          · rw [upd_ne nbs]
            exact hb2
          · rw [upd_ne ngs]
            exact hg2
          · show StandM n (gs ++ [pr]) (putK kvs (kP pr) (.int (2 * (n + (((ws ++ [V.ref t]).length : Nat) : Int)))))
            rw [el]
            exact hS.put m
        · rw [upd_ne nts]
          exact kt2
    · rintro σ H2 ⟨rfl, k2, f2, hB2, kt2⟩
      obtain ⟨dx2, ws2, kvs2, hb2, hg2, ha2, hs2, hS2⟩ := id hB2
      have ev : valV kvs2 (kP pr) = some (.int (gated n gs pr).2) := by
        rw [hS2.2 pr]
        unfold gated
        by_cases m : pr ∈ gs
        · rw [if_pos m, if_pos m]
        · rw [if_neg m, if_pos (List.mem_append_right _ List.mem_cons_self)]
          show some (V.int (2 * (n + ix pr (gs ++ [pr]) + 1))) = _
          rw [ix_new m]
      refine ⟨_, rfl, b, B, dx2, _, _, rfl, hb2, T.cl, T.nS, fB_S _ _ _, _, rfl, sd, _, rfl, ev ▸ DGet.t (k := kP pr) hs2 kt2, q H2 k2 f2 hB2⟩
end
end Bd
namespace Be
open PySem PySem.Spec PyProof.Rows L2 Pen Dat Ki Fi Gr Bd
/-! ## What is built of and_of -/
def orM (n : Int) (gs : List (Int × Int)) (a b : Int) : List (Int × Int) × Int := ((andM n gs (flp a) (flp b)).1, flp (andM n gs (flp a) (flp b)).2)
def xorM (n : Int) (gs : List (Int × Int)) (a b : Int) : List (Int × Int) × Int :=
  andM n (andM n (andM n gs a b).1 (flp a) (flp b)).1 (flp (andM n gs a b).2) (flp (andM n (andM n gs a b).1 (flp a) (flp b)).2)
def choiceM (n : Int) (gs : List (Int × Int)) (c a b : Int) : List (Int × Int) × Int :=
  orM n (andM n (andM n gs c a).1 (flp c) b).1 (andM n gs c a).2 (andM n (andM n gs c a).1 (flp c) b).2
theorem flp_nn {l : Int} (h : 0 ≤ l) : 0 ≤ flp l := by
  unfold flp
  omega
theorem andM_len (n : Int) (gs : List (Int × Int)) (a b : Int) : (andM n gs a b).1.length ≤ gs.length + 1 := by
  unfold Bd.andM gated
  split
  · exact Nat.le_succ _
  split
  · exact Nat.le_succ _
  split
  · exact Nat.le_succ _
  split
  · exact Nat.le_succ _
  · rw [List.length_append]
    exact Nat.le_refl _
theorem andM_nn {n : Int} (gs : List (Int × Int)) {a b : Int} (n0 : 0 ≤ n) (a0 : 0 ≤ a) (b0 : 0 ≤ b) : 0 ≤ (andM n gs a b).2 := by
  unfold Bd.andM gated
  split
  · exact Int.le_refl _
  split
  · exact b0
  split
  · exact a0
  split
  · show 0 ≤ 2 * (n + (ix (ordP a b) gs : Int) + 1)
    omega
  · show 0 ≤ 2 * (n + (gs.length : Int) + 1)
    omega
theorem But2.trans {p q : Addr} {H H1 H2 : Hp} (a : But2 p q H H1) (b : But2 p q H1 H2) : But2 p q H H2 := fun c o e h k => b c o (a c o e h k) h k
structure Ty (K : PySem.W.Frag) (mg : Str → Option Value) (B : Addr) (fA : Addr) : Prop where
  t : Bd.Tx K mg B
  me : Meth K B "and_of" fA
def sp2 (K : PySem.W.Frag) (B : Addr) (g : Int → List (Int × Int) → Int → Int → List (Int × Int) × Int) : Sp := fun vs H Q _ => ∃ (b gl sd : Addr) (n x y : Int) (gs : List (Int × Int)), vs = [.ref b, .int x, .int y] ∧ BAt K B H b gl sd n gs ∧ gs.length ≤ 4000 ∧ 0 ≤ n ∧ 0 ≤ x ∧ 0 ≤ y ∧
  ∀ H', But2 gl sd H H' → Firm H H' → BAt K B H' b gl sd n (g n gs x y).1 → Q (.int (g n gs x y).2) H'
def sp3 (K : PySem.W.Frag) (B : Addr) : Sp := fun vs H Q _ => ∃ (b gl sd : Addr) (n z x y : Int) (gs : List (Int × Int)), vs = [.ref b, .int z, .int x, .int y] ∧ BAt K B H b gl sd n gs ∧ gs.length ≤ 3900 ∧ 0 ≤ n ∧ 0 ≤ z ∧ 0 ≤ x ∧ 0 ≤ y ∧
  ∀ H', But2 gl sd H H' → Firm H H' → BAt K B H' b gl sd n (choiceM n gs z x y).1 → Q (.int (choiceM n gs z x y).2) H'
section
variable {P : Program} {w : World} {K : PySem.W.Frag} {mg : Str → Option Value} {base : Heap} {f B fA : Addr} {fd dA : FuncData}
theorem lk (n : Int) (gl sd : Addr) : (fB n gl sd).lookup ("and_of" : Str) = none := by
  have a : ¬ (("and_of" : Str) = "standing") := by decide +kernel
  have b : ¬ (("and_of" : Str) = "gates") := by decide +kernel
  have c : ¬ (("and_of" : Str) = "leaves") := by decide +kernel
  unfold fB
  rw [lookup_putF, if_neg a, lookup_putF, if_neg b, lookup_putF, if_neg c]
  rfl
theorem scOr : FnScope ["builder", "one", "other"] ["builder", "one", "other"] (defScope sOr) := ⟨rfl, rfl, rfl, by decide +kernel, rfl, by decide +kernel, by decide +kernel⟩
theorem scXorB : FnScope ["builder", "one", "other", "both", "none"] ["builder", "one", "other"] (defScope sXorB) := ⟨rfl, rfl, rfl, by decide +kernel, rfl, by decide +kernel, by decide +kernel⟩
theorem scChoice : FnScope ["builder", "c", "one", "other"] ["builder", "c", "one", "other"] (defScope sChoice) := ⟨rfl, rfl, rfl, by decide +kernel, rfl, by decide +kernel, by decide +kernel⟩
theorem ok_or (F : FnP K "or_of" sOr f fd) (T : Ty K mg B fA) (GA : FnOk P w K mg base CX0 1 fA dA ["self", "one", "other"] (spAnd K B)) (bA : Binds K dA ["self", "one", "other"] []) : FnOk P w K mg base CX0 2 f fd ["builder", "one", "other"] (sp2 K B orM) := by
  refine F.ok scOr (fun vs H Q E h => ?_) (fun cdv A outer s H vs Q E hr h => ?_)
  · obtain ⟨b, gl, sd, n, x, y, gs, rfl, _⟩ := h
    rfl
  · obtain ⟨b, gl, sd, n, x, y, gs, rfl, hB, hz, n0, x0, y0, q⟩ := h
    refine ⟨_, PSs.nox (pss_one (ps_ret (pe_op op_xor (pe_meth (pv 0) T.t.cl T.me GA hr bA .nil pass0 (pa_cons (pe_op op_xor (pv 1) pe_int) (pa_cons (pe_op op_xor (pv 2) pe_int) pa_nil))) pe_int))), ?_⟩
    obtain ⟨dx, ws, kvs, hb, _⟩ := id hB
    refine ⟨_, rfl, b, dx, _, rfl, hb, lk _ _ _, _, rfl, _, _, rfl, rfl, _, rfl, _, _, rfl, rfl, b, gl, sd, n, flp x, flp y, gs, ?_, hB, by omega, flp_nn x0, flp_nn y0, fun H' k f' hB' => ?_⟩
    · rw [← xor_one x0, ← xor_one y0]
      rfl
    · refine ⟨_, _, rfl, rfl, ?_⟩
      have z := q H' k f' hB'
      have e : Builtin.bitXor (andM n gs (flp x) (flp y)).2 1 = (orM n gs x y).2 := xor_one (andM_nn gs n0 (flp_nn x0) (flp_nn y0))
      show Q (V.int (Builtin.bitXor (andM n gs (flp x) (flp y)).2 1)) H'
      rw [e]
      exact z
theorem ok_xorB (F : FnP K "xor_of" sXorB f fd) (T : Ty K mg B fA) (GA : FnOk P w K mg base CX0 1 fA dA ["self", "one", "other"] (spAnd K B)) (bA : Binds K dA ["self", "one", "other"] []) : FnOk P w K mg base CX0 2 f fd ["builder", "one", "other"] (sp2 K B xorM) := by
  refine F.ok scXorB (fun vs H Q E h => ?_) (fun cdv A outer s H vs Q E hr h => ?_)
  · obtain ⟨b, gl, sd, n, x, y, gs, rfl, _⟩ := h
    rfl
  · obtain ⟨b, gl, sd, n, x, y, gs, rfl, hB, hz, n0, x0, y0, q⟩ := h
    refine ⟨_, PSs.nox (pss_cons (ps_set (i := 3) scXorB.nd rfl (Or.inl rfl) (pe_meth (pv 0) T.t.cl T.me GA hr bA .nil pass0 (pa_cons (pv 1) (pa_cons (pv 2) pa_nil))))
      (pss_cons (ps_set (i := 4) scXorB.nd rfl (Or.inl rfl) (pe_meth (pv 0) T.t.cl T.me GA hr bA .nil pass0 (pa_cons (pe_op op_xor (pv 1) pe_int) (pa_cons (pe_op op_xor (pv 2) pe_int) pa_nil))))
      (pss_one (ps_ret (pe_meth (pv 0) T.t.cl T.me GA hr bA .nil pass0 (pa_cons (pe_op op_xor (pv 3) pe_int) (pa_cons (pe_op op_xor (pv 4) pe_int) pa_nil))))))), ?_⟩
    obtain ⟨dx, ws, kvs, hb, _⟩ := id hB
    have l1 := andM_len n gs x y
    have a0 := andM_nn gs n0 x0 y0
    refine ⟨_, rfl, b, dx, _, rfl, hb, lk _ _ _, _, rfl, _, rfl, b, gl, sd, n, x, y, gs, rfl, hB, by omega, x0, y0, fun H1 k1 f1 B1 => ?_⟩
    obtain ⟨dx1, ws1, kvs1, hb1, _⟩ := id B1
    have l2 := andM_len n (Bd.andM n gs x y).1 (flp x) (flp y)
    have c0 := andM_nn (Bd.andM n gs x y).1 n0 (flp_nn x0) (flp_nn y0)
    refine ⟨_, rfl, b, dx1, _, rfl, hb1, lk _ _ _, _, rfl, _, _, rfl, rfl, _, rfl, _, _, rfl, rfl, b, gl, sd, n, flp x, flp y, _, ?_, B1, by omega, flp_nn x0, flp_nn y0, fun H2 k2 f2 B2 => ?_⟩
    · rw [← xor_one x0, ← xor_one y0]
      rfl
    obtain ⟨dx2, ws2, kvs2, hb2, _⟩ := id B2
    refine ⟨_, rfl, b, dx2, _, rfl, hb2, lk _ _ _, _, rfl, _, _, rfl, rfl, _, rfl, _, _, rfl, rfl, b, gl, sd, n, flp (Bd.andM n gs x y).2, flp (Bd.andM n (Bd.andM n gs x y).1 (flp x) (flp y)).2, _, ?_, B2, by omega, flp_nn a0, flp_nn c0, fun H3 k3 f3 B3 => ?_⟩
    · rw [← xor_one a0, ← xor_one c0]
      rfl
    exact q H3 (But2.trans k1 (But2.trans k2 k3)) (f1.trans (f2.trans f3)) B3
theorem ok_choice {fO : Addr} {dO : FuncData} (F : FnP K "choice_of" sChoice f fd) (T : Ty K mg B fA) (GA : FnOk P w K mg base CX0 1 fA dA ["self", "one", "other"] (spAnd K B)) (bA : Binds K dA ["self", "one", "other"] []) (FO : FnP K "or_of" sOr fO dO) (gO : mg "or_of" = some (.ref fO)) :
    FnOk P w K mg base CX0 3 f fd ["builder", "c", "one", "other"] (sp3 K B) := by
  have GO : FnOk P w K mg base CX0 2 fO dO ["builder", "one", "other"] (sp2 K B orM) := ok_or FO T GA bA
  have bO : Binds K dO ["builder", "one", "other"] [] := FO.bindsN fun _ _ _ _ _ _ us hl => match us, hl with | [_, _, _], _ => rfl
  refine F.ok scChoice (fun vs H Q E h => ?_) (fun cdv A outer s H vs Q E hr h => ?_)
  · obtain ⟨b, gl, sd, n, z, x, y, gs, rfl, _⟩ := h
    rfl
  · obtain ⟨b, gl, sd, n, z, x, y, gs, rfl, hB, hz, n0, z0, x0, y0, q⟩ := h
    have hr1 := hr.mono (j := 1) (by decide)
    refine ⟨_, PSs.nox (pss_one (ps_ret (pe_call GO hr (by rfl) gO FO.kp bO .nil pass0 (pa_cons (pv 0) (pa_cons (pe_meth (pv 0) T.t.cl T.me GA hr1 bA .nil pass0 (pa_cons (pv 1) (pa_cons (pv 2) pa_nil)))
      (pa_cons (pe_meth (pv 0) T.t.cl T.me GA hr1 bA .nil pass0 (pa_cons (pe_op op_xor (pv 1) pe_int) (pa_cons (pv 3) pa_nil))) pa_nil)))))), ?_⟩
    obtain ⟨dx, ws, kvs, hb, _⟩ := id hB
    have l1 := andM_len n gs z x
    have a0 := andM_nn gs n0 z0 x0
    refine ⟨_, rfl, _, rfl, b, dx, _, rfl, hb, lk _ _ _, _, rfl, _, rfl, b, gl, sd, n, z, x, gs, rfl, hB, by omega, z0, x0, fun H1 k1 f1 B1 => ?_⟩
    obtain ⟨dx1, ws1, kvs1, hb1, _⟩ := id B1
    have l2 := andM_len n (Bd.andM n gs z x).1 (flp z) y
    have c0 := andM_nn (Bd.andM n gs z x).1 n0 (flp_nn z0) y0
    refine ⟨_, rfl, b, dx1, _, rfl, hb1, lk _ _ _, _, rfl, _, _, rfl, rfl, _, rfl, b, gl, sd, n, flp z, y, _, ?_, B1, by omega, flp_nn z0, y0, fun H2 k2 f2 B2 => ?_⟩
    · rw [← xor_one z0]
      rfl
    exact ⟨b, gl, sd, n, _, _, _, rfl, B2, by omega, n0, a0, c0, fun H3 k3 f3 B3 => q H3 (But2.trans k1 (But2.trans k2 k3)) (f1.trans (f2.trans f3)) B3⟩
end
end Be
namespace Bf
open PySem PySem.Spec PyProof.Rows L2 Pen Dat Ki Fi Gr No Bd Be
def ledL (xs : List Int) (a : Int) : Int := if a % 2 = 1 then flp (xs.getD (a / 2).toNat 0) else xs.getD (a / 2).toNat 0
theorem xor_nil {l : Int} (h : 0 ≤ l) : Builtin.bitXor l 0 = l := by
  obtain ⟨n, rfl⟩ := Int.eq_ofNat_of_zero_le h
  rw [Bits.bitXor_pp h (by decide)]
  show ((n ^^^ 0 : Nat) : Int) = n
  rw [Nat.xor_zero]
abbrev sBInit : Stmt := inClass cBuild 0
abbrev sBGraph : Stmt := inClass cBuild 1
def spBInit (K : PySem.W.Frag) (B : Addr) : Sp := fun vs H Q _ => ∃ (p dx : Addr) (n : Int), vs = [.ref p, .int n] ∧ H p = some (.ins B dx []) ∧ 0 ≤ n ∧ ∀ H' gl sd, (∀ b o, H b = some o → b ≠ p → H' b = some o) → BAt K B H' p gl sd n [] → H gl = none → H sd = none → Q .non H'
def spBGraph (K : PySem.W.Frag) (C B : Addr) : Sp := fun vs H Q _ => ∃ (p gl sd : Addr) (n : Int) (gs : List (Int × Int)), vs = [.ref p] ∧ BAt K B H p gl sd n gs ∧ 0 ≤ n ∧ gs.length ≤ 1000 ∧ okG (2 * n + 1) gs = true ∧ ∀ H' x, Same H H' → GraphAt K C H' x n gs → Q (.ref x) H'
def spLitIn (K : PySem.W.Frag) : Sp := fun vs H Q _ => ∃ (l : Addr) (xs : List Int) (a : Int), vs = [.ref l, .int a] ∧ SqL K H l (xs.map V.int) ∧ 0 ≤ a ∧ (a / 2).toNat < xs.length ∧ (∀ z ∈ xs, 0 ≤ z) ∧ Q (.int (ledL xs a)) H
section
variable {P : Program} {w : World} {K : PySem.W.Frag} {mg : Str → Option Value} {base : Heap} {f B C fA : Addr} {fd dA : FuncData}
theorem scBInit : FnScope ["self", "leaves"] ["self", "leaves"] (defScope sBInit) := ⟨rfl, rfl, rfl, by decide +kernel, rfl, by decide +kernel, by decide +kernel⟩
theorem scBGraph : FnScope ["self"] ["self"] (defScope sBGraph) := ⟨rfl, rfl, rfl, by decide +kernel, rfl, by decide +kernel, by decide +kernel⟩
abbrev FnBI (K : PySem.W.Frag) (f : Addr) (fd : FuncData) : Prop := FunD K "__init__" "Builder.__init__" (defArgs sBInit) (defBody sBInit) (defScope sBInit) [] [] f fd
abbrev FnBG (K : PySem.W.Frag) (f : Addr) (fd : FuncData) : Prop := FunD K "graph" "Builder.graph" (defArgs sBGraph) (defBody sBGraph) (defScope sBGraph) [] [] f fd
theorem ok_bgraph {fI : Addr} {dI : FuncData} (F : FnBG K f fd) (T : Bd.Tx K mg B) (G : Gr.Tx K mg C) (MG : Mk K C fI) (GI : FnOk P w K mg base CX0 4 fI dI ["self", "leaves", "gates"] (spInit K C)) (bI : Binds K dI ["self", "leaves", "gates"] []) : FnOk P w K mg base CX0 6 f fd ["self"] (spBGraph K C B) := by
  refine F.ok scBGraph (fun vs H Q E h => ?_) (fun cdv A outer s H vs Q E hr h => ?_)
  · obtain ⟨p, gl, sd, n, gs, rfl, _⟩ := h
    rfl
  · obtain ⟨p, gl, sd, n, gs, rfl, hB, n0, hz, hok, q⟩ := h
    refine ⟨_, PSs.nox (pss_one (ps_ret (pe_make MG GI (hr.mono (by decide)) (by rfl) G.mgC bI .nil pass0 (pa_cons (pe_fld (pv 0) rfl) (pa_cons (pe_fld (pv 0) rfl) pa_nil))))), ?_⟩
    obtain ⟨dx, ws, kvs, hb, hg, ha, hs, hS⟩ := hB
    refine ⟨_, rfl, p, B, dx, _, _, rfl, hb, T.cl, T.nL, fB_L _ _ _, _, rfl, p, B, dx, _, _, rfl, hb, T.cl, T.nG, fB_G _ _ _, fun x dy nx nd _ => ?_⟩
    have s1 : Same H (upd (upd H dy (.own x)) x (.ins C dy [])) := fun b o e => by
      rw [upd_ne (ne_of_none e nx), upd_ne (ne_of_none e nd)]
      exact e
    exact ⟨x, dy, n, .ref gl, gs, rfl, upd_same, n0, ⟨gl, ws, rfl, .inl (SqL.of (s1 _ _ hg)), ha.imp fun _ _ h => (h.firm (Firm.of s1)).pr⟩, hz, hok, fun H2 k2 g2 => ⟨rfl, q H2 x (Same.made nx nd k2) g2⟩⟩
theorem ok_binit {fN : Addr} {dN : FuncData} (F : FnBI K f fd) (T : Bd.Tx K mg B) (GN : FnOk P w K mg base CX0 2 fN dN ["leaves"] spNeed) (gN : mg "need_leaves" = some (.ref fN)) (kN : PySem.W.keepIn K (.ref fN) = true) (bN : Binds K dN ["leaves"] []) : FnOk P w K mg base CX0 3 f fd ["self", "leaves"] (spBInit K B) := by
  refine F.ok scBInit (fun vs H Q E h => ?_) (fun cdv A outer s H vs Q E hr h => ?_)
  · obtain ⟨p, dx, n, rfl, _⟩ := h
    rfl
  · obtain ⟨p, dx, n, rfl, hp, n0, q⟩ := h
    refine ⟨_, PSs.nox (pss_cons (ps_expr (pe_call GN hr (by rfl) gN kN bN .nil pass0 (pa_cons (pv 1) pa_nil)))
      (pss_cons (ps_fld (pv 0) (pv 1) rfl) (pss_cons (ps_fld (pv 0) (pe_lst pa_nil) rfl) (pss_one (ps_fld (pv 0) pe_dnewT rfl))))), ?_⟩
    refine ⟨_, rfl, n, rfl, n0, ?_⟩
    refine ⟨_, rfl, _, rfl, p, B, dx, _, rfl, hp, T.cl, T.nL, (by show 0 < 1000; decide), ?_⟩
    refine ⟨(by show 0 ≤ sizeLine; decide), fun gl ngl => ?_⟩
    have npg : gl ≠ p := fun e => by
      rw [e, upd_same] at ngl
      cases ngl
    refine ⟨_, rfl, p, B, dx, _, rfl, (by rw [upd_ne npg.symm, upd_same]), T.cl, T.nG, (by show 1 < 1000; decide), ?_⟩
    intro sd nsd
    have nps : sd ≠ p := fun e => by
      rw [e, upd_same] at nsd
      cases nsd
    have ngs : gl ≠ sd := fun e => by
      rw [← e, upd_ne npg, upd_same] at nsd
      cases nsd
    refine ⟨_, rfl, p, B, dx, _, rfl, (by rw [upd_ne nps.symm, upd_same]), T.cl, T.nS, (by show 2 < 1000; decide), ?_⟩
    have hgl : H gl = none := by
      rw [upd_ne npg] at ngl
      exact ngl
    have hsd : H sd = none := by
      rw [upd_ne nps, upd_ne ngs.symm, upd_ne nps] at nsd
      exact nsd
    refine q _ gl sd (fun b o e ne => ?_) ⟨dx, [], [], upd_same, ?_, .nil, ?_, rfl, fun _ => rfl⟩ hgl hsd
    · rw [upd_ne ne, upd_ne (fun z => by rw [z, hsd] at e; cases e), upd_ne ne, upd_ne (fun z => by rw [z, hgl] at e; cases e), upd_ne ne]
      exact e
    · rw [upd_ne npg, upd_ne ngs, upd_ne npg, upd_same]
    · rw [upd_ne nps, upd_same]
end
end Bf
namespace Bo
open PySem PySem.Spec PyProof.Rows L2 Pen Dat Ki Fi Gr Bd Be
/-! ## The law's own and -/
def ownF (n : Int) (gs : List (Int × Int)) (lo hi : Int) : List (Int × Int) × Int := if lo = 0 ∨ flp lo = hi then (gs, 0) else if lo = 1 ∨ lo = hi then (gs, hi) else gated n gs (hi, lo)
theorem own_eq {n : Int} {gs : List (Int × Int)} {x y lo hi : Int} (x0 : 0 ≤ x) (y0 : 0 ≤ y) (hm : (lo = x ∧ hi = y ∧ x ≤ y) ∨ (lo = y ∧ hi = x ∧ y ≤ x)) : ownF n gs lo hi = Bd.andM n gs x y := by
  have h1 : (x = 0 ∨ y = 0 ∨ x = flp y) ↔ (lo = 0 ∨ flp lo = hi) := by
    unfold flp
    omega
  unfold ownF Bd.andM
  by_cases c1 : lo = 0 ∨ flp lo = hi
  · rw [if_pos c1, if_pos (h1.mpr c1)]
  · rw [if_neg c1, if_neg fun z => c1 (h1.mp z)]
    have c0 : ¬ (x = 0 ∨ y = 0 ∨ x = flp y) := fun z => c1 (h1.mp z)
    by_cases c2 : lo = 1 ∨ lo = hi
    · rw [if_pos c2]
      by_cases c3 : x = 1
      · rw [if_pos c3]
        have : hi = y := by omega
        rw [this]
      · rw [if_neg c3, if_pos (by omega)]
        have : hi = x := by omega
        rw [this]
    · rw [if_neg c2, if_neg (by omega), if_neg (by omega)]
      have : ordP x y = (hi, lo) := by
        unfold ordP
        by_cases c : x > y
        · rw [if_pos c]
          have a : hi = x := by omega
          have b : lo = y := by omega
          rw [a, b]
        · rw [if_neg c]
          have a : hi = y := by omega
          have b : lo = x := by omega
          rw [a, b]
      rw [this]
theorem eqv_pD (p q : Int × Int) : PyData.eqv (pD p) (pD q) = decide (p = q) := by
  have e : PyData.eqv (pD p) (pD q) = (decide (p.1 = q.1) && decide (p.2 = q.2)) := by
    simp [pD, PyData.eqv, PyData.eqvAll]
    rfl
  rw [e]
  by_cases c : p = q
  · subst c
    simp
  · rw [decide_eq_false c]
    cases h : decide (p.1 = q.1) with
    | false => rfl
    | true =>
      rw [Bool.true_and]
      exact decide_eq_false fun z => c (Prod.ext (of_decide_eq_true h) z)
theorem any_pD (p : Int × Int) (gs : List (Int × Int)) : ((gs.map pD).any fun z => PyData.eqv z (pD p)) = decide (p ∈ gs) := by
  rw [List.any_map]
  have : ((fun z => PyData.eqv z (pD p)) ∘ pD) = fun q => decide (q = p) := by
    funext q
    exact eqv_pD q p
  rw [this]
  by_cases m : p ∈ gs
  · rw [decide_eq_true m]
    exact List.any_eq_true.mpr ⟨p, m, decide_eq_true rfl⟩
  · rw [decide_eq_false m]
    exact List.any_eq_false.mpr fun q hq e => m (of_decide_eq_true e ▸ hq)
theorem shaped_lD (gs : List (Int × Int)) : SeqAt.shaped (.list (gs.map pD)) = true := by
  have h1 := can_pD gs
  have h2 := deep_pD gs
  show (PyData.canLayAll0 (gs.map pD) && decide (PyData.depthAll (gs.map pD) + 1 ≤ 64)) = true
  rw [h1, decide_eq_true (by omega)]
  rfl
def oD (n : Int) (gl : Addr) : List (Key × V) := [(.inr "leaves", .int n), (.inr "gates", .ref gl)]
def OwnB (K : PySem.W.Frag) (H : Hp) (o gl : Addr) (n : Int) (gs : List (Int × Int)) : Prop := ∃ ws, H o = some (.dK (oD n gl)) ∧ H gl = some (.lst ws) ∧ All2 (Pt K H) ws gs
theorem od_leaves {H : Hp} {o gl : Addr} {n : Int} (h : H o = some (.dK (oD n gl))) : DGet H o (.str "leaves") (some (.int n)) := DGet.k (k := .inr "leaves") h
theorem od_gates {H : Hp} {o gl : Addr} {n : Int} (h : H o = some (.dK (oD n gl))) : DGet H o (.str "gates") (some (.ref gl)) := DGet.k (k := .inr "gates") h
structure Tz (mg : Str → Option Value) : Prop where
  min : mg "min" = none
  max : mg "max" = none
  int : mg "int" = none
def spFlip : Sp := fun vs H Q _ => ∃ l : Int, vs = [.int l] ∧ Q (.int (flp l)) H
def spOwnAnd (K : PySem.W.Frag) : Sp := fun vs H Q _ => ∃ (o gl : Addr) (n x y : Int) (gs : List (Int × Int)), vs = [.ref o, .int x, .int y] ∧ OwnB K H o gl n gs ∧ gs.length ≤ 4000 ∧ 0 ≤ x ∧ 0 ≤ y ∧
  ∀ H', (∀ b u, H b = some u → b ≠ gl → H' b = some u) → Firm H H' → OwnB K H' o gl n (Bd.andM n gs x y).1 → Q (.int (Bd.andM n gs x y).2) H'
section
variable {P : Program} {w : World} {K : PySem.W.Frag} {mg : Str → Option Value} {base : Heap} {f : Addr} {fd : FuncData}
theorem scFlip : FnScope ["_law_literal"] ["_law_literal"] (defScope sFlip) := ⟨rfl, rfl, rfl, by decide +kernel, rfl, by decide +kernel, by decide +kernel⟩
theorem ok_flip (F : FnP K "_law_flip" sFlip f fd) (T : Tz mg) : FnOk P w K mg base CX0 1 f fd ["_law_literal"] spFlip := by
  refine F.ok scFlip (fun vs H Q E h => ?_) (fun cdv A outer s H vs Q E hr h => ?_)
  · obtain ⟨l, rfl, _⟩ := h
    rfl
  · obtain ⟨l, rfl, q⟩ := h
    refine ⟨_, PSs.nox (pss_one (ps_ret (pe_op op_sub (pe_op op_add (pv 0) pe_int) (pe_op op_mul pe_int (pe_op op_mod (pe_callTy call_int1 (by rfl) T.int (by decide +kernel) (pa_cons (pv 0) pa_nil)) pe_int))))), ?_⟩
    exact ⟨_, rfl, _, _, rfl, rfl, _, rfl, .inl ⟨_, rfl, _, _, rfl, rfl, (by show (0 : Int) < 2; decide), _, _, rfl, rfl, .inl ⟨by decide, by decide⟩, _, _, rfl, rfl, q⟩⟩
abbrev oaN : List Str := ["_law_own", "_law_one", "_law_other", "_law_low", "_law_high"]
end
end Bo
namespace Bm
open PySem PySem.Spec PyProof.Rows L2 Pen Dat Ki Fi Gr No Lf Cn Bd Be
/-! ## What and_of means -/
theorem ordP_or (a b : Int) : ordP a b = (a, b) ∨ ordP a b = (b, a) := by
  unfold ordP
  split
  · exact .inl rfl
  · exact .inr rfl
theorem step_vals {bs : List Int} {gs : List (Int × Int)} (p : Int × Int) : vals bs (gs ++ [p]) = vals bs gs ++ [lit (vals bs gs) p.1 * lit (vals bs gs) p.2] := by
  unfold vals
  rw [List.foldl_append]
  rfl
theorem vals_pre {bs : List Int} (gs ts : List (Int × Int)) : (vals bs (gs ++ ts)).take (vals bs gs).length = vals bs gs := by
  have e := foldl_pre ts (vals bs gs)
  unfold vals at e ⊢
  rw [List.foldl_append]
  exact e
theorem lit_pre {bs : List Int} (gs ts : List (Int × Int)) {a : Int} (h0 : 0 ≤ a) (h : (a / 2).toNat < 1 + bs.length + gs.length) : lit (vals bs (gs ++ ts)) a = lit (vals bs gs) a := by
  have l := vals_len bs gs
  rw [← vals_pre gs ts, lit_take h0 (by omega)]
theorem lit_new {f : List Int} {w a : Int} (ha : a = 2 * (f.length : Int)) (w0 : 0 ≤ w) : lit (f ++ [w]) a = w := by
  have e1 : (a / 2).toNat = f.length := by omega
  have e2 : a % 2 = 0 := by omega
  unfold lit ab
  rw [e1, e2, List.getD_eq_getElem?_getD, List.getElem?_append_right (Nat.le_refl _), Nat.sub_self]
  show (if w - 0 < 0 then -(w - 0) else w - 0) = w
  rw [if_neg (by omega)]
  omega
/-- the value of a gate that stands -/
theorem gate_val {bs : List Int} {gs : List (Int × Int)} {j : Nat} {p : Int × Int} (h01 : B01 bs) (hok : okG (2 * (bs.length : Int) + 1) gs = true) (h : gs[j]? = some p) :
    lit (vals bs gs) (2 * ((bs.length : Int) + j + 1)) = lit (vals bs gs) p.1 * lit (vals bs gs) p.2 := by
  obtain ⟨hj, ej⟩ := List.getElem?_eq_some_iff.mp h
  obtain ⟨⟨a0, a1⟩, b0, b1⟩ := okG_at hok h
  have sp : gs = (gs.take j ++ [p]) ++ gs.drop (j + 1) := by
    rw [← take_more h, List.take_append_drop]
  have tl : (gs.take j).length = j := by
    rw [List.length_take]
    omega
  have l1 : lit (vals bs gs) p.1 = lit (vals bs (gs.take j)) p.1 := by
    have z := lit_pre (bs := bs) (gs.take j) ([p] ++ gs.drop (j + 1)) a0 (by omega)
    rw [← List.append_assoc, ← sp] at z
    exact z
  have l2 : lit (vals bs gs) p.2 = lit (vals bs (gs.take j)) p.2 := by
    have z := lit_pre (bs := bs) (gs.take j) ([p] ++ gs.drop (j + 1)) b0 (by omega)
    rw [← List.append_assoc, ← sp] at z
    exact z
  have l3 : lit (vals bs gs) (2 * ((bs.length : Int) + j + 1)) = lit (vals bs (gs.take j ++ [p])) (2 * ((bs.length : Int) + j + 1)) := by
    have z := lit_pre (bs := bs) (gs.take j ++ [p]) (gs.drop (j + 1)) (a := 2 * ((bs.length : Int) + j + 1)) (by omega) (by rw [List.length_append, tl]; show _ < 1 + bs.length + (j + 1); omega)
    rw [← sp] at z
    exact z
  rw [l3, l1, l2, step_vals]
  have vl := vals_len bs (gs.take j)
  have v01 := vals_01 (gs.take j) h01
  have x1 := lit_01 v01 p.1
  have x2 := lit_01 v01 p.2
  have w0 : 0 ≤ lit (vals bs (gs.take j)) p.1 * lit (vals bs (gs.take j)) p.2 := by
    rcases x1 with e | e <;> rcases x2 with e2 | e2 <;> rw [e, e2] <;> decide
  exact lit_new (by rw [vl, tl]; omega) w0
/-- the literals of a builder over its leaves -/
theorem fl_val {f : List Int} (h : B01 f) {l : Int} (h0 : 0 ≤ l) : lit f (flp l) = 1 - lit f l := by
  have b := getD_01 h (l / 2).toNat
  have e : flp l / 2 = l / 2 := by
    unfold flp
    omega
  unfold lit ab
  rw [e]
  unfold flp
  split <;> split <;> omega
theorem and_val {bs : List Int} {gs : List (Int × Int)} {a b : Int} (h01 : B01 bs) (hok : okG (2 * (bs.length : Int) + 1) gs = true) (a0 : 0 ≤ a) (a1 : a ≤ 2 * ((bs.length : Int) + gs.length) + 1) (b0 : 0 ≤ b) (b1 : b ≤ 2 * ((bs.length : Int) + gs.length) + 1) :
    okG (2 * (bs.length : Int) + 1) (Bd.andM bs.length gs a b).1 = true ∧ (∃ ts, (Bd.andM bs.length gs a b).1 = gs ++ ts) ∧ 0 ≤ (Bd.andM bs.length gs a b).2 ∧ (Bd.andM bs.length gs a b).2 ≤ 2 * ((bs.length : Int) + (Bd.andM bs.length gs a b).1.length) + 1 ∧
    lit (vals bs (Bd.andM bs.length gs a b).1) (Bd.andM bs.length gs a b).2 = lit (vals bs gs) a * lit (vals bs gs) b := by
  have v01 := vals_01 gs h01
  have z0 : lit (vals bs gs) 0 = 0 := by
    have e : (vals bs gs).getD 0 0 = 0 := by
      have z := vals_head bs gs
      rw [z]
      rfl
    show ab ((vals bs gs).getD 0 0 - 0) = 0
    rw [e]
    rfl
  have z1 : lit (vals bs gs) 1 = 1 := by
    have e := fl_val v01 (l := 0) (by decide)
    rw [z0] at e
    exact e
  have x1 := lit_01 v01 a
  have x2 := lit_01 v01 b
  unfold Bd.andM
  split
  · rename_i c
    refine ⟨hok, ⟨[], (List.append_nil _).symm⟩, Int.le_refl _, by show (0 : Int) ≤ _; omega, ?_⟩
    show lit (vals bs gs) 0 = _
    rw [z0]
    rcases c with rfl | rfl | rfl
    · rw [z0, Int.zero_mul]
    · rw [z0, Int.mul_zero]
    · rw [fl_val v01 b0]
      rcases x2 with e | e <;> rw [e] <;> decide
  split
  · rename_i c
    subst c
    refine ⟨hok, ⟨[], (List.append_nil _).symm⟩, b0, b1, ?_⟩
    rw [z1, Int.one_mul]
  split
  · rename_i c
    refine ⟨hok, ⟨[], (List.append_nil _).symm⟩, a0, a1, ?_⟩
    rcases c with rfl | rfl
    · rw [z1, Int.mul_one]
    · rcases x1 with e | e <;> rw [e] <;> decide
  · have op := ordP_or a b
    generalize ordP a b = p at op
    have pb : (0 ≤ p.1 ∧ p.1 ≤ 2 * ((bs.length : Int) + gs.length) + 1) ∧ 0 ≤ p.2 ∧ p.2 ≤ 2 * ((bs.length : Int) + gs.length) + 1 := by
      rcases op with rfl | rfl
      · exact ⟨⟨a0, a1⟩, b0, b1⟩
      · exact ⟨⟨b0, b1⟩, a0, a1⟩
    have pv : lit (vals bs gs) p.1 * lit (vals bs gs) p.2 = lit (vals bs gs) a * lit (vals bs gs) b := by
      rcases op with rfl | rfl
      · rfl
      · exact Int.mul_comm _ _
    unfold gated
    split
    · rename_i m
      have lt : ix p gs < gs.length := List.findIdx_lt_length_of_exists ⟨p, m, decide_eq_true rfl⟩
      have at_ : gs[ix p gs]? = some p := by
        rw [List.getElem?_eq_getElem lt]
        exact congrArg some (of_decide_eq_true (List.findIdx_getElem (w := lt)))
      refine ⟨hok, ⟨[], (List.append_nil _).symm⟩, by show (0 : Int) ≤ 2 * ((bs.length : Int) + (ix p gs : Int) + 1); omega, by show 2 * ((bs.length : Int) + (ix p gs : Int) + 1) ≤ 2 * ((bs.length : Int) + (gs.length : Int)) + 1; omega, ?_⟩
      exact (gate_val h01 hok at_).trans pv
    · have okn := okG_snoc hok pb.1.1 (by have := pb.1.2; omega) pb.2.1 (by have := pb.2.2; omega)
      refine ⟨okn, ⟨[p], rfl⟩, by show (0 : Int) ≤ 2 * ((bs.length : Int) + (gs.length : Int) + 1); omega, by rw [List.length_append]; show 2 * ((bs.length : Int) + (gs.length : Int) + 1) ≤ 2 * ((bs.length : Int) + ((gs.length + 1 : Nat) : Int)) + 1; omega, ?_⟩
      have at_ : (gs ++ [p])[gs.length]? = some p := by
        rw [List.getElem?_append_right (Nat.le_refl _), Nat.sub_self]
        rfl
      refine (gate_val h01 okn at_).trans ?_
      rw [lit_pre gs [p] pb.1.1 (by have := pb.1.2; omega), lit_pre gs [p] pb.2.1 (by have := pb.2.2; omega)]
      exact pv
def Inb (bs : List Int) (gs : List (Int × Int)) (a : Int) : Prop := 0 ≤ a ∧ a ≤ 2 * ((bs.length : Int) + gs.length) + 1
/-- what is told of more gates and a literal -/
structure Gd (bs : List Int) (gs : List (Int × Int)) (r : List (Int × Int) × Int) (z : Int) : Prop where
  ok : okG (2 * (bs.length : Int) + 1) r.1 = true
  ext : ∃ ts, r.1 = gs ++ ts
  inb : Inb bs r.1 r.2
  val : lit (vals bs r.1) r.2 = z
theorem and_gd {bs : List Int} {gs : List (Int × Int)} {a b : Int} (h01 : B01 bs) (hok : okG (2 * (bs.length : Int) + 1) gs = true) (ha : Inb bs gs a) (hb : Inb bs gs b) : Gd bs gs (Bd.andM bs.length gs a b) (lit (vals bs gs) a * lit (vals bs gs) b) := by
  obtain ⟨x1, x2, x3, x4, x5⟩ := and_val h01 hok ha.1 ha.2 hb.1 hb.2
  exact ⟨x1, x2, ⟨x3, x4⟩, x5⟩
theorem inb_flp {bs : List Int} {gs : List (Int × Int)} {a : Int} (h : Inb bs gs a) : Inb bs gs (flp a) := by
  obtain ⟨a0, a1⟩ := h
  unfold Inb flp
  omega
theorem inb_ext {bs : List Int} {gs gs' : List (Int × Int)} {a : Int} (e : ∃ ts, gs' = gs ++ ts) (h : Inb bs gs a) : Inb bs gs' a ∧ lit (vals bs gs') a = lit (vals bs gs) a := by
  obtain ⟨ts, rfl⟩ := e
  obtain ⟨a0, a1⟩ := h
  refine ⟨⟨a0, ?_⟩, lit_pre gs ts a0 (by omega)⟩
  rw [List.length_append]
  omega
theorem ext_trans {g1 g2 g3 : List (Int × Int)} (a : ∃ ts, g2 = g1 ++ ts) (b : ∃ ts, g3 = g2 ++ ts) : ∃ ts, g3 = g1 ++ ts := by
  obtain ⟨t, rfl⟩ := a
  obtain ⟨u, rfl⟩ := b
  exact ⟨t ++ u, List.append_assoc ..⟩
theorem or_gd {bs : List Int} {gs : List (Int × Int)} {a b : Int} (h01 : B01 bs) (hok : okG (2 * (bs.length : Int) + 1) gs = true) (ha : Inb bs gs a) (hb : Inb bs gs b) : Gd bs gs (orM bs.length gs a b) (1 - (1 - lit (vals bs gs) a) * (1 - lit (vals bs gs) b)) := by
  have v01 := vals_01 gs h01
  obtain ⟨o, e, i, v⟩ := and_gd h01 hok (inb_flp ha) (inb_flp hb)
  rw [fl_val v01 ha.1, fl_val v01 hb.1] at v
  refine ⟨o, e, inb_flp i, ?_⟩
  show lit (vals bs (Bd.andM bs.length gs (flp a) (flp b)).1) (flp (Bd.andM bs.length gs (flp a) (flp b)).2) = _
  rw [fl_val (vals_01 _ h01) i.1, v]
theorem xor_gd {bs : List Int} {gs : List (Int × Int)} {a b : Int} (h01 : B01 bs) (hok : okG (2 * (bs.length : Int) + 1) gs = true) (ha : Inb bs gs a) (hb : Inb bs gs b) :
    Gd bs gs (xorM bs.length gs a b) ((1 - lit (vals bs gs) a * lit (vals bs gs) b) * (1 - (1 - lit (vals bs gs) a) * (1 - lit (vals bs gs) b))) := by
  have v01 := vals_01 gs h01
  obtain ⟨o1, e1, i1, w1⟩ := and_gd h01 hok ha hb
  obtain ⟨ja, la⟩ := inb_ext e1 ha
  obtain ⟨jb, lb⟩ := inb_ext e1 hb
  obtain ⟨o2, e2, i2, w2⟩ := and_gd h01 o1 (inb_flp ja) (inb_flp jb)
  rw [fl_val (vals_01 _ h01) ha.1, fl_val (vals_01 _ h01) hb.1, la, lb] at w2
  obtain ⟨j1, l1⟩ := inb_ext e2 i1
  obtain ⟨o3, e3, i3, w3⟩ := and_gd h01 o2 (inb_flp j1) (inb_flp i2)
  rw [fl_val (vals_01 _ h01) i1.1, fl_val (vals_01 _ h01) i2.1, l1, w1, w2] at w3
  exact ⟨o3, ext_trans e1 (ext_trans e2 e3), i3, w3⟩
theorem choice_gd {bs : List Int} {gs : List (Int × Int)} {c a b : Int} (h01 : B01 bs) (hok : okG (2 * (bs.length : Int) + 1) gs = true) (hc : Inb bs gs c) (ha : Inb bs gs a) (hb : Inb bs gs b) :
    Gd bs gs (choiceM bs.length gs c a b) (if lit (vals bs gs) c = 1 then lit (vals bs gs) a else lit (vals bs gs) b) := by
  have v01 := vals_01 gs h01
  obtain ⟨o1, e1, i1, w1⟩ := and_gd h01 hok hc ha
  obtain ⟨jc, lc⟩ := inb_ext e1 hc
  obtain ⟨jb, lb⟩ := inb_ext e1 hb
  obtain ⟨o2, e2, i2, w2⟩ := and_gd h01 o1 (inb_flp jc) jb
  rw [fl_val (vals_01 _ h01) hc.1, lc, lb] at w2
  obtain ⟨j1, l1⟩ := inb_ext e2 i1
  obtain ⟨o3, e3, i3, w3⟩ := or_gd h01 o2 j1 i2
  rw [l1, w1, w2] at w3
  refine ⟨o3, ext_trans e1 (ext_trans e2 e3), i3, ?_⟩
  refine w3.trans ?_
  have xa := lit_01 v01 a
  have xb := lit_01 v01 b
  rcases lit_01 v01 c with e | e
  · rw [e, if_neg (by decide)]
    rcases xa with u | u <;> rcases xb with v | v <;> rw [u, v] <;> decide
  · rw [e, if_pos rfl]
    rcases xa with u | u <;> rcases xb with v | v <;> rw [u, v] <;> decide
end Bm
namespace Bw
open PySem PySem.Spec PyProof.Rows L2 Pen Dat Ki Fi Gr No Lf Bd Be Bf Bo
/-! ## k16: the law's looks at a builder -/
theorem ifT {b : Bool} {A B : Prop} (e : b = true) (h : A) : if b = true then A else B := by
  rw [if_pos e]
  exact h
theorem ifF {b : Bool} {A B : Prop} (e : b = false) (h : B) : if b = true then A else B := by
  rw [e]
  exact iteF h
def rLen (K : PySem.W.Frag) : List V → Hp → VK → Prop := fun xs H Q => ∃ p ys, xs = [V.ref p] ∧ (SqL K H p ys ∨ SqT K H p ys) ∧ Q (.int ys.length) H
theorem int_at {xs : List Int} {i : Nat} {y : V} (h : (xs.map V.int)[i]? = some y) : ∃ z, y = V.int z ∧ xs[i]? = some z := by
  rw [List.getElem?_map] at h
  cases e : xs[i]? with
  | none =>
    rw [e] at h
    cases h
  | some u =>
    rw [e] at h
    exact ⟨u, (Option.some.inj h).symm, rfl⟩
structure Tw (K : PySem.W.Frag) (mg : Str → Option Value) (C B fA fG : Addr) : Prop where
  gr : Gr.Tx K mg C
  lf : Lf.Tx mg
  ty : Be.Ty K mg B fA
  mG : Meth K B "graph" fG
  tz : Bo.Tz mg
def spWhole : Sp := fun vs H Q _ => ∃ i : Int, vs = [.int i] ∧ Q (.bl true) H
def spGatesOf (K : PySem.W.Frag) (C : Addr) : Sp := fun vs H Q _ => ∃ (x : Addr) (n : Int) (gs : List (Int × Int)), vs = [.ref x] ∧ GraphAt K C H x n gs ∧ gs.length ≤ 1000 ∧
  ∀ (H' : Hp) (l : Addr) (ws : List V), Same H H' → H' l = some (.lst ws) → All2 (Pt K H') ws gs → Q (.ref l) H'
def spTold (K : PySem.W.Frag) (B : Addr) : Sp := fun vs H Q _ => ∃ (b gl sd r : Addr) (n : Int) (gs : List (Int × Int)) (bs : List Int), vs = [.ref b, .int n, .ref r] ∧ BAt K B H b gl sd n gs ∧ SqT K H r (bs.map V.int) ∧ B01 bs ∧ (bs.length : Int) = n ∧ okG (2 * n + 1) gs = true ∧ gs.length ≤ 1000 ∧ bs.length ≤ 500 ∧
  ∀ (H' : Hp) (l : Addr), Same H H' → H' l = some (.lst ((vals bs gs).map V.int)) → Q (.ref l) H'
def spAreL (K : PySem.W.Frag) : Sp := fun vs H Q _ => ∃ (t l : Addr) (ls xs : List Int), vs = [.ref t, .ref l] ∧ SqT K H t (ls.map V.int) ∧ SqL K H l (xs.map V.int) ∧ xs.length ≤ 2000 ∧ (∀ a ∈ ls, 0 ≤ a ∧ a < 2 * xs.length) ∧ ls.length ≤ 1000 ∧ ∀ H', Same H H' → Q (.bl true) H'
def spLed (K : PySem.W.Frag) : Sp := fun vs H Q _ => ∃ (l : Addr) (xs : List Int) (a : Int), vs = [.ref l, .int a] ∧ SqL K H l (xs.map V.int) ∧ 0 ≤ a ∧ (a / 2).toNat < xs.length ∧ Q (.int (ledL xs a)) H
section
variable {P : Program} {w : World} {K : PySem.W.Frag} {mg : Str → Option Value} {base : Heap} {f B C fA fG : Addr} {fd dA : FuncData}
theorem lkG (n : Int) (gl sd : Addr) : (fB n gl sd).lookup ("graph" : Str) = none := by
  have a : ¬ (("graph" : Str) = "standing") := by decide +kernel
  have b : ¬ (("graph" : Str) = "gates") := by decide +kernel
  have c : ¬ (("graph" : Str) = "leaves") := by decide +kernel
  unfold fB
  rw [lookup_putF, if_neg a, lookup_putF, if_neg b, lookup_putF, if_neg c]
  rfl
abbrev nWhole : List Str := ["_law_thing"]
theorem scWhole : FnScope nWhole ["_law_thing"] (defScope sWhole) := ⟨rfl, rfl, rfl, by decide +kernel, rfl, by decide +kernel, by decide +kernel⟩
abbrev nGatesOf : List Str := ["_law_graph", "_law_gate"]
abbrev nTold : List Str := ["_law_builder", "_law_leaves", "_law_bits", "_law_graph"]
theorem scTold : FnScope nTold ["_law_builder", "_law_leaves", "_law_bits"] (defScope sTold) := ⟨rfl, rfl, rfl, by decide +kernel, rfl, by decide +kernel, by decide +kernel⟩
abbrev nAreLits : List Str := ["_law_word", "_law_found", "_law_literal"]
theorem scAreLits : FnScope nAreLits ["_law_word", "_law_found"] (defScope sAreLits) := ⟨rfl, rfl, rfl, by decide +kernel, rfl, by decide +kernel, by decide +kernel⟩
abbrev nLed : List Str := ["_law_table", "_law_literal", "_law_there"]
theorem ok_whole (F : FnP K "_law_is_whole" sWhole f fd) (T : Ki.Tx mg) : FnOk P w K mg base CX0 1 f fd ["_law_thing"] spWhole := by
  refine F.ok scWhole (fun vs H Q E h => ?_) (fun cdv A outer s H vs Q E hr h => ?_)
  · obtain ⟨i, rfl, _⟩ := h
    rfl
  · obtain ⟨i, rfl, q⟩ := h
    refine ⟨_, PSs.nox (pss_one (ps_ret (pe_and (pe_callB call_isi (by rfl) T.isi (by decide +kernel) (pa_cons (pv 0) (pa_cons (pe_bltn (v := .ty "int") (by rfl) T.int (by decide +kernel) rfl) pa_nil))) (pe_one (pe_not (pe_callB call_isi (by rfl) T.isi (by decide +kernel) (pa_cons (pv 0) (pa_cons (pe_bltn (v := .ty "bool") (by rfl) T.bool (by decide +kernel) rfl) pa_nil)))))))), ?_⟩
    have hd : Dp K H (.int i) (.int i) := .int i
    exact ⟨_, rfl, _, _, _, _, _, rfl, .ty _, ty_of hd, kit_int hd, _, rfl, iteT ⟨_, rfl, _, _, _, _, _, rfl, .ty _, ty_of hd, kit_bool hd, _, rfl, q⟩⟩
theorem ok_told {fV : Addr} {dG dV : FuncData} (F : FnP K "_law_told_values" sTold f fd) (T : Tw K mg C B fA fG) (GG : FnOk P w K mg base CX0 6 fG dG ["self"] (spBGraph K C B)) (bG : Binds K dG ["self"] [])
    (GV : FnOk P w K mg base CX0 2 fV dV ["_law_leaves", "_law_gates", "_law_bits"] (spValues K)) (gV : mg "_law_values" = some (.ref fV)) (kV : PySem.W.keepIn K (.ref fV) = true) (bV : Binds K dV ["_law_leaves", "_law_gates", "_law_bits"] []) :
    FnOk P w K mg base CX0 7 f fd ["_law_builder", "_law_leaves", "_law_bits"] (spTold K B) := by
  refine F.ok scTold (fun vs H Q E h => ?_) (fun cdv A outer s H vs Q E hr h => ?_)
  · obtain ⟨b, gl, sd, r, n, gs, bs, rfl, _⟩ := h
    rfl
  · obtain ⟨b, gl, sd, r, n, gs, bs, rfl, hB, hr1, h01, hn, hok, hz, hz2, q⟩ := h
    refine ⟨_, PSs.nox (pss_cons (ps_set (i := 3) scTold.nd rfl (Or.inl rfl) (pe_meth0 (pv 0) T.ty.t.cl T.mG GG hr bG .nil pass0))
      (pss_one (ps_ret (pe_ifExp (pt_cmpR op_eq (pe_fld (pv 3) rfl) (pv 1) (nomark _)) (pe_call GV (hr.mono (by decide)) (by rfl) gV kV bV .nil pass0 (pa_cons (pv 1) (pa_cons (pe_fld (pv 3) rfl) (pa_cons (pv 2) pa_nil)))) pe_non)))), ?_⟩
    obtain ⟨dx, ws, kvs, hb, _⟩ := id hB
    refine ⟨_, rfl, b, dx, _, rfl, hb, lkG _ _ _, b, gl, sd, n, gs, rfl, hB, by omega, by omega, hok, fun H1 x s1 G1 => ?_⟩
    obtain ⟨dg, g, x1, hg⟩ := id G1
    refine ⟨_, rfl, x, C, dg, _, _, rfl, x1, T.gr.cl, T.gr.nL, flds_L _ _, _, rfl, rfl, _, rfl, ifT (decide_eq_true rfl) ?_⟩
    refine ⟨_, rfl, _, rfl, x, C, dg, _, _, rfl, x1, T.gr.cl, T.gr.nG, flds_G _ _, _, rfl, .int n, g, r, gs, bs, rfl, hg, seqT_same s1 hr1, h01, by rw [hn]; exact hok, hz2, hz, fun H2 l s2 _ h2 => ?_⟩
    exact q H2 l (s1.trans s2) h2
theorem ok_arelits {fW : Addr} {dW : FuncData} (F : FnP K "_law_are_literals" sAreLits f fd) (T : Ki.Tx mg)
    (GW : FnOk P w K mg base CX0 1 fW dW ["_law_thing"] spWhole) (gW : mg "_law_is_whole" = some (.ref fW)) (kW : PySem.W.keepIn K (.ref fW) = true) (bW : Binds K dW ["_law_thing"] []) :
    FnOk P w K mg base CX0 2 f fd ["_law_word", "_law_found"] (spAreL K) := by
  refine F.ok scAreLits (fun vs H Q E h => ?_) (fun cdv A outer s H vs Q E hr h => ?_)
  · obtain ⟨t, l, ls, xs, rfl, _⟩ := h
    rfl
  · obtain ⟨t, l, ls, xs, rfl, ht, hl, hz, hin, hz2, q⟩ := h
    refine ⟨_, PSs.nox (pss_cons (ps_if (pt_not (pt_val (pe_callB call_isi (by rfl) T.isi (by decide +kernel) (pa_cons (pv 0) (pa_cons (pe_bltn (v := .ty "tuple") (by rfl) T.tuple (by decide +kernel) rfl) pa_nil)))))
        (pss_one (ps_ret pe_bl))
        pss_nil)
      (pss_one (ps_ret (pe_cmpR (op_eqD hr.units) (pe_lc (own := [("_law_literal", 2)]) (g := gName 2) rfl scAreLits.nd (pi_tup (pv 0)) (blkOk_by (N := nAreLits) (sc := defScope sAreLits) (by decide +kernel)) (fun _ _ _ _ _ => pg_name (i := 2) scAreLits.nd rfl (Or.inl rfl)) (fun _ _ _ _ _ => pts_one (PW.pt (pw_or (pt_not (pt_val (pe_call GW hr (by rfl) gW kW bW .nil pass0 (pa_cons (pv 2) pa_nil)))) (pw_or1 (pt_not (pt_chain op_le op_lt pe_int (pv 2) (pe_op op_mul pe_int (pe_callB (r := rLen K) (by exact call_len_seq) (by rfl) T.len PySem.boot_len (pa_cons (pv 1) pa_nil))))))))) (fun _ _ _ _ _ => pe_int)) (pe_lst pa_nil) (nomark _))))), ?_⟩
    have hd : Dp K H (.ref t) (.tuple (ls.map .int)) := .tup ht (ints_dp ls)
    refine ⟨_, rfl, _, _, _, _, _, rfl, .ty _, ty_of hd, kit_ty (a := "tuple") (b := "tuple") (r := true) (by decide +kernel), _, rfl, iteF ?_⟩
    refine ⟨_, rfl, t, rfl, ⟨_, ht⟩, fun D nD => ?_⟩
    refine lc_tup (K := K) (a := t) (xs := ls.map V.int) (fun i H2 => Same H H2 ∧ H2 D = some (.lst [])) ⟨same_new nD, upd_same⟩ (fun i H2 _ ⟨s2, _⟩ => seqT_same s2 ht) ?_ ?_
    · rintro i y H2 hi ⟨s2, h2⟩
      obtain ⟨a, rfl, ha⟩ := int_at hi
      obtain ⟨a0, a1⟩ := hin a (List.mem_of_getElem? ha)
      refine ⟨rfl, ?_⟩
      refine ⟨_, rfl, a, rfl, _, rfl, iteF ?_⟩
      refine ⟨_, rfl, _, _, rfl, rfl, _, rfl, ifT (decide_eq_true a0) ?_⟩
      refine ⟨_, rfl, l, _, rfl, .inl (s2.seq hl), _, _, rfl, rfl, .inl ⟨by decide, by decide⟩, _, _, rfl, rfl, _, rfl, ?_⟩
      have e : a < 2 * ((xs.map V.int).length : Int) := by
        rw [List.length_map]
        exact a1
      exact ifF (by rw [decide_eq_true e]; rfl) ⟨s2, h2⟩
    · rintro H2 ⟨s2, h2⟩
      refine ⟨(by show 0 ≤ sizeLine; decide), fun l3 n3 => ?_⟩
      have sl := same_new (u := .lst []) n3
      exact ⟨_, _, .lst (SqL.of (sl _ _ h2)) .nil, .lst (SqL.of upd_same) .nil, (by rfl), (by rfl), q _ (s2.trans sl)⟩
end
end Bw
namespace Bx
open PySem PySem.Spec PyProof.Rows L2 Pen Dat Ki Fi Gr No Lf Cn Bd Be Bf Bm Bo Bw
/-! ## k16: puts, looks, and what is built further -/
def spLits : Sp := fun vs H Q _ => ∃ (p c : Addr) (k : Nat) (n m : Int), vs = [.ref p, .int n, .int m] ∧ PenC H p c k ∧ k ≤ 100000000000 ∧ 0 < n ∧ n ≤ 1000 ∧ 0 ≤ m ∧ m ≤ 100 ∧
  ∀ (H' : Hp) (t : Addr) (ls : List Int), PenC H' p c (k + m.toNat) → But p H H' → ls.length = m.toNat → (∀ l ∈ ls, 0 ≤ l ∧ l < 2 * n) → H' t = some (.tup (ls.map V.int)) → Q (.ref t) H'
theorem cut_any {K : PySem.W.Frag} {H : Hp} {q0 : Addr} {xs : List V} {m : Nat} {j : Int} {R : VK} (hj : (m : Int) = j) (hq : SqT K H q0 xs) (hn : m ≤ xs.length) (k : ∀ t H', Same H H' → SqT K H' t (xs.take m) → R (.ref t) H') :
    L2.rSlA K (.ref q0) none (some j) H R := by
  subst hj
  have ix : HT.sIx xs.length xs.length (some (m : Int)) = m := by
    show (if ((m : Int)) < 0 then ((m : Int) + (xs.length : Int)).toNat else min (m : Int).toNat xs.length) = _
    rw [if_neg (by omega)]
    omega
  refine ⟨q0, _, rfl, hq, fun hw => ?_, fun _ p np => ?_⟩
  · have e := hw.2
    rw [ix] at e
    refine k q0 H (fun _ _ e => e) ?_
    rw [e, List.take_length]
    exact hq
  · refine k p _ (same_new np) (SqT.of ?_)
    rw [upd_same]
    unfold cutV
    rw [ix]
    rfl
/-- a literal of a node of n leaves and the gates -/
def InN (n : Nat) (gs : List (Int × Int)) (a : Int) : Prop := 0 ≤ a ∧ a ≤ 2 * ((n : Int) + gs.length) + 1
def zeros (n : Nat) : List Int := List.replicate n 0
theorem zeros_01 (n : Nat) : B01 (zeros n) := fun z hz => .inl (List.eq_of_mem_replicate hz)
theorem zeros_len (n : Nat) : (zeros n).length = n := List.length_replicate ..
structure Gd0 (n : Nat) (gs : List (Int × Int)) (r : List (Int × Int) × Int) : Prop where
  ok : okG (2 * (n : Int) + 1) r.1 = true
  ext : ∃ ts, r.1 = gs ++ ts
  inb : InN n r.1 r.2
theorem and_g0 {n : Nat} {gs : List (Int × Int)} {a b : Int} (hok : okG (2 * (n : Int) + 1) gs = true) (ha : InN n gs a) (hb : InN n gs b) : Gd0 n gs (Bd.andM n gs a b) := by
  have z := zeros_len n
  have g := and_gd (bs := zeros n) (gs := gs) (a := a) (b := b) (zeros_01 n) (by rw [z]; exact hok) (by unfold Inb; rw [z]; exact ha) (by unfold Inb; rw [z]; exact hb)
  obtain ⟨x1, x2, x3, _⟩ := g
  unfold Inb at x3
  rw [z] at x1 x2 x3
  exact ⟨x1, x2, x3⟩
/-- what a put keeps -/
theorem PenC.but2 {H H' : Hp} {p c x y : Addr} {m : Nat} (h : PenC H p c m) (k : But2 x y H H') (n1 : p ≠ x) (n2 : p ≠ y) (n3 : c ≠ x) (n4 : c ≠ y) : PenC H' p c m := by
  obtain ⟨ns, a, d, n, f, h1, h2, r⟩ := h
  exact ⟨ns, a, d, n, f, k _ _ h1 n1 n2, k _ _ h2 n3 n4, r⟩
theorem bat_pen {K : PySem.W.Frag} {B : Addr} {H : Hp} {b gl sd p c : Addr} {n : Int} {gs : List (Int × Int)} {m : Nat} (h : BAt K B H b gl sd n gs) (P : PenC H p c m) : b ≠ p ∧ gl ≠ p ∧ sd ≠ p ∧ sd ≠ c ∧ b ≠ gl ∧ b ≠ sd ∧ gl ≠ sd := by
  obtain ⟨dx, ws, kvs, h1, h2, _, h4, _⟩ := h
  obtain ⟨ns, a, d, n, f, p1, p2, _⟩ := P
  refine ⟨?_, ?_, ?_, ?_, ?_, ?_, ?_⟩ <;> intro e <;> subst e
  · rw [h1] at p1; cases p1
  · rw [h2] at p1; cases p1
  · rw [h4] at p1; cases p1
  · rw [h4] at p2; cases p2
  · rw [h1] at h2; cases h2
  · rw [h1] at h4; cases h4
  · rw [h2] at h4; cases h4
theorem BAt.but {K : PySem.W.Frag} {B : Addr} {H H' : Hp} {b gl sd p c : Addr} {n : Int} {gs : List (Int × Int)} {m : Nat} (h : BAt K B H b gl sd n gs) (P : PenC H p c m) (k : But p H H') : BAt K B H' b gl sd n gs := by
  obtain ⟨n1, n2, n3, _⟩ := bat_pen h P
  obtain ⟨dx, ws, kvs, h1, h2, h3, h4, h5⟩ := h
  exact ⟨dx, ws, kvs, k _ _ h1 n1, k _ _ h2 n2, h3.imp fun _ _ h => h.firm (Firm.pen k P), k _ _ h4 n3, h5⟩
theorem BAt.same {K : PySem.W.Frag} {B : Addr} {H H' : Hp} {b gl sd : Addr} {n : Int} {gs : List (Int × Int)} (h : BAt K B H b gl sd n gs) (s : Same H H') : BAt K B H' b gl sd n gs := by
  obtain ⟨dx, ws, kvs, h1, h2, h3, h4, h5⟩ := h
  exact ⟨dx, ws, kvs, s _ _ h1, s _ _ h2, h3.imp fun _ _ h => h.firm (Firm.of s), s _ _ h4, h5⟩
section
variable {P : Program} {w : World} {K : PySem.W.Frag} {mg : Str → Option Value} {base : Heap} {f B C fA fG : Addr} {fd dA : FuncData}
abbrev nLits : List Str := ["_law_pen_here", "_law_nodes", "_law_many", "_law_k"]
theorem scLits : FnScope nLits ["_law_pen_here", "_law_nodes", "_law_many"] (defScope sLits) := ⟨rfl, rfl, rfl, by decide +kernel, rfl, by decide +kernel, by decide +kernel⟩
abbrev liN : List Str := nLits
abbrev nOwnPut : List Str := ["_law_own", "_law_gates", "_law_leaves", "_law_literals_here", "_law_table", "_law_one", "_law_other", "_law_literal"]
theorem ok_lits {fD : Addr} {fdD : FuncData} (F : FnP K "_law_literals" sLits f fd) (T : Lf.Tx mg) (FD : FnP K "_law_draw" sDraw fD fdD) (gD : mg "_law_draw" = some (.ref fD)) : FnOk P w K mg base CX0 2 f fd ["_law_pen_here", "_law_nodes", "_law_many"] spLits := by
  have GD : FnOk P w K mg base CX0 1 fD fdD ["_law_pen_here", "_law_many"] spDraw := ok_draw FD T.pen
  have bD : Binds K fdD ["_law_pen_here", "_law_many"] [] := FD.bindsN fun _ _ _ _ _ _ us hl => match us, hl with | [_, _], _ => rfl
  refine F.ok scLits (fun vs H Q E h => ?_) (fun cdv A outer s H vs Q E hr h => ?_)
  · obtain ⟨p, c, k, n, m, rfl, _⟩ := h
    rfl
  · obtain ⟨p, c, k, n, m, rfl, hP, hk, n0, n1, m0, m1, q⟩ := h
    refine ⟨_, PSs.nox (pss_one (ps_ret (pe_callTy call_tuple_of (by rfl) T.tuple (by decide +kernel) (pa_cons
      (pe_lc (own := [("_law_k", 3)]) (g := gName 3) (tt := tYes) rfl scLits.nd (pi_range1 (by rfl) T.range (pa_cons (pv 2) pa_nil)) (blkOk_by (N := liN) (sc := defScope sLits) (by decide +kernel)) (fun _ _ _ _ _ => pg_name (i := 3) scLits.nd rfl (Or.inl rfl)) (fun _ _ _ _ _ => pts_nil)
        (fun _ _ _ _ _ => pe_call GD hr (by rfl) gD FD.kp bD .nil pass0 (pa_cons (pv 0) (pa_cons (pe_op op_mul pe_int (pv 1)) pa_nil)))) pa_nil)))), ?_⟩
    refine ⟨_, rfl, m, rfl, by omega, by omega, fun D nD => ?_⟩
    obtain ⟨Dp_, Dc⟩ := hP.free nD
    have sD := same_new (u := .lst []) nD
    refine lc_range (lo := 0) (n := m.toNat) (fun i H2 => PenC H2 p c (k + i) ∧ (∀ b o, H b = some o → b ≠ p → H2 b = some o) ∧ ∃ ls : List Int, H2 D = some (.lst (ls.map V.int)) ∧ ls.length = i ∧ ∀ l ∈ ls, 0 ≤ l ∧ l < 2 * n)
      ⟨hP.same sD, fun b o e _ => sD b o e, [], upd_same, rfl, fun l z => by cases z⟩ ?_ ?_
    · rintro i H2 hi ⟨P2, k2, ls, h2, hl, hz⟩
      refine ⟨rfl, yes_of ?_⟩
      refine ⟨_, rfl, _, rfl, _, _, rfl, rfl, .inl ⟨by decide, by decide⟩, p, c, k + i, 2 * n, rfl, P2, by omega, by omega, by omega, fun r H3 r0 r1 P3 B3 => ?_⟩
      refine ⟨_, B3 _ _ h2 Dp_, ?_, P3.upd Dp_ Dc, fun b o e ne => ?_, ls ++ [r], ?_, ?_, fun l ml => ?_⟩
      · rw [List.length_map, hl]
        exact Nat.lt_trans hi (Nat.lt_of_lt_of_le (by omega : m.toNat < 200) (by decide))
      · rw [upd_ne (ne_of_none e nD)]
        exact B3 _ _ (k2 b o e ne) ne
      · rw [upd_same, List.map_append]
        rfl
      · rw [List.length_append, hl]
        rfl
      · rcases List.mem_append.mp ml with q | q
        · exact hz l q
        · rw [List.mem_singleton.mp q]
          exact ⟨r0, r1⟩
    · rintro H2 ⟨P2, k2, ls, h2, hl, hz⟩
      refine ⟨D, _, rfl, .inl ⟨SqL.of h2, fun t nt => ?_⟩⟩
      have st := same_new (u := .tup (ls.map V.int)) nt
      exact q _ t ls (P2.same st) (fun b o e ne => st _ _ (k2 b o e ne)) hl hz upd_same
end
end Bx
namespace En
open PySem PySem.Spec PyProof.Rows L2
/-! ## enumerate(t), t a tuple -/
set_option maxHeartbeats 1000000 in
theorem new_meets {v : Value} {o : Obj} {G : Heap → Prop} (B : Begins v o G) :
    Meets (Builtin.«enumerate.__new__» ⟨[.type "enumerate", v], []⟩) (fun _ R s => G s.heap ∧ R (.ok (.ret (.ref (s.heap.push o).objs.size))) { s with heap := (s.heap.push o).push { cls := .type "enumerate", data := .fields #[.none, .bool false, .ref s.heap.objs.size, rawInt 0, .none, .none] } }) :=
  .of_wp fun prog w A R s h => by
    obtain ⟨hp, gs, dr, tk, os⟩ := s
    obtain ⟨hG, hR⟩ := h
    have sub := sub_enumerate
    have it : ∀ {A' : Around} {E Q : Value → Shared → Prop}, Q (.ref hp.objs.size) ⟨hp.push o, gs, dr, tk, os⟩ → wpAny (model prog w) A' (pyIter v) Q E ⟨hp, gs, dr, tk, os⟩ := fun q => B.iter prog w _ _ ⟨hp, gs, dr, tk, os⟩ _ hG q
    wp_walk using it
    refine wpAny_stack_any fun st => wpAny_pure ?_
    split
    · rename_i cl _ _ _ _ _
      cases (cl == Value.type "enumerate")
      all_goals
        wp_walk using it
        exact ⟨_, rfl, hR⟩
    · wp_walk using it
      exact ⟨_, rfl, hR⟩
section
variable {prog : Program} {w : World} {A : Around} {E : Value → Shared → Prop} {s : Shared}
theorem call_new {v : Value} {o : Obj} {G : Heap → Prop} {Q : Value → Shared → Prop} (B : Begins v o G) (hG : G s.heap)
    (h : ∀ h', IsEnum h' (s.heap.objs.size + 1) s.heap.objs.size 0 .none → h'.get? s.heap.objs.size = some o → (∀ b u, s.heap.get? b = some u → h'.get? b = some u) → Q (.ref (s.heap.objs.size + 1)) { s with heap := h' }) :
    wpAny (model prog w) A (call (.type "enumerate") [v]) Q E s := by
  refine callType_new F.called_enumerate (by decide) (F.typeCall_enumerate_1 _) (F.newCall_enumerate_1 _) (fun obj => F.args_object_init_2 obj _) F.entry_enumerate_new (new_meets B) ⟨hG, ?_⟩
  have size : (s.heap.push o).objs.size = s.heap.objs.size + 1 := Heap.size_push ..
  show _ ∧ _
  rw [size]
  have made : IsEnum ((s.heap.push o).push { cls := .type "enumerate", data := .fields #[.none, .bool false, .ref s.heap.objs.size, rawInt 0, .none, .none] }) (s.heap.objs.size + 1) s.heap.objs.size 0 .none := by
    have z := Heap.get?_push_size (s.heap.push o) (o := { cls := .type "enumerate", data := .fields #[.none, .bool false, .ref s.heap.objs.size, rawInt 0, .none, .none] }) rfl
    rw [size] at z
    exact z
  exact ⟨⟨_, made, rfl⟩, h _ made (Heap.get?_push_of_some _ (Heap.get?_push_size _ B.free)) fun b u q => Heap.get?_push_of_some _ (Heap.get?_push_of_some _ q)⟩
end
section
variable {prog : Program} {w : World} {A : Around} {E : Value → Shared → Prop} {s : Shared}
theorem next_end {e it a : Addr} {i : Nat} {c : Int} {items : Array Value} {old : Value} {Q : Option Value → Shared → Prop} (calm : A.handled = none) (he : IsEnum s.heap e it c old) (hi : s.heap.IsTupleIter it a i) (ht : s.heap.IsTuple a items) (none_left : items[i]? = none)
    (h : ∀ h', Heap.ExtBut it s.heap h' → Q none { s with heap := h' }) : wpAny (model prog w) A (pyNext (.ref e)) Q E s := by
  have ty : s.TypeIs (.ref e) "enumerate" := ⟨_, he, rfl⟩
  unfold pyNext
  refine wpAny_bind (wpAny_attempt (wpAny_callSpecial?_slot (name := Str.ofString "__next__") ty F.slot_enumerate_next (wpAny_call_entry F.slot_enumerate_next ty F.entry_enumerate_next ?_ (F.args_enumerate_next_1 _))))
  show wpAny _ _ (field (.ref e) 2 >>= _) _ _ _
  refine wpAny_bind (wpAny_field he rfl (x := .ref it) rfl (wpAny_bind (wpAny_nextOf_tuple_end calm hi ht none_left fun h' x ext stop => ?_)))
  obtain ⟨o, ho, hc⟩ := stop
  exact wpAny_bind (wpAny_isInstance (T := "StopIteration") (b := true) ⟨o, ho, hc⟩ isSubtype_stop (wpAny_pure (h _ ext)))
end
/-- the tuple at a, each item in a new pair with its place -/
def Iet (K : PySem.W.Frag) (a : Addr) : It :=
  ⟨fun i H => ∃ (xs : List V) (x : V), SqT K H a xs ∧ xs[i]? = some x, fun i H v H' => ∃ T x, v = .ref T ∧ H T = none ∧ H' = upd H T (.tup [.int (i : Nat), x]) ∧ ∀ xs, SqT K H a xs → xs[i]? = some x, fun i H => ∃ xs : List V, SqT K H a xs ∧ xs.length ≤ i⟩
theorem apart {s : Shared} {e it a : Addr} {c : Int} {old : Value} {i : Nat} {items : Array Value} (he : IsEnum s.heap e it c old) (hi : s.heap.IsTupleIter it a i) (ht : s.heap.IsTuple a items) : e ≠ it ∧ e ≠ a ∧ a ≠ it := by
  obtain ⟨oi, h1, h2, _⟩ := hi
  obtain ⟨ot, h3, h4, _⟩ := ht
  refine ⟨fun z => ?_, fun z => ?_, fun z => ?_⟩
  · rw [← z, he] at h1
    rw [← Option.some.inj h1] at h2
    exact absurd (Value.type.inj h2) (by decide)
  · rw [← z, he] at h3
    rw [← Option.some.inj h3] at h4
    exact absurd (Value.type.inj h4) (by decide)
  · rw [z, h1] at h3
    rw [← Option.some.inj h3, h2] at h4
    exact absurd (Value.type.inj h4) (by decide)
theorem turn {P : Program} {w : World} {K : PySem.W.Frag} {es : List Expr} {k : Nat} {pos : Pos} (a e it : Addr) :
    Turn P w K (.Tuple es k pos) (Iet K a) [e, it] e (fun i h => (∃ old, IsEnum h e it ((i : Nat) : Int) old) ∧ h.IsTupleIter it a i) where
  mem := List.mem_cons_self
  obj := fun i h st b hb => by
    obtain ⟨⟨old, he⟩, ⟨o, ho, hc, hd⟩⟩ := st
    rcases List.mem_cons.mp hb with rfl | hb
    · exact ⟨_, he, fun v q => nomatch q⟩
    · rw [List.mem_singleton.mp hb]
      exact ⟨o, ho, fun v q => by rw [hd] at q; cases q⟩
  keep := fun i h h' st kp => by
    obtain ⟨⟨old, he⟩, hi⟩ := st
    exact ⟨⟨old, kp e List.mem_cons_self _ he⟩, hi.at fun o q => kp it (List.mem_cons_of_mem _ (List.mem_singleton.mpr rfl)) o q⟩
  item := by
    rintro X rfl rfl rfl calm i pins s σ H E I fp ⟨⟨old, he⟩, hi⟩ ⟨xs, x, hq, hx⟩
    obtain ⟨its, rv, ht, _⟩ := I.tuple hq
    obtain ⟨u, hu, ru⟩ := rv.get hx
    obtain ⟨n1, n2, n3⟩ := apart he hi ht
    have le : e < s.heap.objs.size := Heap.lt_size he
    have li : it < s.heap.objs.size := by
      obtain ⟨_, q, _⟩ := hi
      exact Heap.lt_size q
    have hlt : i < its.toArray.size := by
      have z := (List.getElem?_eq_some_iff.mp hu).1
      simpa using z
    refine wpAny_pyNext_enum_itemD (Draws.tuple (A := X.A.in1) (I.ok.hd calm) it a n3 its.toArray) he ⟨hi, ht⟩ hlt n1 (by simp [n1, n2]) fun y h' tk hy out st made _ same => ?_
    have ey : y = u := by
      have z : its[i]? = some y := by simpa using hy
      rw [hu] at z
      exact (Option.some.inj z).symm
    subst ey
    refine ⟨_, rfl, wpAny_letOwnedTupleGo_enum (s := { s with heap := h', toks := tk + 1 }) out fun h2 he2 sb => ?_⟩
    have made2 : h2.get? s.heap.objs.size = some { cls := .type "tuple", data := .seq #[.int i tk, y] } := (sb.2 _ (Nat.ne_of_gt le)).trans made
    have new : ObjOk X.prog X.w (upd H s.heap.objs.size (.tup [.int (i : Nat), x])) h2 s.heap.objs.size (.tup [.int (i : Nat), x]) := ⟨by show 2 ≤ sizeLine; decide, [.int i tk, y], .cons ⟨_, rfl⟩ (.cons ru .nil), ⟨_, made2, rfl, _, rfl⟩⟩
    have I1 := I.turnedNew (t' := tk + 1) (ch := [e, it]) (fun b ob hb q => (sb.2 b fun z => hb (by simp [z])).trans (same b ob (fun z => hb (by simp [z])) (fun z => hb (by simp [z])) q)) fp (Nat.le_refl _) new
    refine ⟨.ref s.heap.objs.size, _, I1, rfl, ⟨_, x, rfl, I.hok.fresh (Nat.le_refl _), rfl, fun ys hy => by rw [I.tuple_inj hy hq]; exact hx⟩, ⟨⟨y, ?_⟩, st.1.at fun o q => (sb.2 it n1.symm).trans q⟩, fun b hb => ?_⟩
    · rw [show ((i + 1 : Nat) : Int) = (i : Int) + 1 by omega]
      exact he2
    · have hb2 : b < s.heap.objs.size := by
        rcases List.mem_cons.mp hb with rfl | hb
        · exact le
        · rw [List.mem_singleton.mp hb]
          exact li
      rw [upd_ne (Nat.ne_of_lt hb2)]
      exact (fp b hb).1
  done := by
    rintro X rfl rfl rfl calm i pins s σ H E I fp ⟨⟨old, he⟩, hi⟩ ⟨xs, hq, hx⟩
    obtain ⟨its, rv, ht, _⟩ := I.tuple hq
    obtain ⟨n1, n2, n3⟩ := apart he hi ht
    obtain ⟨f0, f1, f2, f3, f4, f5⟩ := fp it (List.mem_cons_of_mem _ (List.mem_singleton.mpr rfl))
    have hl := rv.length
    refine next_end (I.ok.hd calm) he hi ht (by simp; omega) fun h' eb => ⟨rfl, I.turned (t' := s.toks) (fun b o hb q => eb b o hb q) f0 f1 f3 f4 f5⟩
  self := fun A i s Q E st h => let ⟨⟨_, he⟩, _⟩ := st; wpAny_pyIter_enum he h
/-- for i, x in enumerate(t) -/
def iEnT (K : PySem.W.Frag) (ta : TA) : TI := fun σ H R => ta σ H fun vs H1 => ∃ a xs, vs = [.ref a] ∧ SqT K H1 a xs ∧ R (Iet K a) H1
theorem pi_enT {X : Cx} {e : Expr} {ta : TA} {p pos tpos : Pos} {es : List Expr} {k : Nat} (hg : Gl X "enumerate") (hm : X.mg "enumerate" = none) (ha : PA X [e] ta) (hs : starEach [e] X.env = [(false, eval e X.env)] := by rfl) :
    PI X (.Tuple es k tpos) (.Call (.Name "enumerate" p) [e] [] pos) (iEnT X.K ta) := by
  refine ⟨fun pins s σ H R I h => Call_ (ld_blt I hg hm boot_enumerate (PyProof.Rows.callWith_type1 (thn (ha.run pos pins s σ H _ I h) fun us s1 z => ?_) hs rfl))⟩
  obtain ⟨vs, H1, I1, r1, a, xs, rfl, hq, q⟩ := z
  obtain ⟨u, rfl, ru⟩ := vals1 r1
  have hu : u = Value.ref a := ru
  subst hu
  obtain ⟨its, rv, ht, _⟩ := I1.tuple hq
  refine call_new (begins_tuple a its.toArray) ht fun h' he hit same => wpAny_pyIter_enum he ?_
  have I2 := I1.kept (t' := s1.toks) same
  refine ⟨s1.heap.objs.size + 1, [s1.heap.objs.size + 1, s1.heap.objs.size], _, _, H1, rfl, I2, turn a (s1.heap.objs.size + 1) s1.heap.objs.size, ⟨⟨.none, he⟩, ⟨_, hit, rfl, rfl⟩⟩, fun b hb => ?_, q⟩
  have low : s1.heap.objs.size ≤ b := by
    rcases List.mem_cons.mp hb with rfl | hb
    · exact Nat.le_succ _
    · rw [List.mem_singleton.mp hb]
      exact Nat.le_refl _
  exact I1.fpOk low (I1.hok.fresh low)
theorem for_enT {K : PySem.W.Frag} {a : Addr} {xs : List V} {g : TG} {tb : TS} {D : Ends} {σ : L2.St} {H : Hp} (Pv : Nat → L2.St → Hp → Prop) (h0 : Pv 0 σ H) (hl : ∀ i σ H, i ≤ xs.length → Pv i σ H → SqT K H a xs)
    (hs : ∀ i x σ H T, xs[i]? = some x → Pv i σ H → H T = none → g (.ref T) σ (upd H T (.tup [.int (i : Nat), x])) fun σ2 H2 => tb { D with nx := Pv (i + 1), ct := Pv (i + 1), bk := D.nx } σ2 H2) (hd : ∀ σ H, Pv xs.length σ H → D.nx σ H) :
    ∃ W : Nat → Nat → L2.St → Hp → Prop, (∃ m, W 0 m σ H) ∧ ∀ i m σ H, W i m σ H →
      ((Iet K a).stop i H ∧ D.nx σ H) ∨ ((Iet K a).go i H ∧ ∃ N : L2.St → Hp → Prop, (∀ σ' H', N σ' H' → ∃ m', m' < m ∧ W (i + 1) m' σ' H') ∧ ∀ x H', (Iet K a).yld i H x H' → g x σ H' fun σ2 H2 => tb { D with nx := N, ct := N, bk := D.nx } σ2 H2) := by
  refine ⟨fun i m σ H => m = xs.length - i ∧ i ≤ xs.length ∧ Pv i σ H, ⟨_, rfl, Nat.zero_le _, h0⟩, ?_⟩
  rintro i m σ H ⟨rfl, hi, p⟩
  have q := hl i σ H hi p
  rcases Nat.lt_or_ge i xs.length with lt | ge
  · have hx := List.getElem?_eq_getElem lt
    refine .inr ⟨⟨xs, _, q, hx⟩, Pv (i + 1), fun σ' H' p' => ⟨xs.length - (i + 1), by omega, rfl, lt, p'⟩, ?_⟩
    rintro x H' ⟨T, y, rfl, nT, rfl, hy⟩
    exact hs i y σ H T (hy xs q) p nT
  · have e : i = xs.length := Nat.le_antisymm hi ge
    exact .inl ⟨⟨xs, q, ge⟩, hd σ H (e ▸ p)⟩
end En
namespace Zp
open PySem PySem.Spec PyProof.Rows L2
/-! ## zip of two rows, each a list or a tuple -/
/-- a row at a: a list if t, else a tuple -/
def SqB (K : PySem.W.Frag) (t : Bool) (H : Hp) (a : Addr) (xs : List V) : Prop := match t with
  | true => SqL K H a xs
  | false => SqT K H a xs
def IsB (t : Bool) (h : Heap) (a : Addr) (us : Array Value) : Prop := match t with
  | true => h.IsList a us
  | false => h.IsTuple a us
def ItB (t : Bool) (h : Heap) (j a : Addr) (i : Nat) : Prop := match t with
  | true => h.IsListIter j a i
  | false => h.IsTupleIter j a i
def obB (t : Bool) (a : Addr) : Obj := match t with
  | true => { cls := .type "list_iterator", data := .fields #[.ref a, .int 0 0] }
  | false => { cls := .type "tuple_iterator", data := .fields #[.ref a, .int 0 0] }
theorem drawsB {prog : Program} {w : World} {A : Around} (hh : A.handled = none) (t : Bool) (j a : Addr) (ne : a ≠ j) (us : Array Value) :
    Draws prog w A j [j, a] us.size (fun i v => us[i]? = some v) (fun i h => ItB t h j a i ∧ IsB t h a us) := by
  cases t with
  | true => exact Draws.list hh j a ne us
  | false => exact Draws.tuple hh j a ne us
theorem beginsB (t : Bool) (a : Addr) (us : Array Value) : Begins (.ref a) (obB t a) fun h => IsB t h a us := by
  cases t with
  | true => exact begins_list a us
  | false => exact begins_tuple a us
theorem ItB.obj {t : Bool} {h : Heap} {j a : Addr} {i : Nat} (x : ItB t h j a i) : ∃ o, h.get? j = some o ∧ ∀ v, o.data ≠ .cell v := by
  cases t with
  | true =>
    obtain ⟨o, ho, _, hd⟩ := x
    exact ⟨o, ho, fun v q => by rw [hd] at q; cases q⟩
  | false =>
    obtain ⟨o, ho, _, hd⟩ := x
    exact ⟨o, ho, fun v q => by rw [hd] at q; cases q⟩
theorem ItB.to {t : Bool} {h h' : Heap} {j a : Addr} {i : Nat} (x : ItB t h j a i) (k : ∀ o, h.get? j = some o → h'.get? j = some o) : ItB t h' j a i := by
  cases t with
  | true => exact Heap.IsListIter.at x k
  | false => exact Heap.IsTupleIter.at x k
theorem ItB.new {t : Bool} {h : Heap} {j a : Addr} (x : h.get? j = some (obB t a)) : ItB t h j a 0 := by
  cases t with
  | true => exact ⟨_, x, rfl, rfl⟩
  | false => exact ⟨_, x, rfl, rfl⟩
theorem IsB.lt {t : Bool} {h : Heap} {a : Addr} {us : Array Value} (x : IsB t h a us) : a < h.objs.size := by
  cases t with
  | true =>
    obtain ⟨o, ho, _⟩ := x
    exact Heap.lt_size ho
  | false =>
    obtain ⟨o, ho, _⟩ := x
    exact Heap.lt_size ho
section
variable {X : Cx} {pins : List (Addr × Obj)} {σ : L2.St} {H : Hp} {s : Shared} {a : Addr} {t : Bool} {xs ys : List V}
theorem sqB_get (I : Inv X pins σ H s) (h : SqB X.K t H a xs) : ∃ its : List Value, Vals xs its ∧ IsB t s.heap a its.toArray := by
  cases t with
  | true =>
    obtain ⟨its, r, p, _⟩ := I.list h
    exact ⟨its, r, p.isList⟩
  | false =>
    obtain ⟨its, r, p, _⟩ := I.tuple h
    exact ⟨its, r, p⟩
theorem sqB_inj (I : Inv X pins σ H s) (h : SqB X.K t H a xs) (k : SqB X.K t H a ys) : xs = ys := by
  cases t with
  | true => exact I.list_inj h k
  | false => exact I.tuple_inj h k
end
/-- the rows at a and b as they stand at each turn, their items in new pairs -/
def Izb (K : PySem.W.Frag) (t u : Bool) (a b : Addr) : It :=
  ⟨fun i H => ∃ (xs ys : List V) (x y : V), SqB K t H a xs ∧ SqB K u H b ys ∧ xs[i]? = some x ∧ ys[i]? = some y,
   fun i H v H' => ∃ q x y, v = .ref q ∧ H q = none ∧ H' = upd H q (.tup [x, y]) ∧ (∀ xs, SqB K t H a xs → xs[i]? = some x) ∧ ∀ ys, SqB K u H b ys → ys[i]? = some y,
   fun i H => ∃ xs ys : List V, SqB K t H a xs ∧ SqB K u H b ys ∧ i ≤ xs.length ∧ i ≤ ys.length ∧ (i = xs.length ∨ i = ys.length)⟩
abbrev five (N : Nat) : List Addr := [N + 4, N + 2, N + 3, N, N + 1]
theorem five_mem {N : Nat} {c : Addr} (h : c ∈ five N) : c = (N + 4 : Nat) ∨ c = (N + 2 : Nat) ∨ c = (N + 3 : Nat) ∨ c = (N : Nat) ∨ c = (N + 1 : Nat) := by simpa [five] using h
theorem no_five {N : Nat} {c : Addr} (h : c ∉ five N) : c ≠ (N + 4 : Nat) ∧ c ≠ (N + 3 : Nat) ∧ c ≠ (N : Nat) ∧ c ≠ (N + 1 : Nat) :=
  ⟨fun e => h (by rw [e]; simp [five]), fun e => h (by rw [e]; simp [five]), fun e => h (by rw [e]; simp [five]), fun e => h (by rw [e]; simp [five])⟩
abbrev stB (N : Nat) (t u : Bool) (a b : Addr) (i : Nat) (h : Heap) : Prop :=
  IsZip h (N + 4 : Nat) (N + 2 : Nat) (N + 3 : Nat) .none ∧ IsTupOf2 h (N + 2 : Nat) (.ref (N : Nat)) (.ref (N + 1 : Nat)) ∧ (∃ x y, IsTupOf2 h (N + 3 : Nat) x y) ∧ ItB t h (N : Nat) a i ∧ ItB u h (N + 1 : Nat) b i
theorem lt_sep {N : Nat} {a b : Addr} (ha : a < (N : Nat)) (hb : b < (N : Nat)) : ZipSep2 (N + 4 : Nat) (N + 2 : Nat) (N + 3 : Nat) (N : Nat) (N + 1 : Nat) [(N : Nat), a] [(N + 1 : Nat), b] :=
  zip_sep2 (fp1 := [a]) (fp2 := [b]) (fun c h => by rw [List.mem_singleton.mp h]; exact ha) (fun c h => by rw [List.mem_singleton.mp h]; exact hb)
theorem lt_more {N : Nat} {a : Addr} (h : a < (N : Nat)) : a < (N + 1 : Nat) := Nat.lt_succ_of_lt h
theorem turnB {P : Program} {w : World} {K : PySem.W.Frag} {es : List Expr} {k : Nat} {pos : Pos} {N : Nat} {t u : Bool} {a b : Addr} (ha : a < (N : Nat)) (hb : b < (N : Nat)) :
    Turn P w K (.Tuple es k pos) (Izb K t u a b) (five N) (N + 4 : Nat) (stB N t u a b) where
  mem := List.mem_cons_self
  obj := fun i h st c hc => by
    obtain ⟨h1, h2, ⟨x, y, h3⟩, h4, h5⟩ := st
    rcases five_mem hc with rfl | rfl | rfl | rfl | rfl
    · exact ⟨_, h1, fun v q => nomatch q⟩
    · exact ⟨_, h2, fun v q => nomatch q⟩
    · exact ⟨_, h3, fun v q => nomatch q⟩
    · exact h4.obj
    · exact h5.obj
  keep := fun i h h' st kp => by
    obtain ⟨h1, h2, ⟨x, y, h3⟩, h4, h5⟩ := st
    exact ⟨kp _ (by simp [five]) _ h1, kp _ (by simp [five]) _ h2, ⟨x, y, kp _ (by simp [five]) _ h3⟩, h4.to fun o q => kp _ (by simp [five]) o q, h5.to fun o q => kp _ (by simp [five]) o q⟩
  item := by
    rintro X rfl rfl rfl calm i pins s σ H E I fp ⟨h1, h2, ⟨z1, z2, h3⟩, h4, h5⟩ ⟨xs, ys, x, y, qx, qy, ex, ey⟩
    obtain ⟨is1, r1, p1⟩ := sqB_get I qx
    obtain ⟨is2, r2, p2⟩ := sqB_get I qy
    obtain ⟨u1, e1, rx⟩ := r1.get ex
    obtain ⟨u2, e2, ry⟩ := r2.get ey
    have l1 : i < is1.toArray.size := by
      have z := (List.getElem?_eq_some_iff.mp e1).1
      simpa using z
    have l2 : i < is2.toArray.size := by
      have z := (List.getElem?_eq_some_iff.mp e2).1
      simpa using z
    have S := lt_sep ha hb
    have D1 := drawsB (prog := X.prog) (w := X.w) (A := X.A.in1) (I.ok.hd calm) t (N : Nat) a (Nat.ne_of_lt ha) is1.toArray
    have D2 := drawsB (prog := X.prog) (w := X.w) (A := X.A.in1) (I.ok.hd calm) u (N + 1 : Nat) b (Nat.ne_of_lt (lt_more hb)) is2.toArray
    have lz := Heap.lt_size h1
    refine wpAny_pyNext_zipD2_item S D1 D2 h1 h2 h3 ⟨h4, p1⟩ ⟨h5, p2⟩ l1 l2 fun v1 v2 h' tk g1 g2 b1 b2 d1 d2 new _ same => ?_
    have ev1 : v1 = u1 := by
      have z : is1[i]? = some v1 := by simpa using g1
      rw [e1] at z
      exact (Option.some.inj z).symm
    have ev2 : v2 = u2 := by
      have z : is2[i]? = some v2 := by simpa using g2
      rw [e2] at z
      exact (Option.some.inj z).symm
    subst ev1 ev2
    refine ⟨_, rfl, wpAny_letOwnedTupleGo_zip (s := { s with heap := h', toks := tk }) b1 fun h'' hz2 sb => ?_⟩
    have made : h''.get? s.heap.objs.size = some { cls := .type "tuple", data := .seq #[v1, v2] } := (sb.2 _ (Nat.ne_of_gt lz)).trans new
    have ob : ObjOk X.prog X.w (upd H s.heap.objs.size (.tup [x, y])) h'' s.heap.objs.size (.tup [x, y]) := ⟨by show 2 ≤ sizeLine; decide, [v1, v2], .cons rx (.cons ry .nil), ⟨_, made, rfl, _, rfl⟩⟩
    have J := I.turnedNew (t' := tk) (ch := five N) (fun c o hc q => by
      obtain ⟨n1, n2, n3, n4⟩ := no_five hc
      exact (sb.2 c n1).trans (same c o n1 n2 n3 n4 q)) fp (Nat.le_refl _) ob
    refine ⟨.ref s.heap.objs.size, _, J, rfl, ⟨_, x, y, rfl, I.hok.fresh (Nat.le_refl _), rfl, fun l hl => by rw [sqB_inj I hl qx]; exact ex, fun l hl => by rw [sqB_inj I hl qy]; exact ey⟩, ⟨hz2, ?_, ⟨v1, v2, ?_⟩, ?_, ?_⟩, fun c hc => ?_⟩
    · exact (sb.2 _ S.TIz).trans (same _ _ S.TIz S.TITO S.TIi1 S.TIi2 h2)
    · exact (sb.2 _ S.TOz).trans b2
    · exact d1.1.to fun o q => (sb.2 _ S.zi1.symm).trans q
    · exact d2.1.to fun o q => (sb.2 _ S.zi2.symm).trans q
    · have hlt : c < s.heap.objs.size := by
        rcases five_mem hc with rfl | rfl | rfl | rfl | rfl
        · exact lz
        · exact Heap.lt_size h2
        · exact Heap.lt_size h3
        · obtain ⟨o, q, _⟩ := h4.obj
          exact Heap.lt_size q
        · obtain ⟨o, q, _⟩ := h5.obj
          exact Heap.lt_size q
      rw [upd_ne (Nat.ne_of_lt hlt)]
      exact (fp c hc).1
  done := by
    rintro X rfl rfl rfl calm i pins s σ H E I fp ⟨h1, h2, ⟨z1, z2, h3⟩, h4, h5⟩ ⟨xs, ys, qx, qy, lx, ly, le⟩
    obtain ⟨is1, r1, p1⟩ := sqB_get I qx
    obtain ⟨is2, r2, p2⟩ := sqB_get I qy
    have n1 := r1.length
    have n2 := r2.length
    have s1 : is1.toArray.size = is1.length := List.size_toArray
    have s2 : is2.toArray.size = is2.length := List.size_toArray
    have D1 := drawsB (prog := X.prog) (w := X.w) (A := X.A.in1) (I.ok.hd calm) t (N : Nat) a (Nat.ne_of_lt ha) is1.toArray
    have D2 := drawsB (prog := X.prog) (w := X.w) (A := X.A.in1) (I.ok.hd calm) u (N + 1 : Nat) b (Nat.ne_of_lt (lt_more hb)) is2.toArray
    refine wpAny_pyNext_zipD2_end (lt_sep ha hb) D1 D2 h1 h2 h3 ⟨h4, p1⟩ ⟨h5, p2⟩ (by omega) (by omega) (by omega) fun h' tk same => ⟨rfl, I.turnedL (t' := tk) (ch := five N) (fun c o hc q => by
      obtain ⟨n1, n2, n3, n4⟩ := no_five hc
      exact same c o n1 n2 n3 n4 q) fp⟩
  self := fun A i s Q E st q => wpAny_pyIter_zip st.1 q
/-- for x, y in zip(a, b) -/
def iZipB (K : PySem.W.Frag) (ta : TA) : TI := fun σ H R => ta σ H fun vs H1 => ∃ t u a b xs ys, vs = [.ref a, .ref b] ∧ SqB K t H1 a xs ∧ SqB K u H1 b ys ∧ R (Izb K t u a b) H1
theorem pi_zipB {X : Cx} {e e2 : Expr} {ta : TA} {p pos tpos : Pos} {es : List Expr} {k : Nat} (hg : Gl X "zip") (hm : X.mg "zip" = none) (ha : PA X [e, e2] ta)
    (hs : starEach [e, e2] X.env = (false, eval e X.env) :: starEach [e2] X.env := by rfl) (hb : (backTo pos (starEach [e2] X.env)).any (·.1) = false := by rfl) :
    PI X (.Tuple es k tpos) (.Call (.Name "zip" p) [e, e2] [] pos) (iZipB X.K ta) := by
  refine ⟨fun pins s σ H R I h => Call_ (ld_blt I hg hm PyProof.Rows.boot_zip (PyProof.Rows.callWith_type1 (thn (ha.run pos pins s σ H _ I h) fun us s1 z => ?_) hs hb))⟩
  obtain ⟨vs, H1, I1, r, t, u, a, b, xs, ys, rfl, qx, qy, q⟩ := z
  cases r with
  | cons ra rr =>
    cases rr with
    | cons rb rr =>
      cases rr
      cases ra
      cases rb
      obtain ⟨is1, _, p1⟩ := sqB_get I1 qx
      obtain ⟨is2, _, p2⟩ := sqB_get I1 qy
      refine zip_begins2 (beginsB t a is1.toArray) (beginsB u b is2.toArray) p1 p2 fun h' hz hT hO g1 g2 _ same => wpAny_pyIter_zip hz ?_
      have I2 := I1.kept (t' := s1.toks) same
      refine ⟨s1.heap.objs.size + 4, five s1.heap.objs.size, _, _, H1, rfl, I2, turnB p1.lt p2.lt, ⟨hz, hT, ⟨_, _, hO⟩, ItB.new g1, ItB.new g2⟩, fun c hc => ?_, q⟩
      have low : s1.heap.objs.size ≤ c := by
        rcases five_mem hc with rfl | rfl | rfl | rfl | rfl
        · exact Nat.le_add_right _ _
        · exact Nat.le_add_right _ _
        · exact Nat.le_add_right _ _
        · exact Nat.le_refl _
        · exact Nat.le_add_right _ _
      exact I1.fpOk low (I1.hok.fresh low)
section
variable {K : PySem.W.Frag} {t u : Bool} {a b : Addr} {xs ys : List V}
theorem for_zipB {g : TG} {tb : TS} {D : Ends} {σ : L2.St} {H : Hp} (hl : xs.length = ys.length) (Pv : Nat → L2.St → Hp → Prop) (h0 : Pv 0 σ H) (hq : ∀ i σ H, Pv i σ H → SqB K t H a xs ∧ SqB K u H b ys)
    (hs : ∀ (i : Nat) (x y : V) (q : Addr) (σ : L2.St) (H : Hp), xs[i]? = some x → ys[i]? = some y → Pv i σ H → H q = none → g (.ref q) σ (upd H q (.tup [x, y])) fun σ2 H2 => tb { D with nx := Pv (i + 1), ct := Pv (i + 1), bk := D.nx } σ2 H2)
    (hd : ∀ σ H, Pv xs.length σ H → D.nx σ H) :
    ∃ W : Nat → Nat → L2.St → Hp → Prop, (∃ m, W 0 m σ H) ∧ ∀ i m σ H, W i m σ H →
      ((Izb K t u a b).stop i H ∧ D.nx σ H) ∨ ((Izb K t u a b).go i H ∧ ∃ N : L2.St → Hp → Prop, (∀ σ' H', N σ' H' → ∃ m', m' < m ∧ W (i + 1) m' σ' H') ∧ ∀ v H', (Izb K t u a b).yld i H v H' → g v σ H' fun σ2 H2 => tb { D with nx := N, ct := N, bk := D.nx } σ2 H2) := by
  refine ⟨fun i m σ H => m = xs.length - i ∧ i ≤ xs.length ∧ Pv i σ H, ⟨_, rfl, Nat.zero_le _, h0⟩, ?_⟩
  rintro i m σ H ⟨rfl, hi, pv⟩
  obtain ⟨qx, qy⟩ := hq i σ H pv
  rcases Nat.lt_or_ge i xs.length with lt | ge
  · refine .inr ⟨⟨xs, ys, xs[i], ys[i]'(hl ▸ lt), qx, qy, List.getElem?_eq_getElem lt, List.getElem?_eq_getElem _⟩, Pv (i + 1), fun σ' H' p' => ⟨xs.length - (i + 1), by omega, rfl, lt, p'⟩, fun v H' yl => ?_⟩
    obtain ⟨q, x, y, rfl, hq, rfl, f1, f2⟩ := yl
    exact hs i x y q σ H (f1 _ qx) (f2 _ qy) pv hq
  · obtain rfl : i = xs.length := Nat.le_antisymm hi ge
    exact .inl ⟨⟨xs, ys, qx, qy, Nat.le_refl _, Nat.le_of_eq hl, .inl rfl⟩, hd σ H pv⟩
theorem lc_zipB {g : TG} {tt : TT} {te : TE} {vs : List Nat} {σ : L2.St} {H1 : Hp} {D : Addr} {Qd : Hp → Prop} (hl : xs.length = ys.length) (Pv : Nat → Hp → Prop) (h0 : Pv 0 (upd H1 D (.lst []))) (hq : ∀ i H, Pv i H → SqB K t H a xs ∧ SqB K u H b ys)
    (hs : ∀ (i : Nat) (x y : V) (q : Addr) (H : Hp), xs[i]? = some x → ys[i]? = some y → Pv i H → H q = none → g (.ref q) (wipe σ vs) (upd H q (.tup [x, y])) fun σ2 H2 => wipe σ2 vs = wipe σ vs ∧ tt σ2 H2 fun b H3 =>
      if b = true then te σ2 H3 fun z H4 => ∃ acc, H4 D = some (.lst acc) ∧ acc.length < sizeLine ∧ Pv (i + 1) (upd H4 D (.lst (acc ++ [z]))) else Pv (i + 1) H3) (hd : ∀ H, Pv xs.length H → Qd H) :
    ∃ W : Nat → Nat → Hp → Prop, (∃ m, W 0 m (upd H1 D (.lst []))) ∧ ∀ i m H, W i m H →
      ((Izb K t u a b).stop i H ∧ Qd H) ∨ ((Izb K t u a b).go i H ∧ ∃ Nx : Hp → Prop, (∀ H', Nx H' → ∃ m', m' < m ∧ W (i + 1) m' H') ∧ ∀ v H', (Izb K t u a b).yld i H v H' → g v (wipe σ vs) H' fun σ2 H2 => wipe σ2 vs = wipe σ vs ∧ tt σ2 H2 fun b H3 =>
        if b = true then te σ2 H3 fun z H4 => ∃ acc, H4 D = some (.lst acc) ∧ acc.length < sizeLine ∧ Nx (upd H4 D (.lst (acc ++ [z]))) else Nx H3) := by
  refine ⟨fun i m H => m = xs.length - i ∧ i ≤ xs.length ∧ Pv i H, ⟨_, rfl, Nat.zero_le _, h0⟩, ?_⟩
  rintro i m H ⟨rfl, hi, pv⟩
  obtain ⟨qx, qy⟩ := hq i H pv
  rcases Nat.lt_or_ge i xs.length with lt | ge
  · refine .inr ⟨⟨xs, ys, xs[i], ys[i]'(hl ▸ lt), qx, qy, List.getElem?_eq_getElem lt, List.getElem?_eq_getElem _⟩, Pv (i + 1), fun H' p' => ⟨xs.length - (i + 1), by omega, rfl, lt, p'⟩, fun v H' yl => ?_⟩
    obtain ⟨q, x, y, rfl, hq, rfl, f1, f2⟩ := yl
    exact hs i x y q H (f1 _ qx) (f2 _ qy) pv hq
  · obtain rfl : i = xs.length := Nat.le_antisymm hi ge
    exact .inl ⟨⟨xs, ys, qx, qy, Nat.le_refl _, Nat.le_of_eq hl, .inl rfl⟩, hd H pv⟩
end
end Zp
namespace Tsm
open PySem PySem.Spec PyProof.Rows L2
/-! ## sum(rows, ()) of tuples that aren't empty -/
def catN (rows : Nat → List Value) : Nat → List Value
  | 0 => []
  | k + 1 => catN rows k ++ rows k
theorem catN_ne {rows : Nat → List Value} (h0 : rows 0 ≠ []) : ∀ k, catN rows (k + 1) ≠ []
  | 0 => h0
  | k + 1 => fun e => catN_ne h0 k (List.append_eq_nil_iff.mp e).1
theorem tup_to {h h' : Heap} {a : Addr} {us : Array Value} (x : IsTup h a us) (k : ∀ o, h.get? a = some o → h'.get? a = some o) : IsTup h' a us :=
  let ⟨o, ho, r⟩ := x
  ⟨o, k o ho, r⟩
section
variable {prog : Program} {w : World} {A : Around} {I l S b0 : Addr} {us : Array Value} {xa : Nat → Addr} {rows : Nat → List Value} {R : Result → Shared → Prop}
theorem loop (W : Walks prog w A.in1 I [I, l] [I] us.size (fun i v => us[i]? = some v) (fun i h => h.IsListIter I l i ∧ h.IsList l us)) (hSI : S ≠ I) (hSl : S ≠ l) (hx : ∀ i, i < us.size → us[i]? = some (.ref (xa i)))
    (ne : ∀ i, i < us.size → rows i ≠ []) (hz : ∀ i, i ≤ us.size → (catN rows i).length ≤ sizeLine) (hI : b0 ≤ I) (hS : b0 ≤ S) (hb : ∀ i, i < us.size → xa i < b0) :
    ∀ (k i : Nat) (s : Shared) (T : Addr) (c : Nat), us.size - i = k → i ≤ us.size → (s.heap.IsListIter I l i ∧ s.heap.IsList l us) → s.heap.get? S = some { cls := .type "list", dict := none, data := .seq #[.ref T] c, slots := #[] } →
      IsTup s.heap T (catN rows i).toArray → (∀ j, j < us.size → IsTup s.heap (xa j) (rows j).toArray) → T ≠ I → T ≠ S → (b0 ≤ T ∨ i < 2) →
      (∀ h' tk T', (∀ b o, b ≠ I → b ≠ S → s.heap.get? b = some o → h'.get? b = some o) → IsTup h' T' (catN rows us.size).toArray → (b0 ≤ T' ∨ us.size < 2) → R (.ok (.ret (.ref T'))) { s with heap := h', toks := tk }) →
      codeAny (model prog w) A (.builtin "sum.loop" ⟨[.ref I, .ref S, rawInt 2, rawInt 0], []⟩) R s := by
  intro k
  induction k with
  | zero =>
    intro i s T c hk hi st hs ht _ _ _ hT hR
    obtain rfl : i = us.size := by omega
    apply codeAny_builtin F.entry_sum_loop
    rw [Around.under_plainId (F.plain_sum_loop) _]
    show wpAny _ (A.in1) (seqItems? (.ref S) >>= _) _ _ _
    apply wpAny_bind (wpAny_seqItems hs rfl _)
    show wpAny _ (A.in1) (tryCatch (pyNext (.ref I)) _ >>= _) _ _ _
    refine wpAny_bind (wpAny_tryCatch (W.done s _ _ st fun h' tk k => wpAny_pure ?_))
    by_cases hTI : T = I
    · contradiction
    · exact hR h' tk T (fun b o n _ e => k b o (fun m => n (List.mem_singleton.mp m)) e) (tup_to ht fun o e => k T o (fun m => hTI (List.mem_singleton.mp m)) e) hT
  | succ k ih =>
    intro i s T c hk hi st hs ht hr tI tS hT hR
    have hlt : i < us.size := by omega
    apply codeAny_builtin F.entry_sum_loop
    rw [Around.under_plainId (F.plain_sum_loop) _]
    show wpAny _ (A.in1) (seqItems? (.ref S) >>= _) _ _ _
    apply wpAny_bind (wpAny_seqItems hs rfl _)
    show wpAny _ (A.in1) (tryCatch (pyNext (.ref I)) _ >>= _) _ _ _
    refine wpAny_bind (wpAny_tryCatch (W.item i s _ _ hlt st fun v h' tk hv st' k' => ?_))
    obtain rfl : v = .ref (xa i) := Option.some.inj (hv.symm.trans (hx i hlt))
    have kk : ∀ b o, b ≠ I → s.heap.get? b = some o → h'.get? b = some o := fun b o n e => k' b o (fun m => n (List.mem_singleton.mp m)) e
    have hs' := kk S _ hSI hs
    have ht' : IsTup h' T (catN rows i).toArray := tup_to ht fun o e => kk T o tI e
    have hr' : ∀ j, j < us.size → IsTup h' (xa j) (rows j).toArray := fun j hj => tup_to (hr j hj) fun o e => kk _ o (Nat.ne_of_lt (Nat.lt_of_lt_of_le (hb j hj) hI)) e
    -- what follows once the sum stands
    have after : ∀ (h2 : Heap) (T2 : Addr), (∀ b o, h'.get? b = some o → h2.get? b = some o) → IsTup h2 T2 (catN rows (i + 1)).toArray → T2 ≠ I → T2 ≠ S → (b0 ≤ T2 ∨ i + 1 < 2) →
        codeAny (model prog w) A (.builtin "sum.loop" ⟨[.ref I, .ref S, rawInt 2, rawInt 0], []⟩) R { s with heap := (h2.update S (Obj.mapSeq fun _ => #[Value.ref T2])).update S (Obj.mapSeq fun _ => #[Value.ref T2]), toks := tk } := by
      intro h2 T2 k2 t2 n1 n2 b2
      have e0 := k2 S _ hs'
      have e1 := Heap.get?_update_self (Obj.mapSeq fun _ => #[Value.ref T2]) e0 rfl
      have e2 := Heap.get?_update_self (Obj.mapSeq fun _ => #[Value.ref T2]) e1 rfl
      have oth : ∀ b, b ≠ S → ((h2.update S (Obj.mapSeq fun _ => #[Value.ref T2])).update S (Obj.mapSeq fun _ => #[Value.ref T2])).get? b = h2.get? b := fun b nb =>
        (Heap.get?_update_other _ _ (Ne.symm nb)).trans (Heap.get?_update_other _ _ (Ne.symm nb))
      refine ih (i + 1) _ T2 _ (by omega) hlt ⟨st'.1.at fun o e => ?_, st'.2.at fun o e => ?_⟩ e2 (tup_to t2 fun o e => ?_) (fun j hj => tup_to (hr' j hj) fun o e => ?_) n1 n2 b2 (fun h3 tk3 T3 k3 t3 b3 => hR h3 tk3 T3 (fun b o nI nS e => ?_) t3 b3)
      · exact (oth I (Ne.symm hSI)).trans (k2 _ _ e)
      · exact (oth l (Ne.symm hSl)).trans (k2 _ _ e)
      · exact (oth T2 n2).trans e
      · exact (oth _ (Nat.ne_of_lt (Nat.lt_of_lt_of_le (hb j hj) hS))).trans (k2 _ _ e)
      · exact k3 b o nI nS ((oth b nS).trans (k2 _ _ (kk b o nI e)))
    show wpAny _ (A.in1) ((holding [Value.ref (xa i)] (binaryOp .Add (.ref T) (.ref (xa i)))).attempt >>= _) _ _ _
    refine wpAny_bind (wpAny_attempt (wpAny_holding ?_))
    have nx := ne i hlt
    have hh : ∀ (h2 : Heap) (T2 : Addr), (∀ b o, h'.get? b = some o → h2.get? b = some o) → IsTup h2 T2 (catN rows (i + 1)).toArray → T2 ≠ I → T2 ≠ S → (b0 ≤ T2 ∨ i + 1 < 2) →
        wpAny (model prog w) A.in1 (do updateSeq S fun _ => #[Value.ref T2]; letGo [.ref T, .ref (xa i)]; updateSeq S fun _ => #[Value.ref T2]; again (.builtin "sum.loop" ⟨[.ref I, .ref S, rawInt 2, rawInt 0], []⟩))
          (fun fin s' => match fin with | .done f => R (.ok f) s' | .again c' => c'.quiet = true ∧ codeAny (model prog w) A c' R s') (fun e s' => R (.error e) s') { s with heap := h2, toks := tk } := by
      intro h2 T2 k2 t2 n1 n2 b2
      have e0 := k2 S _ hs'
      refine wpAny_bind (wpAny_updateSeq e0 rfl ?_)
      refine wpAny_bind (wpAny_letGo ?_)
      refine wpAny_bind (wpAny_updateSeq (Heap.get?_update_self (Obj.mapSeq fun _ => #[Value.ref T2]) e0 rfl) rfl ?_)
      exact wpAny_pure ⟨plainId_quiet F.plain_sum_loop _, after h2 T2 k2 t2 n1 n2 b2⟩
    cases i with
    | zero =>
      have x0 := hr' 0 hlt
      exact cat_tup0 ht' x0 (hh h' _ (fun _ _ e => e) x0 (Nat.ne_of_lt (Nat.lt_of_lt_of_le (hb 0 hlt) hI)) (Nat.ne_of_lt (Nat.lt_of_lt_of_le (hb 0 hlt) hS)) (.inr (by decide)))
    | succ i =>
      have lI : I < h'.objs.size := let ⟨_, eo, _⟩ := st'.1; Heap.lt_size eo
      have lS : S < h'.objs.size := Heap.lt_size hs'
      refine HT.cat_tup ht' (hr' _ hlt) (catN_ne (ne 0 (by omega)) i) (fun z => absurd z nx) (fun _ => ?_) (by have := hz (i + 2) hlt; unfold catN at this; rwa [List.length_append] at this)
      exact hh _ _ (fun b o e => Heap.get?_push_of_some _ e) (IsTup.new _ _) (Nat.ne_of_gt lI) (Nat.ne_of_gt lS) (.inl (Nat.le_of_lt (Nat.lt_of_le_of_lt hI lI)))
theorem args_sum2 (a b : Value) : argsOk "sum" ⟨[a, b], []⟩ := by
  unfold argsOk
  kernel_rfl
theorem sum_raw2 {prog : Program} {w : World} {A : Around} {E : Value → Shared → Prop} {s : Shared} {l t0 : Addr} {us : Array Value} {xa : Nat → Addr} {rows : Nat → List Value} {Q : Value → Shared → Prop} (hh : A.handled = none) (hl : s.heap.IsList l us) (h0 : IsTup s.heap t0 ([] : List Value).toArray)
    (h2 : 2 ≤ us.size) (hx : ∀ i, i < us.size → us[i]? = some (.ref (xa i))) (ht : ∀ i, i < us.size → IsTup s.heap (xa i) (rows i).toArray) (ne : ∀ i, i < us.size → rows i ≠ []) (hz : ∀ i, i ≤ us.size → (catN rows i).length ≤ sizeLine)
    (h : ∀ h' tk T, (∀ b o, s.heap.get? b = some o → h'.get? b = some o) → IsTup h' T (catN rows us.size).toArray → s.heap.objs.size ≤ T → Q (.ref T) { s with heap := h', toks := tk }) :
    wpAny (model prog w) A (call (.builtin "sum") [.ref l, .ref t0]) Q E s := by
  apply call_function_tree F.kind_sum F.plain_sum F.entry_sum (args_sum2 _ _)
  unfold Builtin.«sum»
  simp only [List.length_cons, List.length_nil]
  rw [if_neg (by decide)]
  apply wpAny_bind (wpAny_of_eq (show Builtin.Builtins.bindParams "sum" ["start"] 0 ⟨[.ref t0], []⟩ = pure [some (.ref t0)] from rfl) _)
  have ll : l < s.heap.objs.size := let ⟨_, eo, _⟩ := hl; Heap.lt_size eo
  apply wpAny_bind (wpAny_pyIter_list hl _)
  apply wpAny_bind (wpAny_pure _)
  simp only [List.forIn_cons, List.forIn_nil]
  have ty : ∀ o : Obj, Shared.TypeIs { s with heap := s.heap.push o } (.ref t0) "tuple" := fun o => (h0.push o).typeIs
  apply wpAny_bind (wpAny_bind (wpAny_bind (wpAny_isInstance (T := "tuple") (b := false) (ty _) F.sub_tuple_str _)))
  simp only [Bool.false_eq_true, if_false]
  refine wpAny_pure (wpAny_bind (wpAny_bind (wpAny_isInstance (T := "tuple") (b := false) (ty _) (F.sub_tuple_bytes) ?_)))
  simp only [Bool.false_eq_true, if_false]
  refine wpAny_pure (wpAny_bind (wpAny_bind (wpAny_isInstance (T := "tuple") (b := false) (ty _) (F.sub_tuple_bytearray) ?_)))
  simp only [Bool.false_eq_true, if_false]
  refine wpAny_pure (wpAny_pure ?_)
  apply wpAny_bind (wpAny_newObj_type _)
  have lI : l ≠ s.heap.objs.size := Nat.ne_of_lt ll
  have sz : (s.heap.push { cls := .type "list_iterator", data := .fields #[.ref l, .int 0 0] }).objs.size = s.heap.objs.size + 1 := Heap.size_push ..
  refine wpAny_pure ⟨plainId_quiet (F.plain_sum_loop) _, loop (b0 := s.heap.objs.size) (A := A) (Walks.list (A := A.in1) hh s.heap.objs.size l lI us) (by rw [sz]; exact Nat.succ_ne_self _) (by rw [sz]; exact Nat.ne_of_gt (Nat.lt_succ_of_lt ll)) hx ne hz (Nat.le_refl _) (by rw [sz]; exact Nat.le_succ _) (fun i hi => (ht i hi).lt)
    us.size 0 _ t0 0 rfl (Nat.zero_le _) ⟨⟨_, Heap.get?_push_of_some _ (Heap.get?_push_size _ rfl), rfl, rfl⟩, (hl.push _).push _⟩ (Heap.get?_push_size _ rfl) ((h0.push _).push _) (fun j hj => ((ht j hj).push _).push _) (Nat.ne_of_lt h0.lt) (by rw [sz]; exact Nat.ne_of_lt (Nat.lt_succ_of_lt h0.lt)) (.inr (by decide)) (fun h' tk T k t b => ?_)⟩
  refine h h' tk T (fun b o e => k b o (Nat.ne_of_lt (Heap.lt_size e)) (by rw [sz]; exact Nat.ne_of_lt (Nat.lt_succ_of_lt (Heap.lt_size e))) (Heap.get?_push_of_some _ (Heap.get?_push_of_some _ e))) t ?_
  rcases b with b | b
  · exact b
  · omega
/-- sum(rows, ()) -/
def rSumT (K : PySem.W.Frag) : List V → Hp → VK → Prop := fun vs H Q => ∃ (a t0 : Addr) (ws : List V) (rs : List (List V)), vs = [V.ref a, V.ref t0] ∧ SqL K H a ws ∧ SqT K H t0 [] ∧ 2 ≤ rs.length ∧ rs.length = ws.length ∧
  (∀ (i : Nat) (r : List V), rs[i]? = some r → ∃ q, ws[i]? = some (V.ref q) ∧ SqT K H q r ∧ r ≠ []) ∧ rs.flatten.length ≤ sizeLine ∧ ∀ p, H p = none → Q (.ref p) (upd H p (.tup rs.flatten))
theorem flat_take {α : Type} (rs : List (List α)) (k : Nat) : (rs.take k).flatten.length ≤ rs.flatten.length := by
  rw [show rs.flatten = (rs.take k ++ rs.drop k).flatten by rw [List.take_append_drop], List.flatten_append, List.length_append]
  exact Nat.le_add_right _ _
theorem cr_sumT {X : Cx} (hc : X.calm = true) : CallR X (.builtin "sum") (rSumT X.K) := by
  intro pins s σ H vs us Q I r h
  obtain ⟨a, t0, ws, rs, rfl, hs, h0, h2, hl, hx, hz, q⟩ := h
  obtain ⟨its, rv, pl, _⟩ := I.list hs
  obtain ⟨u1, u2, rfl, r1, r2⟩ := Vals.two r
  cases r1
  cases r2
  obtain ⟨e0, rv0, p0, _⟩ := I.tuple h0
  obtain rfl := Vals.zero rv0
  have hn : its.toArray.size = rs.length := by
    rw [List.size_toArray, ← rv.length, hl]
  have ch : ∀ i, ∃ (x : Addr) (us : List Value), i < rs.length → its.toArray[i]? = some (.ref x) ∧ IsTup s.heap x us.toArray ∧ Vals (rs.getD i []) us ∧ us ≠ [] := by
    intro i
    by_cases hi : i < rs.length
    · obtain ⟨x, e1, hq, ne⟩ := hx i rs[i] (List.getElem?_eq_getElem hi)
      obtain ⟨v, e2, e3⟩ := rv.get e1
      cases e3
      obtain ⟨us, r3, p3, _⟩ := I.tuple hq
      refine ⟨x, us, fun _ => ⟨by rw [List.getElem?_toArray]; exact e2, p3, ?_, fun z => ne (r3.nil_iff.mp z)⟩⟩
      rw [List.getD_eq_getElem?_getD, List.getElem?_eq_getElem hi]
      exact r3
    · exact ⟨0, [], fun z => absurd z hi⟩
  obtain ⟨xa, ch⟩ := Classical.axiomOfChoice ch
  obtain ⟨rows, ch⟩ := Classical.axiomOfChoice ch
  have vc : ∀ k, k ≤ rs.length → Vals (rs.take k).flatten (catN rows k) := by
    intro k
    induction k with
    | zero => exact fun _ => by rw [List.take_zero]; exact .nil
    | succ k ih =>
      intro hk
      rw [List.take_succ, List.getElem?_eq_getElem hk, List.flatten_append]
      have e := (ch k hk).2.2.1
      rw [List.getD_eq_getElem?_getD, List.getElem?_eq_getElem hk] at e
      refine (ih (Nat.le_of_lt hk)).append ?_
      show Vals ([rs[k]].flatten) _
      rw [List.flatten_cons, List.flatten_nil, List.append_nil]
      exact e
  have vz := vc _ (Nat.le_refl _)
  rw [List.take_length] at vz
  refine sum_raw2 (xa := xa) (rows := rows) (I.ok.hd hc) pl.isList p0 (by omega) (fun i hi => (ch i (by omega)).1) (fun i hi => (ch i (by omega)).2.1) (fun i hi => (ch i (by omega)).2.2.2) (fun i hi => ?_) (fun h' tk T k t b => ?_)
  · rw [← (vc i (by omega)).length]
    exact Nat.le_trans (flat_take rs i) hz
  · rw [hn] at t
    exact ⟨.ref T, _, I.laid (t' := tk) (o := .tup rs.flatten) k b ⟨hz, _, vz, t⟩, rfl, q _ (I.hok.fresh b)⟩
end
end Tsm
namespace Wd
open PySem PySem.Spec PyProof.Rows L2 Pen Dat Ki Fi Gr No Lf Cn Bd Be Bm Bx
/-! ## k12: words of literals as numbers -/
abbrev Gts := List (Int × Int)
def lv (gs : Gts) (bs : List Int) (a : Int) : Int := lit (vals bs gs) a
def num : List Int → Int
  | [] => 0
  | x :: r => x + 2 * num r
def wv (gs : Gts) (bs w : List Int) : Int := num (w.map (lv gs bs))
def Gok (n : Nat) (gs : Gts) : Prop := okG (2 * (n : Int) + 1) gs = true
def Env (n : Nat) (bs : List Int) : Prop := bs.length = n ∧ B01 bs
def Ext (gs gs' : Gts) : Prop := ∃ ts, gs' = gs ++ ts
def WIn (n : Nat) (gs : Gts) (w : List Int) : Prop := ∀ a ∈ w, InN n gs a
structure Step (n : Nat) (gs gs' : Gts) (c : Nat) : Prop where
  ok : Gok n gs'
  ext : Ext gs gs'
  len : gs'.length ≤ gs.length + c
theorem num_app : ∀ (a b : List Int), num (a ++ b) = num a + 2 ^ a.length * num b
  | [], b => by
    show num b = 0 + 1 * num b
    omega
  | x :: r, b => by
    show x + 2 * num (r ++ b) = x + 2 * num r + 2 ^ (r.length + 1) * num b
    rw [num_app r b, Int.pow_succ, Int.mul_add, Int.mul_comm (2 ^ r.length) 2, Int.mul_assoc]
    omega
theorem p2_pos (k : Nat) : (0 : Int) < 2 ^ k := Int.pow_pos (by decide)
theorem num_lt : ∀ {xs : List Int}, B01 xs → 0 ≤ num xs ∧ num xs < 2 ^ xs.length
  | [], _ => ⟨Int.le_refl _, by decide⟩
  | x :: r, h => by
    obtain ⟨a, b⟩ := num_lt (xs := r) fun z hz => h z (List.mem_cons_of_mem _ hz)
    have hx := h x List.mem_cons_self
    show 0 ≤ x + 2 * num r ∧ x + 2 * num r < 2 ^ (r.length + 1)
    rw [Int.pow_succ]
    omega
theorem Ext.refl {gs : Gts} : Ext gs gs := ⟨[], (List.append_nil _).symm⟩
theorem Ext.trans {a b c : Gts} (h : Ext a b) (k : Ext b c) : Ext a c := ext_trans h k
theorem Step.refl {n : Nat} {gs : Gts} (h : Gok n gs) : Step n gs gs 0 := ⟨h, .refl, Nat.le_refl _⟩
theorem Step.trans {n : Nat} {a b c : Gts} {x y : Nat} (h : Step n a b x) (k : Step n b c y) : Step n a c (x + y) := ⟨k.ok, h.ext.trans k.ext, by have := h.len; have := k.len; omega⟩
theorem Step.le {n : Nat} {a b : Gts} {x y : Nat} (h : Step n a b x) (k : x ≤ y) : Step n a b y := ⟨h.ok, h.ext, by have := h.len; omega⟩
theorem inx {n : Nat} {gs gs' : Gts} {a : Int} (h : InN n gs a) (e : Ext gs gs') : InN n gs' a := by
  obtain ⟨ts, rfl⟩ := e
  obtain ⟨a0, a1⟩ := h
  refine ⟨a0, ?_⟩
  rw [List.length_append]
  omega
theorem lv_ext {n : Nat} {gs gs' : Gts} {a : Int} {bs : List Int} (h : InN n gs a) (e : Ext gs gs') (hb : Env n bs) : lv gs' bs a = lv gs bs a := by
  obtain ⟨e1, _⟩ := hb
  subst e1
  exact (inb_ext e h).2
theorem lv01 {n : Nat} {gs : Gts} {a : Int} {bs : List Int} (hb : Env n bs) : lv gs bs a = 0 ∨ lv gs bs a = 1 := lit_01 (vals_01 gs hb.2) a
theorem wv_ext {n : Nat} {gs gs' : Gts} {w bs : List Int} (h : WIn n gs w) (e : Ext gs gs') (hb : Env n bs) : wv gs' bs w = wv gs bs w := by
  unfold wv
  rw [List.map_congr_left fun a ha => lv_ext (h a ha) e hb]
theorem WIn.ext {n : Nat} {gs gs' : Gts} {w : List Int} (h : WIn n gs w) (e : Ext gs gs') : WIn n gs' w := fun a ha => inx (h a ha) e
theorem wv_app {gs : Gts} {bs v w : List Int} : wv gs bs (v ++ w) = wv gs bs v + 2 ^ v.length * wv gs bs w := by
  unfold wv
  rw [List.map_append, num_app, List.length_map]
theorem wv_one {gs : Gts} {bs : List Int} {a : Int} : wv gs bs [a] = lv gs bs a := by
  show lv gs bs a + 2 * 0 = _
  omega
theorem wv_snoc {gs : Gts} {bs v : List Int} {a : Int} : wv gs bs (v ++ [a]) = wv gs bs v + 2 ^ v.length * lv gs bs a := by
  rw [wv_app, wv_one]
theorem wv_lt {n : Nat} {gs : Gts} {bs w : List Int} (hb : Env n bs) : 0 ≤ wv gs bs w ∧ wv gs bs w < 2 ^ w.length := by
  have t := num_lt (xs := w.map (lv gs bs)) fun z hz => by
    obtain ⟨a, _, rfl⟩ := List.mem_map.mp hz
    exact lv01 hb
  rwa [List.length_map] at t
theorem win_app {n : Nat} {gs : Gts} {v w : List Int} (h : WIn n gs v) (k : WIn n gs w) : WIn n gs (v ++ w) := fun a ha => (List.mem_append.mp ha).elim (h a) (k a)
theorem win_one {n : Nat} {gs : Gts} {a : Int} (h : InN n gs a) : WIn n gs [a] := fun b hb => by
  rw [List.mem_singleton.mp hb]
  exact h
theorem st_of {n : Nat} {gs : Gts} {r : Gts × Int} {c : Nat} {z : List Int → Int} (h : ∀ bs, bs.length = n → B01 bs → Bm.Gd bs gs r (z bs)) (hl : r.1.length ≤ gs.length + c) : Step n gs r.1 c ∧ InN n r.1 r.2 ∧ ∀ bs, Env n bs → lv r.1 bs r.2 = z bs := by
  have g := h (zeros n) (zeros_len n) (zeros_01 n)
  have k := g.ok
  have i := g.inb
  unfold Inb at i
  rw [zeros_len] at k i
  exact ⟨⟨k, g.ext, hl⟩, i, fun bs hb => (h bs hb.1 hb.2).val⟩
theorem andM_le {n : Int} {gs : Gts} {a b : Int} : (andM n gs a b).1.length ≤ gs.length + 1 := andM_len n gs a b
section
variable {n : Nat} {gs : Gts} {a b c : Int}
theorem and_st (hok : Gok n gs) (ha : InN n gs a) (hb : InN n gs b) : Step n gs (andM n gs a b).1 1 ∧ InN n (andM n gs a b).1 (andM n gs a b).2 ∧ ∀ bs, Env n bs → lv (andM n gs a b).1 bs (andM n gs a b).2 = lv gs bs a * lv gs bs b :=
  st_of (fun bs e h01 => by subst e; exact and_gd h01 hok ha hb) andM_le
theorem or_st (hok : Gok n gs) (ha : InN n gs a) (hb : InN n gs b) : Step n gs (orM n gs a b).1 1 ∧ InN n (orM n gs a b).1 (orM n gs a b).2 ∧ ∀ bs, Env n bs → lv (orM n gs a b).1 bs (orM n gs a b).2 = 1 - (1 - lv gs bs a) * (1 - lv gs bs b) :=
  st_of (fun bs e h01 => by subst e; exact or_gd h01 hok ha hb) andM_le
theorem xorM_le : (xorM n gs a b).1.length ≤ gs.length + 3 := by
  unfold xorM
  refine Nat.le_trans andM_le ?_
  have x := andM_le (n := n) (gs := (andM n gs a b).1) (a := flp a) (b := flp b)
  have y := andM_le (n := n) (gs := gs) (a := a) (b := b)
  omega
theorem choiceM_le : (choiceM n gs c a b).1.length ≤ gs.length + 3 := by
  unfold choiceM
  refine Nat.le_trans (m := _ + 1) andM_le ?_
  have x := andM_le (n := n) (gs := (andM n gs c a).1) (a := flp c) (b := b)
  have y := andM_le (n := n) (gs := gs) (a := c) (b := a)
  omega
theorem xor_st (hok : Gok n gs) (ha : InN n gs a) (hb : InN n gs b) : Step n gs (xorM n gs a b).1 3 ∧ InN n (xorM n gs a b).1 (xorM n gs a b).2 ∧ ∀ bs, Env n bs → lv (xorM n gs a b).1 bs (xorM n gs a b).2 = (1 - lv gs bs a * lv gs bs b) * (1 - (1 - lv gs bs a) * (1 - lv gs bs b)) :=
  st_of (fun bs e h01 => by subst e; exact xor_gd h01 hok ha hb) xorM_le
theorem choice_st (hok : Gok n gs) (hc : InN n gs c) (ha : InN n gs a) (hb : InN n gs b) : Step n gs (choiceM n gs c a b).1 3 ∧ InN n (choiceM n gs c a b).1 (choiceM n gs c a b).2 ∧
    ∀ bs, Env n bs → lv (choiceM n gs c a b).1 bs (choiceM n gs c a b).2 = if lv gs bs c = 1 then lv gs bs a else lv gs bs b :=
  st_of (fun bs e h01 => by subst e; exact choice_gd h01 hok hc ha hb) choiceM_le
theorem flp_in (ha : InN n gs a) : InN n gs (flp a) := by
  obtain ⟨a0, a1⟩ := ha
  unfold InN flp
  omega
theorem flp_lv (ha : InN n gs a) {bs : List Int} (hb : Env n bs) : lv gs bs (flp a) = 1 - lv gs bs a := fl_val (vals_01 gs hb.2) ha.1
/-- the gates of a full adder -/
theorem full_st (hok : Gok n gs) (ha : InN n gs a) (hb : InN n gs b) (hc : InN n gs c) {g1 g2 g3 g4 g5 : Gts} {u x y cy s : Int} (e1 : xorM n gs a b = (g1, u)) (e2 : andM n g1 a b = (g2, x)) (e3 : andM n g2 u c = (g3, y)) (e4 : orM n g3 x y = (g4, cy)) (e5 : xorM n g4 u c = (g5, s)) :
    Step n gs g5 9 ∧ InN n g5 s ∧ InN n g5 cy ∧ ∀ bs, Env n bs → lv g5 bs s + 2 * lv g5 bs cy = lv gs bs a + lv gs bs b + lv gs bs c := by
  obtain ⟨s1, i1, v1⟩ := xor_st hok ha hb
  rw [e1] at s1 i1 v1
  simp only at s1 i1 v1
  obtain ⟨s2, i2, v2⟩ := and_st s1.ok (inx ha s1.ext) (inx hb s1.ext)
  rw [e2] at s2 i2 v2
  simp only at s2 i2 v2
  have x2 := s1.trans s2
  obtain ⟨s3, i3, v3⟩ := and_st s2.ok (inx i1 s2.ext) (inx hc x2.ext)
  rw [e3] at s3 i3 v3
  simp only at s3 i3 v3
  have x3 := x2.trans s3
  obtain ⟨s4, i4, v4⟩ := or_st s3.ok (inx i2 s3.ext) i3
  rw [e4] at s4 i4 v4
  simp only at s4 i4 v4
  have x4 := x3.trans s4
  have x24 := s2.ext.trans (s3.ext.trans s4.ext)
  obtain ⟨s5, i5, v5⟩ := xor_st s4.ok (inx i1 x24) (inx hc x4.ext)
  rw [e5] at s5 i5 v5
  simp only at s5 i5 v5
  refine ⟨x4.trans s5, i5, inx i4 s5.ext, fun bs hB => ?_⟩
  have w1 := v1 bs hB
  have w2 := v2 bs hB
  have w3 := v3 bs hB
  have w4 := v4 bs hB
  have w5 := v5 bs hB
  rw [lv_ext i1 x24 hB, lv_ext hc x4.ext hB] at w5
  rw [lv_ext i4 s5.ext hB, w4, lv_ext i2 s3.ext hB]
  rw [lv_ext ha s1.ext hB, lv_ext hb s1.ext hB] at w2
  rw [lv_ext i1 s2.ext hB, lv_ext hc x2.ext hB] at w3
  rw [w5, w3, w2, w1]
  rcases lv01 (gs := gs) (a := a) hB with p | p <;> rcases lv01 (gs := gs) (a := b) hB with q | q <;> rcases lv01 (gs := gs) (a := c) hB with r | r <;> rw [p, q, r] <;> decide
end
end Wd
namespace We
open PySem PySem.Spec PyProof.Rows L2 Pen Dat Ki Fi Gr No Lf Cn Bd Be Bm Bw Bx Wd Zp
structure Te (K : PySem.W.Frag) (mg : Str → Option Value) (C B fA fG : Addr) : Prop where
  gr : Gr.Tx K mg C
  lf : Lf.Tx mg
  ty : Be.Ty K mg B fA
  mG : Meth K B "graph" fG
  zip : mg "zip" = none
  sum : mg "sum" = none
  enum : mg "enumerate" = none
theorem len2 {a b : V} : [a, b].length ≤ sizeLine := (by decide : 2 ≤ sizeLine)
def spOpp (K : PySem.W.Frag) : Sp := fun vs H Q _ => ∃ (o : Addr) (ws : List Int), vs = [.ref o] ∧ SqT K H o (ws.map V.int) ∧ (∀ a ∈ ws, 0 ≤ a) ∧ ws.length ≤ 100 ∧ ∀ (H' : Hp) (t : Addr), Same H H' → H' t = some (.tup ((ws.map flp).map V.int)) → Q (.ref t) H'
def bitsN (m : Nat) (x : Int) : List Int := (List.range m).map fun k => x / 2 ^ k % 2
def spNumB : Sp := fun vs H Q _ => ∃ (m : Nat) (x : Int), vs = [.int m, .int x] ∧ m ≤ 100 ∧ ∀ (H' : Hp) (t : Addr), Same H H' → H' t = some (.tup ((bitsN m x).map V.int)) → Q (.ref t) H'
def spFull (K : PySem.W.Frag) (B : Addr) : Sp := fun vs H Q _ => ∃ (b gl sd : Addr) (n : Nat) (x y z : Int) (gs : Gts), vs = [.ref b, .int x, .int y, .int z] ∧ BAt K B H b gl sd n gs ∧ Gok n gs ∧ gs.length ≤ 2000 ∧ InN n gs x ∧ InN n gs y ∧ InN n gs z ∧
  ∀ (H' : Hp) (t : Addr) (g' : Gts) (s cy : Int), But2 gl sd H H' → Firm H H' → BAt K B H' b gl sd n g' → Step n gs g' 9 → InN n g' s → InN n g' cy → (∀ bs, Env n bs → lv g' bs s + 2 * lv g' bs cy = lv gs bs x + lv gs bs y + lv gs bs z) → H' t = some (.tup [.int s, .int cy]) → Q (.ref t) H'
section
variable {P : Program} {w : World} {K : PySem.W.Frag} {mg : Str → Option Value} {base : Heap} {f C B fA fG : Addr} {fd dA : FuncData}
abbrev nNumW : List Str := ["width", "number"]
theorem scNumW : FnScope nNumW ["width", "number"] (defScope sNumberWord) := ⟨rfl, rfl, rfl, by decide +kernel, rfl, by decide +kernel, by decide +kernel⟩
abbrev nNumB : List Str := ["width", "number", "k"]
theorem scNumB : FnScope nNumB ["width", "number"] (defScope sNumberBits) := ⟨rfl, rfl, rfl, by decide +kernel, rfl, by decide +kernel, by decide +kernel⟩
abbrev nOpp : List Str := ["word", "literal"]
theorem scOpp : FnScope nOpp ["word"] (defScope sOpposites) := ⟨rfl, rfl, rfl, by decide +kernel, rfl, by decide +kernel, by decide +kernel⟩
abbrev nFull : List Str := ["builder", "a", "b", "c", "unlike", "carry"]
theorem scFull : FnScope nFull ["builder", "a", "b", "c"] (defScope sFullSum) := ⟨rfl, rfl, rfl, by decide +kernel, rfl, by decide +kernel, by decide +kernel⟩
theorem BAt.keep {H H' : Hp} {b gl sd : Addr} {n : Int} {gs : Gts} (h : BAt K B H b gl sd n gs) (f : Firm H H') (e1 : ∀ o, H b = some o → H' b = some o) (e2 : ∀ o, H gl = some o → H' gl = some o) (e3 : ∀ o, H sd = some o → H' sd = some o) : BAt K B H' b gl sd n gs := by
  obtain ⟨dx, ws, kvs, h1, h2, a, h3, m⟩ := h
  exact ⟨dx, ws, kvs, e1 _ h1, e2 _ h2, a.imp fun _ _ x => x.firm f, e3 _ h3, m⟩
theorem BAt.same {H H' : Hp} {b gl sd : Addr} {n : Int} {gs : Gts} (h : BAt K B H b gl sd n gs) (s : Same H H') : BAt K B H' b gl sd n gs := BAt.keep h (Firm.of s) (fun _ e => s _ _ e) (fun _ e => s _ _ e) (fun _ e => s _ _ e)
theorem ok_opp (F : FnP K "opposites" sOpposites f fd) (T : Te K mg C B fA fG) : FnOk P w K mg base CX0 1 f fd ["word"] (spOpp K) := by
  refine F.ok scOpp (fun vs H Q E h => ?_) (fun cdv A outer s H vs Q E hr h => ?_)
  · obtain ⟨o, ws, rfl, _⟩ := h
    rfl
  · obtain ⟨o, ws, rfl, ho, h0, hz, q⟩ := h
    refine ⟨_, PSs.nox (pss_one (ps_ret (pe_callTy (T := "tuple") (r := rTupOf K) (by exact call_tuple_of) (by rfl) T.gr.ki.tuple (by decide +kernel) (pa_cons (pe_lc (own := [("literal", 1)]) (g := gName 1) (tt := tYes) rfl scOpp.nd (pi_tup (pv 0)) (blkOk_by (N := nOpp) (sc := defScope sOpposites) (by decide +kernel)) (fun _ _ _ _ _ => pg_name (i := 1) scOpp.nd rfl (Or.inl rfl)) (fun _ _ _ _ _ => pts_nil) (fun _ _ _ _ _ => (pe_op op_xor (pv 1) pe_int))) pa_nil)))), ?_⟩
    refine ⟨_, rfl, o, rfl, ⟨_, ho⟩, fun D nD => ?_⟩
    refine lc_tup (K := K) (a := o) (xs := ws.map V.int) (fun i H2 => Same H H2 ∧ H2 D = some (.lst (((ws.take i).map flp).map V.int))) ⟨same_new nD, upd_same⟩ (fun i H2 _ ⟨s2, _⟩ => seqT_same s2 ho) ?_ ?_
    · rintro i y H2 hi ⟨s2, h2⟩
      obtain ⟨a, rfl, ha⟩ := int_at hi
      refine ⟨rfl, yes_of ?_⟩
      refine ⟨_, rfl, _, _, rfl, rfl, ?_⟩
      have e1 := xor_one (h0 a (List.mem_of_getElem? ha))
      refine ⟨_, h2, ?_, fun b o e => ?_, ?_⟩
      · rw [List.length_map, List.length_map]
        exact Nat.lt_of_le_of_lt (List.length_take_le' _ _) (Nat.lt_of_le_of_lt hz (by decide))
      · rw [upd_ne (ne_of_none e nD)]
        exact s2 _ _ e
      · rw [upd_same, take_more ha, List.map_append, List.map_append]
        show _ = some (HO.lst (_ ++ [V.int (flp a)]))
        rw [← e1]
    · rintro H2 ⟨s2, h2⟩
      rw [List.length_map, List.take_length] at h2
      exact ⟨D, _, rfl, .inl ⟨SqL.of h2, fun t nt => q _ t (s2.trans (same_new nt)) upd_same⟩⟩
theorem ok_numb (F : FnP K "number_bits" sNumberBits f fd) (T : Te K mg C B fA fG) : FnOk P w K mg base CX0 1 f fd ["width", "number"] spNumB := by
  refine F.ok scNumB (fun vs H Q E h => ?_) (fun cdv A outer s H vs Q E hr h => ?_)
  · obtain ⟨m, x, rfl, _⟩ := h
    rfl
  · obtain ⟨m, x, rfl, hm, q⟩ := h
    refine ⟨_, PSs.nox (pss_one (ps_ret (pe_callTy (T := "tuple") (r := rTupOf K) (by exact call_tuple_of) (by rfl) T.gr.ki.tuple (by decide +kernel) (pa_cons (pe_lc (own := [("k", 2)]) (g := gName 2) (tt := tYes) rfl scNumB.nd (pi_range1 (by rfl) T.lf.range (pa_cons (pv 0) pa_nil)) (blkOk_by (N := nNumB) (sc := defScope sNumberBits) (by decide +kernel)) (fun _ _ _ _ _ => pg_name (i := 2) scNumB.nd rfl (Or.inl rfl)) (fun _ _ _ _ _ => pts_nil) (fun _ _ _ _ _ => (pe_op op_and (pe_op op_shr (pv 1) (pv 2)) pe_int))) pa_nil)))), ?_⟩
    refine ⟨_, rfl, m, rfl, by omega, by omega, fun D nD => ?_⟩
    refine lc_range (lo := 0) (n := (m : Int).toNat) (fun i H2 => Same H H2 ∧ H2 D = some (.lst ((bitsN i x).map V.int))) ⟨same_new nD, upd_same⟩ ?_ ?_
    · rintro i H2 hi ⟨s2, h2⟩
      refine ⟨rfl, yes_of ?_⟩
      refine ⟨_, rfl, _, rfl, _, _, rfl, rfl, by omega, _, _, rfl, rfl, ?_⟩
      have e1 := PyProof.Rows.bitAnd_m1 (x / 2 ^ (0 + (i : Int)).toNat)
      have e2 : (0 + (i : Int)).toNat = i := by omega
      have l2 : (bitsN i x).length = i := by
        unfold bitsN
        rw [List.length_map, List.length_range]
      refine ⟨_, h2, ?_, fun b o e => ?_, ?_⟩
      · rw [List.length_map, l2]
        exact Nat.lt_of_lt_of_le (by omega : i < 101) (by decide)
      · rw [upd_ne (ne_of_none e nD)]
        exact s2 _ _ e
      · have e3 : bitsN (i + 1) x = bitsN i x ++ [x / 2 ^ i % 2] := by
          unfold bitsN
          rw [List.range_succ, List.map_append]
          rfl
        rw [upd_same, e3, List.map_append]
        show some (HO.lst (_ ++ [V.int (Builtin.bitAnd (x / 2 ^ (0 + (i : Int)).toNat) 1)])) = _
        rw [e1, e2]
        rfl
    · rintro H2 ⟨s2, h2⟩
      rw [show (m : Int).toNat = m by omega] at h2
      exact ⟨D, _, rfl, .inl ⟨SqL.of h2, fun t nt => q _ t (s2.trans (same_new nt)) upd_same⟩⟩
theorem ok_full (F : FnP K "full_sum" sFullSum f fd) (T : Te K mg C B fA fG) (GA : FnOk P w K mg base CX0 1 fA dA ["self", "one", "other"] (spAnd K B)) (bA : Binds K dA ["self", "one", "other"] [])
    {fX fO : Addr} {dX dO : FuncData}
    (GX : FnOk P w K mg base CX0 2 fX dX ["builder", "one", "other"] (sp2 K B xorM)) (gX : mg "xor_of" = some (.ref fX)) (kX : PySem.W.keepIn K (.ref fX) = true) (bX : Binds K dX ["builder", "one", "other"] [])
    (GO : FnOk P w K mg base CX0 2 fO dO ["builder", "one", "other"] (sp2 K B orM)) (gO : mg "or_of" = some (.ref fO)) (kO : PySem.W.keepIn K (.ref fO) = true) (bO : Binds K dO ["builder", "one", "other"] [])
    : FnOk P w K mg base CX0 3 f fd ["builder", "a", "b", "c"] (spFull K B) := by
  refine F.ok scFull (fun vs H Q E h => ?_) (fun cdv A outer s H vs Q E hr h => ?_)
  · obtain ⟨b, gl, sd, n, x, y, z, gs, rfl, _⟩ := h
    rfl
  · obtain ⟨b, gl, sd, n, x, y, z, gs, rfl, hB, hok, hz, ix, iy, iz, q⟩ := h
    refine ⟨_, PSs.nox (pss_cons (ps_set (i := 4) scFull.nd rfl (Or.inl rfl) (pe_call GX (hr.mono (by decide)) (by rfl) gX kX bX .nil pass0 (pa_cons (pv 0) (pa_cons (pv 1) (pa_cons (pv 2) pa_nil)))))
      (pss_cons (ps_set (i := 5) scFull.nd rfl (Or.inl rfl) (pe_call GO (hr.mono (by decide)) (by rfl) gO kO bO .nil pass0 (pa_cons (pv 0) (pa_cons (pe_meth (pv 0) T.ty.t.cl T.ty.me GA (hr.mono (by decide)) bA .nil pass0 (pa_cons (pv 1) (pa_cons (pv 2) pa_nil))) (pa_cons (pe_meth (pv 0) T.ty.t.cl T.ty.me GA (hr.mono (by decide)) bA .nil pass0 (pa_cons (pv 4) (pa_cons (pv 3) pa_nil))) pa_nil)))))
      (pss_one (ps_ret (pe_tup (pa_cons (pe_call GX (hr.mono (by decide)) (by rfl) gX kX bX .nil pass0 (pa_cons (pv 0) (pa_cons (pv 4) (pa_cons (pv 3) pa_nil)))) (pa_cons (pv 5) pa_nil))))))), ?_⟩
    obtain ⟨s1, i1, v1⟩ := xor_st hok ix iy
    refine ⟨_, rfl, _, rfl, _, rfl, b, gl, sd, n, x, y, gs, rfl, hB, by omega, by omega, ix.1, iy.1, fun H1 k1 f1 B1 => ?_⟩
    have l1 := s1.len
    obtain ⟨dx, _, _, hb1, _⟩ := id B1
    have ix1 := inx ix s1.ext
    have iy1 := inx iy s1.ext
    obtain ⟨s2, i2, v2⟩ := and_st s1.ok ix1 iy1
    have l2 := s2.len
    refine ⟨_, rfl, _, rfl, b, dx, _, rfl, hb1, lk _ _ _, _, rfl, _, rfl, b, gl, sd, n, x, y, _, rfl, B1, by omega, ix.1, iy.1, fun H2 k2 f2 B2 => ?_⟩
    obtain ⟨dx2, _, _, hb2, _⟩ := id B2
    obtain ⟨s3, i3, v3⟩ := and_st s2.ok (inx i1 s2.ext) (inx iz (s1.trans s2).ext)
    have l3 := s3.len
    refine ⟨_, rfl, b, dx2, _, rfl, hb2, lk _ _ _, _, rfl, _, rfl, b, gl, sd, n, _, z, _, rfl, B2, by omega, i1.1, iz.1, fun H3 k3 f3 B3 => ?_⟩
    obtain ⟨s4, i4, v4⟩ := or_st s3.ok (inx i2 s3.ext) i3
    have l4 := s4.len
    refine ⟨b, gl, sd, n, _, _, _, rfl, B3, by omega, by omega, i2.1, i3.1, fun H4 k4 f4 B4 => ?_⟩
    refine ⟨_, rfl, _, rfl, _, rfl, b, gl, sd, n, _, z, _, rfl, B4, by omega, by omega, i1.1, iz.1, fun H5 k5 f5 B5 => ?_⟩
    obtain ⟨t1, t2, t3, t4⟩ := full_st hok ix iy iz rfl rfl rfl rfl rfl
    refine ⟨_, rfl, len2, fun t nt => ?_⟩
    refine q _ t _ _ _ (fun c o e n1 n2 => same_new nt _ _ (k5 _ _ (k4 _ _ (k3 _ _ (k2 _ _ (k1 _ _ e n1 n2) n1 n2) n1 n2) n1 n2) n1 n2)) ((f1.trans (f2.trans (f3.trans (f4.trans f5)))).trans (Firm.of (same_new nt))) (BAt.same B5 (same_new nt)) t1 t2 t3 t4 upd_same
end
end We
namespace Wf
open PySem PySem.Spec PyProof.Rows L2 Pen Dat Ki Fi Gr No Lf Cn Bd Be Bm Bw Bx Wd Zp We
/-- a row of literals that stands while the builder grows -/
def Wst (K : PySem.W.Frag) (gl sd : Addr) (t : Bool) (H : Hp) (a : Addr) (w : List Int) : Prop := ∀ H', But2 gl sd H H' → Firm H H' → SqB K t H' a (w.map V.int)
def spSum (K : PySem.W.Frag) (B : Addr) : Sp := fun vs H Q _ => ∃ (b gl sd one other : Addr) (n : Nat) (t1 t2 : Bool) (c : Int) (xs ys : List Int) (gs : Gts), vs = [.ref b, .ref one, .ref other, .int c] ∧ BAt K B H b gl sd n gs ∧ Gok n gs ∧ gs.length ≤ 1500 ∧
  Wst K gl sd t1 H one xs ∧ Wst K gl sd t2 H other ys ∧ xs.length = ys.length ∧ xs.length ≤ 20 ∧ WIn n gs xs ∧ WIn n gs ys ∧ InN n gs c ∧
  ∀ (H' : Hp) (t td : Addr) (g' : Gts) (told : List Int) (cy : Int), But2 gl sd H H' → Firm H H' → BAt K B H' b gl sd n g' → Step n gs g' (9 * xs.length) → told.length = xs.length → WIn n g' told → InN n g' cy →
    (∀ bs, Env n bs → wv g' bs told + 2 ^ xs.length * lv g' bs cy = wv gs bs xs + wv gs bs ys + lv gs bs c) → H' t = some (.tup [.ref td, .int cy]) → H' td = some (.tup (told.map V.int)) → Q (.ref t) H'
section
variable {P : Program} {w : World} {K : PySem.W.Frag} {mg : Str → Option Value} {base : Heap} {f C B fA fG : Addr} {fd dA : FuncData}
abbrev nNumW : List Str := ["width", "number"]
theorem scNumW : FnScope nNumW ["width", "number"] (defScope sNumberWord) := ⟨rfl, rfl, rfl, by decide +kernel, rfl, by decide +kernel, by decide +kernel⟩
abbrev nSum : List Str := ["builder", "one", "other", "carry", "told", "a", "b", "bit"]
theorem scSum : FnScope nSum ["builder", "one", "other", "carry"] (defScope sSummed) := ⟨rfl, rfl, rfl, by decide +kernel, rfl, by decide +kernel, by decide +kernel⟩
theorem ok_numw (F : FnP K "number_word" sNumberWord f fd) (T : Te K mg C B fA fG)
    {fN : Addr} {dN : FuncData}
    (GN : FnOk P w K mg base CX0 1 fN dN ["width", "number"] (spNumB)) (gN : mg "number_bits" = some (.ref fN)) (kN : PySem.W.keepIn K (.ref fN) = true) (bN : Binds K dN ["width", "number"] [])
    : FnOk P w K mg base CX0 2 f fd ["width", "number"] spNumB := by
  refine F.ok scNumW (fun vs H Q E h => ?_) (fun cdv A outer s H vs Q E hr h => ?_)
  · obtain ⟨m, x, rfl, _⟩ := h
    rfl
  · obtain ⟨m, x, rfl, hm, q⟩ := h
    refine ⟨_, PSs.nox (pss_one (ps_ret (pe_call GN (hr.mono (by decide)) (by rfl) gN kN bN .nil pass0 (pa_cons (pv 0) (pa_cons (pv 1) pa_nil))))), ?_⟩
    exact ⟨_, rfl, _, rfl, m, x, rfl, hm, q⟩
theorem wst_tup {H : Hp} {gl sd a : Addr} {ws : List Int} (h : SqT K H a (ws.map V.int)) : Wst K gl sd false H a ws := fun _ _ fi => firm_seq fi h
theorem But2.refl {p q : Addr} {H : Hp} : But2 p q H H := fun _ _ e _ _ => e
theorem Wst.to {H H' : Hp} {gl sd a : Addr} {t : Bool} {ws : List Int} (h : Wst K gl sd t H a ws) (k : But2 gl sd H H') (fi : Firm H H') : Wst K gl sd t H' a ws := fun H2 k2 f2 => h H2 (But2.trans k k2) (fi.trans f2)
theorem int_get {xs : List Int} {i : Nat} {y : V} (h : (xs.map V.int)[i]? = some y) : ∃ z, y = V.int z ∧ xs[i]? = some z := int_at h
theorem ok_sum (F : FnP K "summed" sSummed f fd) (T : Te K mg C B fA fG)
    {fF : Addr} {dF : FuncData}
    (GF : FnOk P w K mg base CX0 3 fF dF ["builder", "a", "b", "c"] (spFull K B)) (gF : mg "full_sum" = some (.ref fF)) (kF : PySem.W.keepIn K (.ref fF) = true) (bF : Binds K dF ["builder", "a", "b", "c"] [])
    : FnOk P w K mg base CX0 4 f fd ["builder", "one", "other", "carry"] (spSum K B) := by
  refine F.ok scSum (fun vs H Q E h => ?_) (fun cdv A outer s H vs Q E hr h => ?_)
  · obtain ⟨b, gl, sd, one, other, n, t1, t2, c, xs, ys, gs, rfl, _⟩ := h
    rfl
  · obtain ⟨b, gl, sd, one, other, n, t1, t2, c, xs, ys, gs, rfl, hB, hok, hz, w1, w2, le, l20, ix, iy, ic, q⟩ := h
    refine ⟨_, PSs.nox (pss_cons (ps_set (i := 4) scSum.nd rfl (Or.inl rfl) (pe_lst pa_nil))
      (pss_cons (ps_for PassesOwn.never rfl (Zp.pi_zipB (by rfl) T.zip (pa_cons (pv 1) (pa_cons (pv 2) pa_nil))) (pg_tup rfl (pgs_cons (pg_name (i := 5) scSum.nd rfl (Or.inl rfl)) (pgs_cons (pg_name (i := 6) scSum.nd rfl (Or.inl rfl)) pgs_nil)))
        (pss_cons (ps_asg (pe_call GF (hr.mono (by decide)) (by rfl) gF kF bF .nil pass0 (pa_cons (pv 0) (pa_cons (pv 5) (pa_cons (pv 6) (pa_cons (pv 3) pa_nil))))) (pg_tup rfl (pgs_cons (pg_name (i := 7) scSum.nd rfl (Or.inl rfl)) (pgs_cons (pg_name (i := 3) scSum.nd rfl (Or.inl rfl)) pgs_nil))))
        (pss_one (ps_expr (pe_bm PySem.F.plainAttrs_list PySem.F.slot_list_append PySem.F.type_list_append mt_append (pv 4) (pa_cons (pv 7) pa_nil))))))
      (pss_one (ps_ret (pe_tup (pa_cons (pe_callTy (T := "tuple") (r := rTupOf K) (by exact call_tuple_of) (by rfl) T.gr.ki.tuple (by decide +kernel) (pa_cons (pv 4) pa_nil)) (pa_cons (pv 3) pa_nil))))))), ?_⟩
    refine ⟨(by show 0 ≤ sizeLine; decide), fun l nl => ⟨_, rfl, ?_⟩⟩
    have sl := same_new (u := .lst []) nl
    obtain ⟨dx0, ws0, kv0, hb0, hg0, _, hs0, _⟩ := id hB
    have ng : l ≠ gl := fun z => by
      rw [z, hg0] at nl
      cases nl
    have ns : l ≠ sd := fun z => by
      rw [z, hs0] at nl
      cases nl
    have nb : b ≠ l := fun z => by
      rw [← z, hb0] at nl
      cases nl
    have kl : ∀ {H'}, But2 gl sd H H' → ∀ z, But2 gl sd H (upd H' l z) := fun k z c o e n1 n2 => by
      rw [upd_ne (ne_of_none e nl)]
      exact k _ _ e n1 n2
    refine ⟨_, rfl, t1, t2, one, other, xs.map V.int, ys.map V.int, rfl, w1 _ (fun _ _ e _ _ => sl _ _ e) (Firm.of sl), w2 _ (fun _ _ e _ _ => sl _ _ e) (Firm.of sl), ?_⟩
    refine for_zipB (K := K) (xs := xs.map V.int) (ys := ys.map V.int) (by rw [List.length_map, List.length_map, le])
      (fun i σ H' => ∃ (cy : Int) (x5 x6 x7 : Option V) (g' : Gts) (told : List Int), σ = [some (.ref b), some (.ref one), some (.ref other), some (.int cy), some (.ref l), x5, x6, x7] ∧ But2 gl sd H H' ∧ Firm H H' ∧ BAt K B H' b gl sd n g' ∧ Step n gs g' (9 * i) ∧
        H' l = some (.lst (told.map V.int)) ∧ told.length = i ∧ WIn n g' told ∧ InN n g' cy ∧ ∀ bs, Env n bs → wv g' bs told + 2 ^ i * lv g' bs cy = wv gs bs (xs.take i) + wv gs bs (ys.take i) + lv gs bs c)
      ⟨c, none, none, none, gs, [], rfl, fun _ _ e _ _ => sl _ _ e, Firm.of sl, We.BAt.same hB sl, Wd.Step.refl hok, upd_same, rfl, (fun _ h => by cases h), ic, fun bs hb => by
        show 0 + 1 * lv gs bs c = 0 + 0 + lv gs bs c
        omega⟩ ?_ ?_ ?_
    · rintro i σ H2 ⟨cy, x5, x6, x7, g', told, rfl, k2, f2, _⟩
      exact ⟨w1 _ k2 f2, w2 _ k2 f2⟩
    · rintro i y1 y2 qa σ H2 hx hy ⟨cy, x5, x6, x7, g', told, rfl, k2, f2, B2, st2, hl2, tl2, wi2, ic2, v2⟩ nq
      obtain ⟨x, rfl, hx2⟩ := int_get hx
      obtain ⟨y, rfl, hy2⟩ := int_get hy
      have ix1 := ix x (List.mem_of_getElem? hx2)
      have iy1 := iy y (List.mem_of_getElem? hy2)
      have i20 : i < xs.length := (List.getElem?_eq_some_iff.mp hx2).1
      have st2l := st2.len
      refine ⟨qa, _, rfl, SqT.of upd_same, rfl, _, _, rfl, _, _, rfl, rfl, ?_⟩
      have sq := same_new (u := .tup [.int x, .int y]) nq
      refine ⟨_, rfl, _, rfl, _, rfl, _, rfl, b, gl, sd, n, x, y, cy, g', rfl, We.BAt.same B2 sq, st2.ok, by omega, inx ix1 st2.ext, inx iy1 st2.ext, ic2, fun H3 t g3 sm cy3 k3 f3 B3 st3 is3 icy3 v3 ht3 => ?_⟩
      obtain ⟨dx3, ws3, kv3, hb3, hg3, _, hs3, _⟩ := id B3
      refine ⟨t, _, rfl, SqT.of ht3, rfl, _, _, rfl, _, _, rfl, rfl, ?_⟩
      have hl3 := k3 _ _ (sq _ _ hl2) ng ns
      have k23 : But2 gl sd H H3 := But2.trans (But2.trans k2 (fun _ _ e _ _ => sq _ _ e)) k3
      have f23 := f2.trans ((Firm.of sq).trans f3)
      refine ⟨_, rfl, .inl ⟨rfl, _, SqL.of hl3⟩, _, rfl, l, _, _, rfl, rfl, hl3, ?_, ?_⟩
      · rw [List.length_map, tl2]
        exact Nat.lt_of_lt_of_le (by omega : i < 20) (by decide)
      have fu : Firm H3 (upd H3 l (.lst (told.map V.int ++ [V.int sm]))) := Firm.upd hl3 rfl
      refine ⟨cy3, _, _, _, g3, told ++ [sm], rfl, kl k23 _, f23.trans fu, BAt.keep B3 fu (fun o e => ?_) (fun o e => ?_) (fun o e => ?_), (st2.trans st3).le (by omega), by rw [upd_same, List.map_append]; rfl, by rw [List.length_append, tl2]; rfl, win_app (wi2.ext st3.ext) (win_one is3), icy3, fun bs hb => ?_⟩
      · rw [upd_ne nb]
        exact e
      · rw [upd_ne (Ne.symm ng)]
        exact e
      · rw [upd_ne (Ne.symm ns)]
        exact e
      · have a1 := v2 bs hb
        have a2 := v3 bs hb
        rw [lv_ext ix1 st2.ext hb, lv_ext iy1 st2.ext hb] at a2
        rw [wv_snoc, wv_ext wi2 st3.ext hb, tl2, take_more hx2, take_more hy2, wv_snoc, wv_snoc, List.length_take, List.length_take, Nat.min_eq_left (Nat.le_of_lt i20), Nat.min_eq_left (by omega), Int.pow_succ]
        generalize lv g3 bs sm = p1 at a2 ⊢
        generalize lv g3 bs cy3 = p2 at a2 ⊢
        generalize (2 : Int) ^ i = m at a1 ⊢
        have a3 : m * (p1 + 2 * p2) = m * (lv gs bs x + lv gs bs y + lv g' bs cy) := by rw [a2]
        rw [Int.mul_add, Int.mul_add, Int.mul_add, ← Int.mul_assoc] at a3
        omega
    · rintro σ H2 ⟨cy, x5, x6, x7, g', told, rfl, k2, f2, B2, st2, hl2, tl2, wi2, ic2, v2⟩
      rw [List.length_map] at st2 tl2 v2
      refine ⟨_, rfl, l, _, rfl, .inl ⟨SqL.of hl2, fun td ntd => ⟨_, rfl, len2, fun t nt => ?_⟩⟩⟩
      have sd1 := same_new (u := .tup (told.map V.int)) ntd
      have st1 := same_new (u := .tup [.ref td, .int cy]) nt
      have ss := sd1.trans st1
      refine q _ t td g' told cy (fun _ _ e n1 n2 => ss _ _ (k2 _ _ e n1 n2)) (f2.trans (Firm.of ss)) (We.BAt.same B2 ss) st2 tl2 wi2 ic2 (fun bs hb => ?_) upd_same (st1 _ _ upd_same)
      rw [v2 bs hb, List.take_length, List.take_of_length_le (Nat.le_of_eq le.symm)]
end
end Wf
namespace Wg
open PySem PySem.Spec PyProof.Rows L2 Pen Dat Ki Fi Gr No Lf Cn Bd Be Bm Bw Bx Wd Zp We Wf
def spDiff (K : PySem.W.Frag) (B : Addr) : Sp := fun vs H Q _ => ∃ (b gl sd one other : Addr) (n : Nat) (xs ys : List Int) (gs : Gts), vs = [.ref b, .ref one, .ref other] ∧ BAt K B H b gl sd n gs ∧ Gok n gs ∧ gs.length ≤ 1500 ∧
  SqT K H one (xs.map V.int) ∧ SqT K H other (ys.map V.int) ∧ xs.length = ys.length ∧ xs.length ≤ 20 ∧ WIn n gs xs ∧ WIn n gs ys ∧
  ∀ (H' : Hp) (t : Addr) (g' : Gts) (told : List Int), But2 gl sd H H' → Firm H H' → BAt K B H' b gl sd n g' → Wd.Step n gs g' (9 * xs.length) → told.length = xs.length → WIn n g' told →
    (∀ bs, Env n bs → ∃ k : Int, wv g' bs told + 2 ^ xs.length * k = wv gs bs xs + 2 ^ xs.length - wv gs bs ys) → H' t = some (.tup (told.map V.int)) → Q (.ref t) H'
/-- one literal of two words -/
def spOne (K : PySem.W.Frag) (B : Addr) (c : Nat) (z : Int → Int → Int) : Sp := fun vs H Q _ => ∃ (b gl sd one other : Addr) (n : Nat) (xs ys : List Int) (gs : Gts), vs = [.ref b, .ref one, .ref other] ∧ BAt K B H b gl sd n gs ∧ Gok n gs ∧ gs.length ≤ 1500 ∧
  SqT K H one (xs.map V.int) ∧ SqT K H other (ys.map V.int) ∧ xs.length = ys.length ∧ xs.length ≤ 20 ∧ WIn n gs xs ∧ WIn n gs ys ∧
  ∀ (H' : Hp) (g' : Gts) (l : Int), But2 gl sd H H' → Firm H H' → BAt K B H' b gl sd n g' → Wd.Step n gs g' (c * xs.length) → InN n g' l → (∀ bs, Env n bs → lv g' bs l = z (wv gs bs xs) (wv gs bs ys)) → Q (.int l) H'
def spChosen (K : PySem.W.Frag) (B : Addr) : Sp := fun vs H Q _ => ∃ (b gl sd one other : Addr) (n : Nat) (c : Int) (xs ys : List Int) (gs : Gts), vs = [.ref b, .int c, .ref one, .ref other] ∧ BAt K B H b gl sd n gs ∧ Gok n gs ∧ gs.length ≤ 1500 ∧
  SqT K H one (xs.map V.int) ∧ SqT K H other (ys.map V.int) ∧ xs.length = ys.length ∧ xs.length ≤ 20 ∧ InN n gs c ∧ WIn n gs xs ∧ WIn n gs ys ∧
  ∀ (H' : Hp) (t : Addr) (g' : Gts) (told : List Int), But2 gl sd H H' → Firm H H' → BAt K B H' b gl sd n g' → Wd.Step n gs g' (3 * xs.length) → told.length = xs.length → WIn n g' told →
    (∀ bs, Env n bs → wv g' bs told = if lv gs bs c = 1 then wv gs bs xs else wv gs bs ys) → H' t = some (.tup (told.map V.int)) → Q (.ref t) H'
def ltZ (a b : Int) : Int := if a < b then 1 else 0
def eqZ (a b : Int) : Int := if a = b then 1 else 0
theorem lv_0 {gs : Gts} {bs : List Int} : lv gs bs 0 = 0 := (lit_pre (bs := bs) [] gs (a := 0) (by decide) (by show 0 < _; omega)).trans rfl
theorem lv_1 {gs : Gts} {bs : List Int} : lv gs bs 1 = 1 := (lit_pre (bs := bs) [] gs (a := 1) (by decide) (by show 0 < _; omega)).trans rfl
theorem in_0 {n : Nat} {gs : Gts} : InN n gs 0 := ⟨by decide, by omega⟩
theorem in_1 {n : Nat} {gs : Gts} : InN n gs 1 := ⟨by decide, by omega⟩
theorem wv_cons {gs : Gts} {bs w : List Int} {a : Int} : wv gs bs (a :: w) = lv gs bs a + 2 * wv gs bs w := rfl
theorem win_flp {n : Nat} {gs : Gts} {w : List Int} (h : WIn n gs w) : WIn n gs (w.map flp) := fun a ha => by
  obtain ⟨z, hz, rfl⟩ := List.mem_map.mp ha
  exact flp_in (h z hz)
theorem wv_flp {n : Nat} {gs : Gts} {bs : List Int} (hb : Env n bs) : ∀ {w : List Int}, WIn n gs w → wv gs bs (w.map flp) = 2 ^ w.length - 1 - wv gs bs w
  | [], _ => rfl
  | a :: w, h => by
    have t := wv_flp hb (w := w) fun z hz => h z (List.mem_cons_of_mem _ hz)
    rw [List.map_cons, wv_cons, wv_cons, t, flp_lv (h a List.mem_cons_self) hb, List.length_cons, Int.pow_succ]
    omega
theorem lt_step {a b x y m : Int} (ha : 0 ≤ a ∧ a < m) (hb : 0 ≤ b ∧ b < m) (hx : x = 0 ∨ x = 1) (hy : y = 0 ∨ y = 1) : (if (1 - x * y) * (1 - (1 - x) * (1 - y)) = 1 then y else ltZ a b) = ltZ (a + m * x) (b + m * y) := by
  unfold ltZ
  rcases hx with rfl | rfl <;> rcases hy with rfl | rfl
  · rw [if_neg (by decide), Int.mul_zero, Int.add_zero, Int.add_zero]
  · rw [if_pos (by decide), if_pos (by omega)]
  · rw [if_pos (by decide), if_neg (by omega)]
  · rw [if_neg (by decide)]
    by_cases h : a < b
    · rw [if_pos h, if_pos (by omega)]
    · rw [if_neg h, if_neg (by omega)]
theorem eq_step {a b x y m : Int} (ha : 0 ≤ a ∧ a < m) (hb : 0 ≤ b ∧ b < m) (hx : x = 0 ∨ x = 1) (hy : y = 0 ∨ y = 1) : eqZ a b * (1 - (1 - x * y) * (1 - (1 - x) * (1 - y))) = eqZ (a + m * x) (b + m * y) := by
  unfold eqZ
  rcases hx with rfl | rfl <;> rcases hy with rfl | rfl
  · have e : (1 - (1 - 0 * 0) * (1 - (1 - 0) * (1 - 0)) : Int) = 1 := by decide
    rw [e, Int.mul_one, show a + m * 0 = a by omega, show b + m * 0 = b by omega]
  · rw [if_neg (c := a + m * 0 = b + m * 1) (by omega)]
    exact Int.mul_zero _
  · rw [if_neg (c := a + m * 1 = b + m * 0) (by omega)]
    exact Int.mul_zero _
  · by_cases h : a = b
    · rw [if_pos h, if_pos (by omega)]
      decide
    · rw [if_neg h, if_neg (by omega)]
      decide
section
variable {P : Program} {w : World} {K : PySem.W.Frag} {mg : Str → Option Value} {base : Heap} {f C B fA fG : Addr} {fd dA : FuncData}
abbrev nDiff : List Str := ["builder", "one", "other"]
theorem scDiff : FnScope nDiff ["builder", "one", "other"] (defScope sDifference) := ⟨rfl, rfl, rfl, by decide +kernel, rfl, by decide +kernel, by decide +kernel⟩
abbrev nBelow : List Str := ["builder", "one", "other", "told", "a", "b"]
theorem scBelow : FnScope nBelow ["builder", "one", "other"] (defScope sIsBelow) := ⟨rfl, rfl, rfl, by decide +kernel, rfl, by decide +kernel, by decide +kernel⟩
abbrev nEqual : List Str := ["builder", "one", "other", "told", "a", "b"]
theorem scEqual : FnScope nEqual ["builder", "one", "other"] (defScope sIsEqual) := ⟨rfl, rfl, rfl, by decide +kernel, rfl, by decide +kernel, by decide +kernel⟩
abbrev nChosen : List Str := ["builder", "c", "one", "other", "a", "b"]
theorem scChosen : FnScope nChosen ["builder", "c", "one", "other"] (defScope sChosen) := ⟨rfl, rfl, rfl, by decide +kernel, rfl, by decide +kernel, by decide +kernel⟩
theorem ok_diff (F : FnP K "difference" sDifference f fd) (T : Te K mg C B fA fG)
    {fS fO : Addr} {dS dO : FuncData}
    (GS : FnOk P w K mg base CX0 4 fS dS ["builder", "one", "other", "carry"] (spSum K B)) (gS : mg "summed" = some (.ref fS)) (kS : PySem.W.keepIn K (.ref fS) = true) (bS : Binds K dS ["builder", "one", "other", "carry"] [])
    (GO : FnOk P w K mg base CX0 1 fO dO ["word"] (spOpp K)) (gO : mg "opposites" = some (.ref fO)) (kO : PySem.W.keepIn K (.ref fO) = true) (bO : Binds K dO ["word"] [])
    : FnOk P w K mg base CX0 5 f fd ["builder", "one", "other"] (spDiff K B) := by
  refine F.ok scDiff (fun vs H Q E h => ?_) (fun cdv A outer s H vs Q E hr h => ?_)
  · obtain ⟨b, gl, sd, one, other, n, xs, ys, gs, rfl, _⟩ := h
    rfl
  · obtain ⟨b, gl, sd, one, other, n, xs, ys, gs, rfl, hB, hok, hz, h1, h2, le, l20, ix, iy, q⟩ := h
    refine ⟨_, PSs.nox (pss_one (ps_ret (pe_ix (r := L2.rIxT K) (by exact ix_tup) (pe_call GS (hr.mono (by decide)) (by rfl) gS kS bS .nil pass0 (pa_cons (pv 0) (pa_cons (pv 1) (pa_cons (pe_call GO (hr.mono (by decide)) (by rfl) gO kO bO .nil pass0 (pa_cons (pv 2) pa_nil)) (pa_cons pe_int pa_nil))))) pe_int (fun _ _ => rfl)))), ?_⟩
    refine ⟨_, rfl, _, rfl, _, rfl, other, ys, rfl, h2, fun a ha => (iy a ha).1, by omega, fun H1 t s1 ht => ?_⟩
    refine ⟨b, gl, sd, one, t, n, false, false, 1, xs, ys.map flp, gs, rfl, We.BAt.same hB s1, hok, hz, wst_tup (seqT_same s1 h1), wst_tup (SqT.of ht), by rw [List.length_map, le], l20, ix, win_flp iy, in_1, fun H2 t2 td g' told cy k2 f2 B2 st2 tl2 wi2 ic2 v2 ht2 htd => ?_⟩
    refine ⟨t2, _, _, _, rfl, rfl, SqT.of ht2, at_of (j := 0) rfl rfl, ?_⟩
    refine q H2 td g' told (fun _ _ e n1 n2 => k2 _ _ (s1 _ _ e) n1 n2) ((Firm.of s1).trans f2) B2 st2 tl2 wi2 (fun bs hb => ⟨lv g' bs cy, ?_⟩) htd
    rw [v2 bs hb, wv_flp hb iy, lv_1, le]
    omega
theorem ok_below (F : FnP K "is_below" sIsBelow f fd) (T : Te K mg C B fA fG)
    {fX fH : Addr} {dX dH : FuncData}
    (GX : FnOk P w K mg base CX0 2 fX dX ["builder", "one", "other"] (sp2 K B xorM)) (gX : mg "xor_of" = some (.ref fX)) (kX : PySem.W.keepIn K (.ref fX) = true) (bX : Binds K dX ["builder", "one", "other"] [])
    (GH : FnOk P w K mg base CX0 3 fH dH ["builder", "c", "one", "other"] (sp3 K B)) (gH : mg "choice_of" = some (.ref fH)) (kH : PySem.W.keepIn K (.ref fH) = true) (bH : Binds K dH ["builder", "c", "one", "other"] [])
    : FnOk P w K mg base CX0 4 f fd ["builder", "one", "other"] (spOne K B 6 ltZ) := by
  refine F.ok scBelow (fun vs H Q E h => ?_) (fun cdv A outer s H vs Q E hr h => ?_)
  · obtain ⟨b, gl, sd, one, other, n, xs, ys, gs, rfl, _⟩ := h
    rfl
  · obtain ⟨b, gl, sd, one, other, n, xs, ys, gs, rfl, hB, hok, hz, h1, h2, le, l20, ix, iy, q⟩ := h
    refine ⟨_, PSs.nox (pss_cons (ps_set (i := 3) scBelow.nd rfl (Or.inl rfl) pe_int)
      (pss_cons (ps_for PassesOwn.never rfl (Zp.pi_zipB (by rfl) T.zip (pa_cons (pv 1) (pa_cons (pv 2) pa_nil))) (pg_tup rfl (pgs_cons (pg_name (i := 4) scBelow.nd rfl (Or.inl rfl)) (pgs_cons (pg_name (i := 5) scBelow.nd rfl (Or.inl rfl)) pgs_nil)))
        (pss_one (ps_set (i := 3) scBelow.nd rfl (Or.inl rfl) (pe_call GH (hr.mono (by decide)) (by rfl) gH kH bH .nil pass0 (pa_cons (pv 0) (pa_cons (pe_call GX (hr.mono (by decide)) (by rfl) gX kX bX .nil pass0 (pa_cons (pv 0) (pa_cons (pv 4) (pa_cons (pv 5) pa_nil)))) (pa_cons (pv 5) (pa_cons (pv 3) pa_nil))))))))
      (pss_one (ps_ret (pv 3))))), ?_⟩
    have w1 := wst_tup (gl := gl) (sd := sd) h1
    have w2 := wst_tup (gl := gl) (sd := sd) h2
    refine ⟨_, rfl, _, rfl, false, false, one, other, xs.map V.int, ys.map V.int, rfl, h1, h2, ?_⟩
    refine for_zipB (K := K) (xs := xs.map V.int) (ys := ys.map V.int) (by rw [List.length_map, List.length_map, le])
      (fun i σ H' => ∃ (l : Int) (x4 x5 : Option V) (g' : Gts), σ = [some (.ref b), some (.ref one), some (.ref other), some (.int l), x4, x5] ∧ But2 gl sd H H' ∧ Firm H H' ∧ BAt K B H' b gl sd n g' ∧ Wd.Step n gs g' (6 * i) ∧
        InN n g' l ∧ ∀ bs, Env n bs → lv g' bs l = ltZ (wv gs bs (xs.take i)) (wv gs bs (ys.take i)))
      ⟨0, none, none, gs, rfl, But2.refl, Firm.refl H, hB, Wd.Step.refl hok, in_0, fun bs hb => lv_0⟩ ?_ ?_ ?_
    · rintro i σ H2 ⟨l, x4, x5, g', rfl, k2, f2, _⟩
      exact ⟨w1 _ k2 f2, w2 _ k2 f2⟩
    · rintro i y1 y2 qa σ H2 hx hy ⟨l, x4, x5, g', rfl, k2, f2, B2, st2, il2, v2⟩ nq
      obtain ⟨x, rfl, hx2⟩ := int_get hx
      obtain ⟨y, rfl, hy2⟩ := int_get hy
      have ix1 := ix x (List.mem_of_getElem? hx2)
      have iy1 := iy y (List.mem_of_getElem? hy2)
      have i20 : i < xs.length := (List.getElem?_eq_some_iff.mp hx2).1
      have st2l := st2.len
      refine ⟨qa, _, rfl, SqT.of upd_same, rfl, _, _, rfl, _, _, rfl, rfl, ?_⟩
      have sq := same_new (u := .tup [.int x, .int y]) nq
      have ix2 := inx ix1 st2.ext
      have iy2 := inx iy1 st2.ext
      obtain ⟨s3, i3, v3⟩ := xor_st st2.ok ix2 iy2
      have s3l := s3.len
      refine ⟨_, rfl, _, rfl, _, rfl, _, rfl, b, gl, sd, n, x, y, g', rfl, We.BAt.same B2 sq, by omega, by omega, ix1.1, iy1.1, fun H3 k3 f3 B3 => ?_⟩
      obtain ⟨s4, i4, v4⟩ := choice_st s3.ok i3 (inx iy2 s3.ext) (inx il2 s3.ext)
      refine ⟨_, rfl, _, rfl, b, gl, sd, n, _, y, l, _, rfl, B3, by omega, by omega, i3.1, iy1.1, il2.1, fun H4 k4 f4 B4 => ?_⟩
      refine ⟨_, _, _, _, rfl, But2.trans (But2.trans (But2.trans k2 (fun _ _ e _ _ => sq _ _ e)) k3) k4, f2.trans ((Firm.of sq).trans (f3.trans f4)), B4, (st2.trans (s3.trans s4)).le (by omega), i4, fun bs hb => ?_⟩
      rw [v4 bs hb, v3 bs hb, lv_ext iy2 s3.ext hb, lv_ext il2 s3.ext hb, v2 bs hb, lv_ext ix1 st2.ext hb, lv_ext iy1 st2.ext hb]
      rw [take_more hx2, take_more hy2, wv_snoc, wv_snoc, List.length_take, List.length_take, Nat.min_eq_left (Nat.le_of_lt i20), Nat.min_eq_left (by omega)]
      have u1 := wv_lt (n := n) (gs := gs) (bs := bs) (w := xs.take i) hb
      have u2 := wv_lt (n := n) (gs := gs) (bs := bs) (w := ys.take i) hb
      rw [List.length_take, Nat.min_eq_left (Nat.le_of_lt i20)] at u1
      rw [List.length_take, Nat.min_eq_left (by omega)] at u2
      exact lt_step u1 u2 (lv01 hb) (lv01 hb)
    · rintro σ H2 ⟨l, x4, x5, g', rfl, k2, f2, B2, st2, il2, v2⟩
      rw [List.length_map] at st2 v2
      refine ⟨_, rfl, q H2 g' l k2 f2 B2 st2 il2 fun bs hb => ?_⟩
      rw [v2 bs hb, List.take_length, List.take_of_length_le (Nat.le_of_eq le.symm)]
theorem ok_equal (F : FnP K "is_equal" sIsEqual f fd) (T : Te K mg C B fA fG) (GA : FnOk P w K mg base CX0 1 fA dA ["self", "one", "other"] (spAnd K B)) (bA : Binds K dA ["self", "one", "other"] [])
    {fX : Addr} {dX : FuncData}
    (GX : FnOk P w K mg base CX0 2 fX dX ["builder", "one", "other"] (sp2 K B xorM)) (gX : mg "xor_of" = some (.ref fX)) (kX : PySem.W.keepIn K (.ref fX) = true) (bX : Binds K dX ["builder", "one", "other"] [])
    : FnOk P w K mg base CX0 3 f fd ["builder", "one", "other"] (spOne K B 4 eqZ) := by
  refine F.ok scEqual (fun vs H Q E h => ?_) (fun cdv A outer s H vs Q E hr h => ?_)
  · obtain ⟨b, gl, sd, one, other, n, xs, ys, gs, rfl, _⟩ := h
    rfl
  · obtain ⟨b, gl, sd, one, other, n, xs, ys, gs, rfl, hB, hok, hz, h1, h2, le, l20, ix, iy, q⟩ := h
    refine ⟨_, PSs.nox (pss_cons (ps_set (i := 3) scEqual.nd rfl (Or.inl rfl) pe_int)
      (pss_cons (ps_for PassesOwn.never rfl (Zp.pi_zipB (by rfl) T.zip (pa_cons (pv 1) (pa_cons (pv 2) pa_nil))) (pg_tup rfl (pgs_cons (pg_name (i := 4) scEqual.nd rfl (Or.inl rfl)) (pgs_cons (pg_name (i := 5) scEqual.nd rfl (Or.inl rfl)) pgs_nil)))
        (pss_one (ps_set (i := 3) scEqual.nd rfl (Or.inl rfl) (pe_meth (pv 0) T.ty.t.cl T.ty.me GA (hr.mono (by decide)) bA .nil pass0 (pa_cons (pv 3) (pa_cons (pe_op op_xor (pe_call GX (hr.mono (by decide)) (by rfl) gX kX bX .nil pass0 (pa_cons (pv 0) (pa_cons (pv 4) (pa_cons (pv 5) pa_nil)))) pe_int) pa_nil))))))
      (pss_one (ps_ret (pv 3))))), ?_⟩
    have w1 := wst_tup (gl := gl) (sd := sd) h1
    have w2 := wst_tup (gl := gl) (sd := sd) h2
    refine ⟨_, rfl, _, rfl, false, false, one, other, xs.map V.int, ys.map V.int, rfl, h1, h2, ?_⟩
    refine for_zipB (K := K) (xs := xs.map V.int) (ys := ys.map V.int) (by rw [List.length_map, List.length_map, le])
      (fun i σ H' => ∃ (l : Int) (x4 x5 : Option V) (g' : Gts), σ = [some (.ref b), some (.ref one), some (.ref other), some (.int l), x4, x5] ∧ But2 gl sd H H' ∧ Firm H H' ∧ BAt K B H' b gl sd n g' ∧ Wd.Step n gs g' (4 * i) ∧
        InN n g' l ∧ ∀ bs, Env n bs → lv g' bs l = eqZ (wv gs bs (xs.take i)) (wv gs bs (ys.take i)))
      ⟨1, none, none, gs, rfl, But2.refl, Firm.refl H, hB, Wd.Step.refl hok, in_1, fun bs hb => lv_1⟩ ?_ ?_ ?_
    · rintro i σ H2 ⟨l, x4, x5, g', rfl, k2, f2, _⟩
      exact ⟨w1 _ k2 f2, w2 _ k2 f2⟩
    · rintro i y1 y2 qa σ H2 hx hy ⟨l, x4, x5, g', rfl, k2, f2, B2, st2, il2, v2⟩ nq
      obtain ⟨x, rfl, hx2⟩ := int_get hx
      obtain ⟨y, rfl, hy2⟩ := int_get hy
      have ix1 := ix x (List.mem_of_getElem? hx2)
      have iy1 := iy y (List.mem_of_getElem? hy2)
      have i20 : i < xs.length := (List.getElem?_eq_some_iff.mp hx2).1
      have st2l := st2.len
      refine ⟨qa, _, rfl, SqT.of upd_same, rfl, _, _, rfl, _, _, rfl, rfl, ?_⟩
      have sq := same_new (u := .tup [.int x, .int y]) nq
      have ix2 := inx ix1 st2.ext
      have iy2 := inx iy1 st2.ext
      obtain ⟨s3, i3, v3⟩ := xor_st st2.ok ix2 iy2
      have s3l := s3.len
      have B2q := We.BAt.same B2 sq
      obtain ⟨dxq, _, _, hbq, _⟩ := id B2q
      refine ⟨_, rfl, b, dxq, _, rfl, hbq, lk _ _ _, _, rfl, _, rfl, _, rfl, _, rfl, b, gl, sd, n, x, y, g', rfl, B2q, by omega, by omega, ix1.1, iy1.1, fun H3 k3 f3 B3 => ?_⟩
      have i3' := flp_in i3
      obtain ⟨s4, i4, v4⟩ := and_st s3.ok (inx il2 s3.ext) i3'
      have e1 := xor_one i3.1
      refine ⟨_, _, rfl, rfl, b, gl, sd, n, l, flp (xorM n g' x y).2, _, by show [V.ref b, V.int l, V.int (Builtin.bitXor (xorM n g' x y).2 1)] = _; rw [e1], B3, by omega, il2.1, i3'.1, fun H4 k4 f4 B4 => ?_⟩
      refine ⟨_, _, _, _, rfl, But2.trans (But2.trans (But2.trans k2 (fun _ _ e _ _ => sq _ _ e)) k3) k4, f2.trans ((Firm.of sq).trans (f3.trans f4)), B4, (st2.trans (s3.trans s4)).le (by omega), i4, fun bs hb => ?_⟩
      rw [v4 bs hb, flp_lv i3 hb, v3 bs hb, lv_ext il2 s3.ext hb, v2 bs hb, lv_ext ix1 st2.ext hb, lv_ext iy1 st2.ext hb]
      rw [take_more hx2, take_more hy2, wv_snoc, wv_snoc, List.length_take, List.length_take, Nat.min_eq_left (Nat.le_of_lt i20), Nat.min_eq_left (by omega)]
      have u1 := wv_lt (n := n) (gs := gs) (bs := bs) (w := xs.take i) hb
      have u2 := wv_lt (n := n) (gs := gs) (bs := bs) (w := ys.take i) hb
      rw [List.length_take, Nat.min_eq_left (Nat.le_of_lt i20)] at u1
      rw [List.length_take, Nat.min_eq_left (by omega)] at u2
      exact eq_step u1 u2 (lv01 hb) (lv01 hb)
    · rintro σ H2 ⟨l, x4, x5, g', rfl, k2, f2, B2, st2, il2, v2⟩
      rw [List.length_map] at st2 v2
      refine ⟨_, rfl, q H2 g' l k2 f2 B2 st2 il2 fun bs hb => ?_⟩
      rw [v2 bs hb, List.take_length, List.take_of_length_le (Nat.le_of_eq le.symm)]
theorem ok_chosen (F : FnP K "chosen" sChosen f fd) (T : Te K mg C B fA fG)
    {fH : Addr} {dH : FuncData}
    (GH : FnOk P w K mg base CX0 3 fH dH ["builder", "c", "one", "other"] (sp3 K B)) (gH : mg "choice_of" = some (.ref fH)) (kH : PySem.W.keepIn K (.ref fH) = true) (bH : Binds K dH ["builder", "c", "one", "other"] [])
    : FnOk P w K mg base CX0 4 f fd ["builder", "c", "one", "other"] (spChosen K B) := by
  refine F.ok scChosen (fun vs H Q E h => ?_) (fun cdv A outer s H vs Q E hr h => ?_)
  · obtain ⟨b, gl, sd, one, other, n, c, xs, ys, gs, rfl, _⟩ := h
    rfl
  · obtain ⟨b, gl, sd, one, other, n, c, xs, ys, gs, rfl, hB, hok, hz, h1, h2, le, l20, ic, ix, iy, q⟩ := h
    refine ⟨_, PSs.nox (pss_one (ps_ret (pe_callTy (T := "tuple") (r := rTupOf K) (by exact call_tuple_of) (by rfl) T.gr.ki.tuple (by decide +kernel) (pa_cons (pe_lc (own := [("a", 4), ("b", 5)]) (g := _) (tt := tYes) rfl scChosen.nd (Zp.pi_zipB (by rfl) T.zip (pa_cons (pv 2) (pa_cons (pv 3) pa_nil))) (blkOk_by (N := nChosen) (sc := defScope sChosen) (by decide +kernel)) (fun _ _ _ _ _ => (Us.pg_tupK (K := K) (n := 2) rfl rfl (pgs_cons (pg_name (i := 4) scChosen.nd rfl (Or.inl rfl)) (pgs_cons (pg_name (i := 5) scChosen.nd rfl (Or.inl rfl)) pgs_nil)))) (fun _ _ _ _ _ => pts_nil) (fun _ _ _ _ _ => (pe_call GH (hr.mono (by decide)) (by rfl) gH kH bH .nil pass0 (pa_cons (pv 0) (pa_cons (pv 1) (pa_cons (pv 4) (pa_cons (pv 5) pa_nil))))))) pa_nil)))), ?_⟩
    have w1 := wst_tup (gl := gl) (sd := sd) h1
    have w2 := wst_tup (gl := gl) (sd := sd) h2
    refine ⟨_, rfl, _, rfl, false, false, one, other, xs.map V.int, ys.map V.int, rfl, h1, h2, fun D nD => ?_⟩
    have sl := same_new (u := .lst []) nD
    obtain ⟨dx0, ws0, kv0, hb0, hg0, _, hs0, _⟩ := id hB
    have ng : D ≠ gl := fun z => by
      rw [z, hg0] at nD
      cases nD
    have ns : D ≠ sd := fun z => by
      rw [z, hs0] at nD
      cases nD
    have nb : b ≠ D := fun z => by
      rw [← z, hb0] at nD
      cases nD
    refine lc_zipB (K := K) (xs := xs.map V.int) (ys := ys.map V.int) (by rw [List.length_map, List.length_map, le])
      (fun i H' => ∃ (g' : Gts) (told : List Int), But2 gl sd H H' ∧ Firm H H' ∧ BAt K B H' b gl sd n g' ∧ Wd.Step n gs g' (3 * i) ∧ H' D = some (.lst (told.map V.int)) ∧ told.length = i ∧
        WIn n g' told ∧ ∀ bs, Env n bs → wv g' bs told = if lv gs bs c = 1 then wv gs bs (xs.take i) else wv gs bs (ys.take i))
      ⟨gs, [], fun _ _ e _ _ => sl _ _ e, Firm.of sl, We.BAt.same hB sl, Wd.Step.refl hok, upd_same, rfl, (fun _ h => by cases h), fun bs hb => by
        rw [List.take_zero, List.take_zero, ite_self]⟩ ?_ ?_ ?_
    · rintro i H2 ⟨g', told, k2, f2, _⟩
      exact ⟨w1 _ k2 f2, w2 _ k2 f2⟩
    · rintro i y1 y2 qa H2 hx hy ⟨g', told, k2, f2, B2, st2, hd2, tl2, wi2, v2⟩ nq
      obtain ⟨x, rfl, hx2⟩ := int_get hx
      obtain ⟨y, rfl, hy2⟩ := int_get hy
      have ix1 := ix x (List.mem_of_getElem? hx2)
      have iy1 := iy y (List.mem_of_getElem? hy2)
      have i20 : i < xs.length := (List.getElem?_eq_some_iff.mp hx2).1
      have st2l := st2.len
      have sq := same_new (u := .tup [.int x, .int y]) nq
      have ix2 := inx ix1 st2.ext
      have iy2 := inx iy1 st2.ext
      have ic2 := inx ic st2.ext
      obtain ⟨s3, i3, v3⟩ := choice_st st2.ok ic2 ix2 iy2
      refine ⟨qa, _, rfl, SqT.of upd_same, rfl, _, _, rfl, _, _, rfl, rfl, rfl, yes_of ?_⟩
      refine ⟨_, rfl, _, rfl, _, rfl, _, rfl, b, gl, sd, n, c, x, y, g', rfl, We.BAt.same B2 sq, by omega, by omega, ic.1, ix1.1, iy1.1, fun H3 k3 f3 B3 => ?_⟩
      have hd3 := k3 _ _ (sq _ _ hd2) ng ns
      have fu : Firm H3 (upd H3 D (.lst (told.map V.int ++ [V.int (choiceM n g' c x y).2]))) := Firm.upd hd3 rfl
      refine ⟨_, hd3, ?_, _, told ++ [(choiceM n g' c x y).2], fun o u e n1 n2 => ?_, (f2.trans ((Firm.of sq).trans f3)).trans fu, BAt.keep B3 fu (fun o e => ?_) (fun o e => ?_) (fun o e => ?_), (st2.trans s3).le (by omega), by rw [upd_same, List.map_append]; rfl, by rw [List.length_append, tl2]; rfl, win_app (wi2.ext s3.ext) (win_one i3), fun bs hb => ?_⟩
      · rw [List.length_map, tl2]
        exact Nat.lt_of_lt_of_le (by omega : i < 20) (by decide)
      · rw [upd_ne (ne_of_none e nD)]
        exact k3 _ _ (sq _ _ (k2 _ _ e n1 n2)) n1 n2
      · rw [upd_ne nb]
        exact e
      · rw [upd_ne (Ne.symm ng)]
        exact e
      · rw [upd_ne (Ne.symm ns)]
        exact e
      · rw [wv_snoc, wv_ext wi2 s3.ext hb, tl2, v2 bs hb, v3 bs hb, lv_ext ic st2.ext hb, lv_ext ix1 st2.ext hb, lv_ext iy1 st2.ext hb]
        rw [take_more hx2, take_more hy2, wv_snoc, wv_snoc, List.length_take, List.length_take, Nat.min_eq_left (Nat.le_of_lt i20), Nat.min_eq_left (by omega)]
        by_cases hc : lv gs bs c = 1
        · rw [if_pos hc, if_pos hc, if_pos hc]
        · rw [if_neg hc, if_neg hc, if_neg hc]
    · rintro H2 ⟨g', told, k2, f2, B2, st2, hd2, tl2, wi2, v2⟩
      rw [List.length_map] at st2 tl2 v2
      refine ⟨D, _, rfl, .inl ⟨SqL.of hd2, fun t nt => ?_⟩⟩
      have sn := same_new (u := .tup (told.map V.int)) nt
      refine q _ t g' told (fun _ _ e n1 n2 => sn _ _ (k2 _ _ e n1 n2)) (f2.trans (Firm.of sn)) (We.BAt.same B2 sn) st2 tl2 wi2 (fun bs hb => ?_) upd_same
      rw [v2 bs hb, List.take_length, List.take_of_length_le (Nat.le_of_eq le.symm)]
end
end Wg
namespace Wh
open PySem PySem.Spec PyProof.Rows L2 Pen Dat Ki Fi Gr No Lf Cn Bd Be Bm Bw Bx Wd Zp We Wf Wg
def tri (w : Nat) : Nat → Nat
  | 0 => 0
  | k + 1 => tri w k + 10 * (w - k)
def spProd (K : PySem.W.Frag) (B : Addr) : Sp := fun vs H Q _ => ∃ (b gl sd one other : Addr) (n : Nat) (xs ys : List Int) (gs : Gts), vs = [.ref b, .ref one, .ref other] ∧ BAt K B H b gl sd n gs ∧ Gok n gs ∧ gs.length ≤ 400 ∧
  SqT K H one (xs.map V.int) ∧ SqT K H other (ys.map V.int) ∧ xs.length = ys.length ∧ xs.length ≤ 10 ∧ WIn n gs xs ∧ WIn n gs ys ∧
  ∀ (H' : Hp) (t : Addr) (g' : Gts) (told : List Int), But2 gl sd H H' → Firm H H' → BAt K B H' b gl sd n g' → Wd.Step n gs g' (tri xs.length xs.length) → told.length = xs.length → WIn n g' told →
    (∀ bs, Env n bs → ∃ k : Int, wv g' bs told + 2 ^ xs.length * k = wv gs bs xs * wv gs bs ys) → H' t = some (.tup (told.map V.int)) → Q (.ref t) H'
theorem prod_math {lo hi hi' q y X1 R cy m p xs yk : Int} (h1 : lo + m * hi + (m * p) * q = xs * yk) (h2 : hi' + p * cy = hi + y * X1 + 0) (h3 : xs = X1 + p * R) : lo + m * hi' + (m * p) * (q + y * R + cy) = xs * (yk + m * y) := by
  have e : hi' = hi + y * X1 - p * cy := by omega
  rw [Int.mul_add xs, ← h1, e, h3]
  simp only [Int.mul_add, Int.add_mul, Int.mul_sub, Int.sub_mul, Int.mul_assoc, Int.mul_comm, Int.mul_left_comm]
  omega
theorem tri_le {w : Nat} (hw : w ≤ 10) : ∀ k, k ≤ w → tri w k ≤ 100 * k
  | 0, _ => Nat.zero_le _
  | k + 1, h => by
    have t := tri_le hw k (by omega)
    unfold tri
    omega
theorem tri_550 : ∀ w, w ≤ 10 → tri w w ≤ 550 := by decide
theorem wv_zero {gs : Gts} {bs : List Int} : ∀ {w : List Int}, (∀ a ∈ w, a = 0) → wv gs bs w = 0
  | [], _ => rfl
  | a :: w, h => by
    rw [wv_cons, wv_zero (w := w) fun z hz => h z (List.mem_cons_of_mem _ hz), h a List.mem_cons_self, lv_0]
    rfl
theorem cut_from {K : PySem.W.Frag} {H : Hp} {q0 : Addr} {xs : List V} {m : Nat} {R : VK} (hq : SqT K H q0 xs) (hn : m ≤ xs.length) (k : ∀ t H', Same H H' → SqT K H' t (xs.drop m) → R (.ref t) H') :
    L2.rSlA K (.ref q0) (some (m : Int)) none H R := by
  have ix : HT.sIx xs.length 0 (some (m : Int)) = m := by
    show (if ((m : Int)) < 0 then ((m : Int) + (xs.length : Int)).toNat else min (m : Int).toNat xs.length) = _
    rw [if_neg (by omega)]
    omega
  refine ⟨q0, _, rfl, hq, fun hw => ?_, fun _ p np => ?_⟩
  · have e := hw.1
    rw [ix] at e
    refine k q0 H (fun _ _ e => e) ?_
    rw [e, List.drop_zero]
    exact hq
  · refine k p _ (same_new np) (SqT.of ?_)
    rw [upd_same]
    unfold cutV
    rw [ix, HT.sIx_none]
    rw [List.take_of_length_le (by rw [List.length_drop]; exact Nat.le_refl _)]
section
variable {P : Program} {w : World} {K : PySem.W.Frag} {mg : Str → Option Value} {base : Heap} {f C B fA fG : Addr} {fd dA : FuncData}
abbrev nProd : List Str := ["builder", "one", "other", "width", "told", "k", "bit", "literal", "part"]
theorem scProd : FnScope nProd ["builder", "one", "other"] (defScope sProduct) := ⟨rfl, rfl, rfl, by decide +kernel, rfl, by decide +kernel, by decide +kernel⟩
theorem ok_prod (F : FnP K "product" sProduct f fd) (T : Te K mg C B fA fG) (GA : FnOk P w K mg base CX0 1 fA dA ["self", "one", "other"] (spAnd K B)) (bA : Binds K dA ["self", "one", "other"] [])
    {fS fN : Addr} {dS dN : FuncData}
    (GS : FnOk P w K mg base CX0 4 fS dS ["builder", "one", "other", "carry"] (spSum K B)) (gS : mg "summed" = some (.ref fS)) (kS : PySem.W.keepIn K (.ref fS) = true) (bS : Binds K dS ["builder", "one", "other", "carry"] [])
    (GN : FnOk P w K mg base CX0 2 fN dN ["width", "number"] (spNumB)) (gN : mg "number_word" = some (.ref fN)) (kN : PySem.W.keepIn K (.ref fN) = true) (bN : Binds K dN ["width", "number"] [])
    : FnOk P w K mg base CX0 5 f fd ["builder", "one", "other"] (spProd K B) := by
  refine F.ok scProd (fun vs H Q E h => ?_) (fun cdv A outer s H vs Q E hr h => ?_)
  · obtain ⟨b, gl, sd, one, other, n, xs, ys, gs, rfl, _⟩ := h
    rfl
  · obtain ⟨b, gl, sd, one, other, n, xs, ys, gs, rfl, hB, hok, hz, h1, h2, le, l10, ix, iy, q⟩ := h
    refine ⟨_, PSs.nox (pss_cons (ps_set (i := 3) scProd.nd rfl (Or.inl rfl) (pe_callB call_len_seq (by rfl) T.gr.ki.len PySem.boot_len (pa_cons (pv 1) pa_nil)))
      (pss_cons (ps_set (i := 4) scProd.nd rfl (Or.inl rfl) (pe_call GN (hr.mono (by decide)) (by rfl) gN kN bN .nil pass0 (pa_cons (pv 3) (pa_cons pe_int pa_nil))))
      (pss_cons (ps_for PassesOwn.never rfl (En.pi_enT (by rfl) T.enum (pa_cons (pv 2) pa_nil)) (pg_tup rfl (pgs_cons (pg_name (i := 5) scProd.nd rfl (Or.inl rfl)) (pgs_cons (pg_name (i := 6) scProd.nd rfl (Or.inr rfl)) pgs_nil)))
        (pss_cons (ps_setLc (i := 8) (own := [("literal", 7)]) (g := gName 7) (tt := tYes) (by rfl) scProd.nd rfl rfl (sw_true rfl rfl rfl (by decide +kernel)) (pi_tup (pe_slice sl_tupA (pv 1) po_none (po_some (pe_op op_sub (pv 3) (pv 5))))) (blkOk_by (N := nProd) (sc := defScope sProduct) (by decide +kernel)) (fun _ _ _ _ _ => pg_name (i := 7) scProd.nd rfl (Or.inl rfl)) (fun _ _ _ _ _ => pts_nil) (fun _ _ _ _ _ => (pe_meth (pv 0) T.ty.t.cl T.ty.me GA (hr.mono (by decide)) bA .nil pass0 (pa_cons (pv 6) (pa_cons (pv 7) pa_nil)))))
        (pss_one (ps_set (i := 4) scProd.nd rfl (Or.inl rfl) (pe_tup (StX.pa_star (pe_slice sl_tupA (pv 4) po_none (po_some (pv 5))) (StX.pa_star (pe_ix (r := L2.rIxT K) (by exact ix_tup) (pe_call GS (hr.mono (by decide)) (by rfl) gS kS bS .nil pass0 (pa_cons (pv 0) (pa_cons (pe_slice sl_tupA (pv 4) (po_some (pv 5)) po_none) (pa_cons (pv 8) (pa_cons pe_int pa_nil))))) pe_int (fun _ _ => rfl)) pa_nil)))))))
      (pss_one (ps_ret (pv 4)))))), ?_⟩
    refine ⟨_, rfl, one, _, rfl, .inr h1, ?_⟩
    rw [List.length_map]
    refine ⟨_, rfl, xs.length, 0, rfl, by omega, fun H1 t0 s1 ht0 => ?_⟩
    obtain ⟨dx0, ws0, kv0, hb0, hg0, _, hs0, _⟩ := id hB
    refine ⟨_, rfl, other, _, rfl, seqT_same s1 h2, ?_⟩
    refine En.for_enT (K := K) (a := other) (xs := ys.map V.int)
      (fun i σ H' => ∃ (t : Addr) (x5 x6 x7 x8 : Option V) (g' : Gts) (told : List Int), σ = [some (.ref b), some (.ref one), some (.ref other), some (.int (xs.length : Nat)), some (.ref t), x5, x6, x7, x8] ∧ But2 gl sd H H' ∧ Firm H H' ∧ BAt K B H' b gl sd n g' ∧ Wd.Step n gs g' (tri xs.length i) ∧
        H' t = some (.tup (told.map V.int)) ∧ told.length = xs.length ∧ WIn n g' told ∧ ∀ bs, Env n bs → ∃ k : Int, wv g' bs told + 2 ^ xs.length * k = wv gs bs xs * wv gs bs (ys.take i))
      ⟨t0, none, none, none, none, gs, bitsN xs.length 0, rfl, fun _ _ e _ _ => s1 _ _ e, Firm.of s1, We.BAt.same hB s1, Wd.Step.refl hok, ht0, ?_, ?_, ?_⟩ ?_ ?_ ?_
    · unfold bitsN
      rw [List.length_map, List.length_range]
    · intro a ha
      obtain ⟨k, _, rfl⟩ := List.mem_map.mp ha
      rw [Int.zero_ediv]
      exact in_0
    · intro bs hb
      refine ⟨0, ?_⟩
      rw [Int.mul_zero, Int.add_zero, List.take_zero, wv_zero fun a ha => ?_]
      · exact (Int.mul_zero _).symm
      · obtain ⟨k, _, rfl⟩ := List.mem_map.mp ha
        rw [Int.zero_ediv]
        rfl
    · rintro i σ H2 _ ⟨t, x5, x6, x7, x8, g', told, rfl, k2, f2, _⟩
      exact firm_seq f2 h2
    · rintro i y1 σ H2 qa hy ⟨t, x5, x6, x7, x8, g', told, rfl, k2, f2, B2, st2, ht2, tl2, wi2, v2⟩ nq
      obtain ⟨y, rfl, hy2⟩ := int_get hy
      have iy1 := iy y (List.mem_of_getElem? hy2)
      have i10 : i < ys.length := (List.getElem?_eq_some_iff.mp hy2).1
      have st2l := st2.len
      have tl := tri_le l10 i (by omega)
      refine ⟨qa, _, rfl, SqT.of upd_same, rfl, _, _, rfl, _, _, rfl, rfl, ?_⟩
      have sq := same_new (u := .tup [.int (i : Nat), .int y]) nq
      have iy2 := inx iy1 st2.ext
      have h1q := seqT_same sq (firm_seq f2 h1)
      refine ⟨_, rfl, _, rfl, _, rfl, _, _, rfl, rfl, _, rfl, cut_any (m := xs.length - i) (by omega) h1q (by rw [List.length_map]; omega) fun tc Hc sc htc => ⟨tc, rfl, ⟨_, htc⟩, fun D nD => ?_⟩⟩
      rw [← List.map_take] at htc
      have sqc := sq.trans sc
      have Bc := We.BAt.same B2 sqc
      obtain ⟨dxc, wsc, kvc, hbc, hgc, _, hsc, _⟩ := id Bc
      have sl := same_new (u := .lst []) nD
      have ng : D ≠ gl := fun z => by
        rw [z, hgc] at nD
        cases nD
      have ns : D ≠ sd := fun z => by
        rw [z, hsc] at nD
        cases nD
      have nb : b ≠ D := fun z => by
        rw [← z, hbc] at nD
        cases nD
      refine lc_tup (K := K) (a := tc) (xs := (xs.take (xs.length - i)).map V.int)
        (fun j H' => ∃ (g1 : Gts) (part : List Int), But2 gl sd Hc H' ∧ Firm Hc H' ∧ BAt K B H' b gl sd n g1 ∧ Wd.Step n g' g1 j ∧ H' D = some (.lst (part.map V.int)) ∧ part.length = j ∧ WIn n g1 part ∧
          ∀ bs, Env n bs → wv g1 bs part = lv gs bs y * wv gs bs ((xs.take (xs.length - i)).take j))
        ⟨g', [], fun _ _ e _ _ => sl _ _ e, Firm.of sl, We.BAt.same Bc sl, Wd.Step.refl st2.ok, upd_same, rfl, (fun _ h => by cases h), fun bs hb => by
          rw [List.take_zero]
          exact (Int.mul_zero _).symm⟩ ?_ ?_ ?_
      · rintro j H' _ ⟨g1, part, k3, f3, _⟩
        exact firm_seq f3 htc
      · rintro j z H3 hj ⟨g1, part, k3, f3, B3, st3, hd3, pl3, wi3, v3⟩
        obtain ⟨a, rfl, ha⟩ := int_get hj
        have ha1 : a ∈ xs := List.mem_of_mem_take (List.mem_of_getElem? ha)
        have hjl : j < xs.length - i := by
          have := (List.getElem?_eq_some_iff.mp ha).1
          rw [List.length_take] at this
          omega
        have ia1 := ix a ha1
        have ia3 := inx ia1 (st2.ext.trans st3.ext)
        have iy3 := inx iy2 st3.ext
        have st3l := st3.len
        obtain ⟨s4, i4, v4⟩ := and_st st3.ok iy3 ia3
        obtain ⟨dx3, _, _, hb3, _⟩ := id B3
        refine ⟨rfl, yes_of ?_⟩
        refine ⟨_, rfl, b, dx3, _, rfl, hb3, lk _ _ _, _, rfl, _, rfl, b, gl, sd, n, y, a, g1, rfl, B3, by omega, iy1.1, ia1.1, fun H4 k4 f4 B4 => ?_⟩
        have hd4 := k4 _ _ hd3 ng ns
        have fu : Firm H4 (upd H4 D (.lst (part.map V.int ++ [V.int (Bd.andM n g1 y a).2]))) := Firm.upd hd4 rfl
        refine ⟨_, hd4, ?_, _, part ++ [(Bd.andM n g1 y a).2], fun o u e n1 n2 => ?_, (f3.trans f4).trans fu, BAt.keep B4 fu (fun o e => ?_) (fun o e => ?_) (fun o e => ?_), st3.trans s4, by rw [upd_same, List.map_append]; rfl, by rw [List.length_append, pl3]; rfl, win_app (wi3.ext s4.ext) (win_one i4), fun bs hb => ?_⟩
        · rw [List.length_map, pl3]
          exact Nat.lt_of_lt_of_le (by omega : j < 20) (by decide)
        · rw [upd_ne (ne_of_none e nD)]
          exact k4 _ _ (k3 _ _ e n1 n2) n1 n2
        · rw [upd_ne nb]
          exact e
        · rw [upd_ne (Ne.symm ng)]
          exact e
        · rw [upd_ne (Ne.symm ns)]
          exact e
        · rw [wv_snoc, wv_ext wi3 s4.ext hb, pl3, v3 bs hb, v4 bs hb, lv_ext iy2 st3.ext hb, lv_ext iy1 st2.ext hb, lv_ext ia1 (st2.ext.trans st3.ext) hb]
          rw [take_more ha, wv_snoc, List.length_take, List.length_take, Nat.min_eq_left (by omega), Int.mul_add, Int.mul_left_comm]
      rintro H3 ⟨g1, part, k3, f3, B3, st3, hd3, pl3, wi3, v3⟩
      rw [List.length_map, List.length_take, Nat.min_eq_left (by omega)] at st3 pl3 v3
      have st3l := st3.len
      have ht3 : SqT K H3 t (told.map V.int) := firm_seq f3 (seqT_same sqc (SqT.of ht2))
      refine ⟨_, rfl, _, rfl, _, rfl, cut_any (m := i) rfl ht3 (by rw [List.length_map, tl2]; omega) fun t4 H4 s4 ht4 => ⟨t4, _, rfl, .inl ht4, ?_⟩⟩
      have ht34 := seqT_same s4 ht3
      refine ⟨_, rfl, _, rfl, _, rfl, _, rfl, ?_⟩
      delta tNoPart
      refine cut_from (m := i) ht34 (by rw [List.length_map, tl2]; omega) fun t5 H5 s5 ht5 => ?_
      rw [← List.map_drop] at ht5
      have s45 := s4.trans s5
      have B5 := We.BAt.same B3 s45
      have lh : (told.drop i).length = xs.length - i := by rw [List.length_drop, tl2]
      have wlo : WIn n g' (told.take i) := fun a ha => wi2 a (List.mem_of_mem_take ha)
      have whi : WIn n g' (told.drop i) := fun a ha => wi2 a (List.mem_of_mem_drop ha)
      have wpart : Wst K gl sd true H5 D part := fun H' k _ => SqL.of (k _ _ (s45 _ _ hd3) ng ns)
      refine ⟨_, rfl, b, gl, sd, t5, D, n, false, true, 0, told.drop i, part, g1, rfl, B5, st3.ok, by omega, wst_tup ht5, wpart, by rw [lh, pl3], by omega, whi.ext st3.ext, wi3, in_0, fun H6 t6 td g6 hi cy k6 f6 B6 st6 hl6 wi6 icy v6 ht6 htd6 => ?_⟩
      rw [lh] at st6 hl6 v6
      refine ⟨t6, _, _, _, rfl, rfl, SqT.of ht6, at_of (j := 0) rfl rfl, td, _, rfl, .inl (SqT.of htd6), ?_⟩
      have tlo : (told.take i).length = i := by rw [List.length_take, tl2, Nat.min_eq_left (by omega)]
      refine ⟨?_, fun tn ntn => ?_⟩
      · rw [List.append_nil, List.length_append, List.length_take, List.length_map, List.length_map, hl6, tl2]
        exact Nat.le_trans (by omega : min i xs.length + (xs.length - i) ≤ 20) (by decide)
      have sn := same_new (u := .tup ((told.map V.int).take i ++ (hi.map V.int ++ []))) ntn
      have st36 := (st2.trans st3).trans st6
      refine ⟨tn, _, _, _, _, g6, told.take i ++ hi, rfl, fun o u e n1 n2 => sn _ _ (k6 _ _ (s45 _ _ (k3 _ _ (sqc _ _ (k2 _ _ e n1 n2)) n1 n2)) n1 n2), ((f2.trans (Firm.of sqc)).trans (f3.trans ((Firm.of s45).trans f6))).trans (Firm.of sn), We.BAt.same B6 sn, st36.le ?_, ?_, ?_, win_app (wlo.ext (st3.ext.trans st6.ext)) wi6, fun bs hb => ?_⟩
      · show tri xs.length i + (xs.length - i) + 9 * (xs.length - i) ≤ tri xs.length i + 10 * (xs.length - i)
        omega
      · rw [upd_same, List.map_append, List.map_take, List.append_nil]
      · rw [List.length_append, tlo, hl6]
        omega
      · obtain ⟨k, hk⟩ := v2 bs hb
        have a6 := v6 bs hb
        rw [wv_ext whi st3.ext hb, v3 bs hb, lv_0, List.take_of_length_le (by rw [List.length_take]; omega)] at a6
        have e1 : wv g' bs told = wv g' bs (told.take i) + 2 ^ i * wv g' bs (told.drop i) := by
          have := wv_app (gs := g') (bs := bs) (v := told.take i) (w := told.drop i)
          rwa [List.take_append_drop, tlo] at this
        have e2 : wv gs bs xs = wv gs bs (xs.take (xs.length - i)) + 2 ^ (xs.length - i) * wv gs bs (xs.drop (xs.length - i)) := by
          have := wv_app (gs := gs) (bs := bs) (v := xs.take (xs.length - i)) (w := xs.drop (xs.length - i))
          rwa [List.take_append_drop, List.length_take, Nat.min_eq_left (by omega)] at this
        have e3 : (2 : Int) ^ xs.length = 2 ^ i * 2 ^ (xs.length - i) := by
          rw [← Int.pow_add, show i + (xs.length - i) = xs.length by omega]
        rw [e1, e3] at hk
        rw [wv_app, tlo, wv_ext wlo (st3.ext.trans st6.ext) hb, e3, take_more hy2, wv_snoc, List.length_take, Nat.min_eq_left (Nat.le_of_lt i10)]
        exact ⟨_, prod_math hk a6 e2⟩
    · rintro σ H2 ⟨t, x5, x6, x7, x8, g', told, rfl, k2, f2, B2, st2, ht2, tl2, wi2, v2⟩
      rw [List.length_map, ← le] at st2 
      refine ⟨_, rfl, q H2 t g' told k2 f2 B2 st2 tl2 wi2 (fun bs hb => ?_) ht2⟩
      obtain ⟨k, hk⟩ := v2 bs hb
      rw [List.length_map, List.take_length] at hk
      exact ⟨k, hk⟩
end
end Wh
namespace Wi
open PySem PySem.Spec PyProof.Rows L2 Pen Dat Ki Fi Gr No Lf Cn Bd Be Bm Bw Bx Wd Zp We Wf Wg Wh
def spDrawnBits : Sp := fun vs H Q _ => ∃ (p c : Addr) (k m : Nat), vs = [.ref p, .int m] ∧ PenC H p c k ∧ k ≤ 100000000 ∧ m ≤ 60 ∧ ∀ (H' : Hp) (t : Addr) (bs : List Int), PenC H' p c (k + 1 + m) → But p H H' → H' t = some (.tup (bs.map V.int)) → bs.length = m → B01 bs → Q (.ref t) H'
def spSomeRows (K : PySem.W.Frag) : Sp := fun vs H Q _ => ∃ (p c : Addr) (k m : Nat), vs = [.ref p, .int m, .int 64] ∧ PenC H p c k ∧ k ≤ 10000000 ∧ m ≤ 60 ∧
  ∀ (H' : Hp) (l : Addr) (ws : List V) (rs : List (List Int)), PenC H' p c (k + 64 * 61) → But p H H' → H' l = some (.lst ws) → All2 (Tu K H') ws rs → (∀ r ∈ rs, r.length = m ∧ B01 r) → rs.length ≤ 64 → Q (.ref l) H'
def spLNum (K : PySem.W.Frag) : Sp := fun vs H Q _ => ∃ (l t : Addr) (xs ws : List Int), vs = [.ref l, .ref t] ∧ SqL K H l (xs.map V.int) ∧ SqT K H t (ws.map V.int) ∧ (∀ a ∈ ws, 0 ≤ a ∧ (a / 2).toNat < xs.length) ∧ B01 xs ∧ ws.length ≤ 100 ∧ ∀ H', Same H H' → Q (.int (num (ws.map (lit xs)))) H'
def spWordOf : Sp := fun vs H Q _ => ∃ (p c : Addr) (k n m : Nat), vs = [.ref p, .int n, .int m] ∧ PenC H p c k ∧ k ≤ 100000000 ∧ n ≤ 100 ∧ m ≤ 60 ∧
  ∀ (H' : Hp) (t : Addr) (ls : List Int), PenC H' p c (k + 2 * m) → But p H H' → ls.length = m → (∀ a ∈ ls, 0 ≤ a ∧ a < 2 + 2 * (n : Int)) → H' t = some (.tup (ls.map V.int)) → Q (.ref t) H'
def spWordN (K : PySem.W.Frag) : Sp := fun vs H Q _ => ∃ (l : Addr) (xs : List Int), vs = [.ref l] ∧ SqL K H l (xs.map V.int) ∧ xs.length ≤ 100 ∧ B01 xs ∧ ∀ H', Same H H' → Q (.int (num xs)) H'
section
variable {P : Program} {w : World} {K : PySem.W.Frag} {mg : Str → Option Value} {base : Heap} {f C B fA fG : Addr} {fd dA : FuncData}
abbrev nLDrawnBits : List Str := ["_law_pen_here", "_law_many", "_law_way", "_law_k"]
theorem scLDrawnBits : FnScope nLDrawnBits ["_law_pen_here", "_law_many"] (defScope sLDrawnBits) := ⟨rfl, rfl, rfl, by decide +kernel, rfl, by decide +kernel, by decide +kernel⟩
abbrev nLSomeRows : List Str := ["_law_pen_here", "_law_many", "_law_most", "_law_k"]
theorem scLSomeRows : FnScope nLSomeRows ["_law_pen_here", "_law_many", "_law_most"] (defScope sLSomeRows) := ⟨rfl, rfl, rfl, by decide +kernel, rfl, by decide +kernel, by decide +kernel⟩
abbrev nLNum : List Str := ["_law_found", "_law_word", "_law_total", "_law_k", "_law_literal"]
theorem scLNum : FnScope nLNum ["_law_found", "_law_word"] (defScope sLNumber) := ⟨rfl, rfl, rfl, by decide +kernel, rfl, by decide +kernel, by decide +kernel⟩
abbrev nWordOf : List Str := ["_law_pen_here", "_law_leaves", "_law_width", "_law_span", "_law_k"]
theorem scWordOf : FnScope nWordOf ["_law_pen_here", "_law_leaves", "_law_width"] (defScope sLWordOf) := ⟨rfl, rfl, rfl, by decide +kernel, rfl, by decide +kernel, by decide +kernel⟩
abbrev nWordN : List Str := ["bits", "k", "bit"]
theorem scWordN : FnScope nWordN ["bits"] (defScope sWordNumber) := ⟨rfl, rfl, rfl, by decide +kernel, rfl, by decide +kernel, by decide +kernel⟩
theorem ok_drawnbits (F : FnP K "_law_drawn_bits" sLDrawnBits f fd) (T : Te K mg C B fA fG)
    {fD : Addr} {dD : FuncData}
    (GD : FnOk P w K mg base CX0 1 fD dD ["_law_pen_here", "_law_many"] (spDraw)) (gD : mg "_law_draw" = some (.ref fD)) (kD : PySem.W.keepIn K (.ref fD) = true) (bD : Binds K dD ["_law_pen_here", "_law_many"] [])
    : FnOk P w K mg base CX0 2 f fd ["_law_pen_here", "_law_many"] spDrawnBits := by
  refine F.ok scLDrawnBits (fun vs H Q E h => ?_) (fun cdv A outer s H vs Q E hr h => ?_)
  · obtain ⟨p, c, k, m, rfl, _⟩ := h
    rfl
  · obtain ⟨p, c, k, m, rfl, hP, hk, hm, q⟩ := h
    refine ⟨_, PSs.nox (pss_cons (ps_set (i := 2) scLDrawnBits.nd rfl (Or.inr rfl) (pe_call GD (hr.mono (by decide)) (by rfl) gD kD bD .nil pass0 (pa_cons (pv 0) (pa_cons pe_int pa_nil))))
      (pss_one (ps_ret (pe_callTy (T := "tuple") (r := rTupOf K) (by exact call_tuple_of) (by rfl) T.lf.tuple (by decide +kernel) (pa_cons (pe_lc (own := [("_law_k", 3)]) (g := gName 3) (tt := tYes) rfl scLDrawnBits.nd (pi_range1 (by rfl) T.lf.range (pa_cons (pv 1) pa_nil)) (blkOk_by (N := nLDrawnBits) (sc := defScope sLDrawnBits) (by decide +kernel)) (fun _ _ _ _ _ => pg_name (i := 3) scLDrawnBits.nd rfl (Or.inl rfl)) (fun _ _ _ _ _ => pts_nil) (fun _ _ _ _ _ => (pe_ifExp (pt_cmpR op_lt (pv 2) pe_int (nomark _)) (pv 2) (pe_call GD (hr.mono (by decide)) (by rfl) gD kD bD .nil pass0 (pa_cons (pv 0) (pa_cons pe_int pa_nil)))))) pa_nil))))), ?_⟩
    refine ⟨_, rfl, p, c, k, 6, rfl, hP, by omega, by decide, by decide, fun wy H1 w0 w6 P1 B1 => ?_⟩
    refine ⟨_, rfl, m, rfl, by omega, by omega, fun D nD => ?_⟩
    obtain ⟨Dp1, Dc1⟩ := P1.free nD
    refine lc_range (lo := 0) (n := m) (fun j H2 => PenC H2 p c (k + 1 + j) ∧ But p H H2 ∧ ∃ bs : List Int, H2 D = some (.lst (bs.map V.int)) ∧ bs.length = j ∧ B01 bs)
      ⟨P1.same (same_new nD), B1.trans (But.of_same (same_new nD)), [], upd_same, rfl, (fun z h => by cases h)⟩ ?_ ?_
    · rintro j H2 hj ⟨P2, B2, bs, h2, l2, b2⟩
      refine ⟨rfl, yes_of ?_⟩
      have fin : ∀ (H3 : Hp) (r : Int) (j' : Nat), (r = 0 ∨ r = 1) → PenC H3 p c (k + 1 + j') → j' ≤ j + 1 → But p H2 H3 → ∃ acc, H3 D = some (.lst acc) ∧ acc.length < sizeLine ∧ PenC (upd H3 D (.lst (acc ++ [.int r]))) p c (k + 1 + (j + 1)) ∧ But p H (upd H3 D (.lst (acc ++ [.int r]))) ∧
          ∃ bs : List Int, upd H3 D (.lst (acc ++ [.int r])) D = some (.lst (bs.map V.int)) ∧ bs.length = j + 1 ∧ B01 bs := fun H3 r j' hr P3 hj' B3 => by
        refine ⟨_, B3 _ _ h2 Dp1, ?_, (P3.upd Dp1 Dc1).more (by omega), fun b o e ne => ?_, bs ++ [r], ?_, by rw [List.length_append, l2]; rfl, fun z hz => ?_⟩
        · rw [List.length_map, l2]
          exact Nat.lt_of_lt_of_le (by omega : j < 100) (by decide)
        · by_cases hb : b = D
          · have := B2 b o e ne
            rw [hb] at this
            exact absurd (ne_of_none (B1 _ _ e ne) nD) (fun z => z hb)
          · rw [upd_ne hb]
            exact B3 _ _ (B2 _ _ e ne) ne
        · rw [upd_same, List.map_append]
          rfl
        · rcases List.mem_append.mp hz with h | h
          · exact b2 z h
          · rw [List.mem_singleton.mp h]
            exact hr
      refine ⟨_, rfl, _, _, rfl, rfl, _, rfl, ite2 (fun hw => ?_) (fun _ => ?_)⟩
      · have hw := of_decide_eq_true hw
        exact ⟨_, rfl, fin H2 wy j (by omega) P2 (by omega) But.refl⟩
      · exact ⟨_, rfl, p, c, k + 1 + j, 2, rfl, P2, by omega, by decide, by decide, fun r H3 r0 r2 P3 B3 => fin H3 r (j + 1) (by omega) P3 (Nat.le_refl _) B3⟩
    · rintro H2 ⟨P2, B2, bs, h2, l2, b2⟩
      refine ⟨D, _, rfl, .inl ⟨SqL.of h2, fun t nt => ?_⟩⟩
      have st := same_new (u := .tup (bs.map V.int)) nt
      exact q _ t bs (P2.same st) (B2.trans (But.of_same st)) upd_same l2 b2
theorem ok_somerows (F : FnP K "_law_some_rows" sLSomeRows f fd) (T : Te K mg C B fA fG)
    {fR fB : Addr} {dR dB : FuncData}
    (GR : FnOk P w K mg base CX0 2 fR dR ["_law_many"] (spRows K)) (gR : mg "_law_rows" = some (.ref fR)) (kR : PySem.W.keepIn K (.ref fR) = true) (bR : Binds K dR ["_law_many"] [])
    (GB : FnOk P w K mg base CX0 2 fB dB ["_law_pen_here", "_law_many"] (spDrawnBits)) (gB : mg "_law_drawn_bits" = some (.ref fB)) (kB : PySem.W.keepIn K (.ref fB) = true) (bB : Binds K dB ["_law_pen_here", "_law_many"] [])
    : FnOk P w K mg base CX0 3 f fd ["_law_pen_here", "_law_many", "_law_most"] (spSomeRows K) := by
  refine F.ok scLSomeRows (fun vs H Q E h => ?_) (fun cdv A outer s H vs Q E hr h => ?_)
  · obtain ⟨p, c, k, m, rfl, _⟩ := h
    rfl
  · obtain ⟨p, c, k, m, rfl, hP, hk, hm, q⟩ := h
    refine ⟨_, PSs.nox (pss_cons (ps_if (pt_cmpR op_le (pe_op op_shl pe_int (pv 1)) (pv 2) (nomark _))
        (pss_one (ps_ret (pe_call GR (hr.mono (by decide)) (by rfl) gR kR bR .nil pass0 (pa_cons (pv 1) pa_nil))))
        pss_nil)
      (pss_one (ps_ret (pe_lc (own := [("_law_k", 3)]) (g := gName 3) (tt := tYes) rfl scLSomeRows.nd (pi_range1 (by rfl) T.lf.range (pa_cons (pv 2) pa_nil)) (blkOk_by (N := nLSomeRows) (sc := defScope sLSomeRows) (by decide +kernel)) (fun _ _ _ _ _ => pg_name (i := 3) scLSomeRows.nd rfl (Or.inl rfl)) (fun _ _ _ _ _ => pts_nil) (fun _ _ _ _ _ => (pe_call GB (hr.mono (by decide)) (by rfl) gB kB bB .nil pass0 (pa_cons (pv 0) (pa_cons (pv 1) pa_nil)))))))), ?_⟩
    refine ⟨_, rfl, _, _, rfl, rfl, ⟨by omega, by omega, by decide⟩, _, rfl, _, _, rfl, rfl, _, rfl, ite2 (fun h => ?_) (fun _ => ?_)⟩
    · have h : (1 : Int) * 2 ^ ((m : Int)).toNat ≤ 64 := of_decide_eq_true h
      rw [Int.toNat_natCast, Int.one_mul] at h
      have m4 : m ≤ 6 := by
        rcases Nat.lt_or_ge 6 m with z | z
        · have h2 : (2 : Nat) ^ 7 ≤ 2 ^ m := Nat.pow_le_pow_right (by decide) z
          have h3 : ((2 ^ m : Nat) : Int) ≤ 64 := by
            rw [Int.natCast_pow]
            exact h
          omega
        · exact z
      refine ⟨_, rfl, m, rfl, by omega, by omega, fun H1 l ws s1 hl ha => q H1 l ws (rowsM m) ((hP.same s1).more (by omega)) (But.of_same s1) hl ha (rowsM_mem m) ?_⟩
      rw [rowsM_len]
      exact Nat.le_trans (Nat.pow_le_pow_right (by decide) m4) (by decide)
    · refine ⟨_, rfl, 64, rfl, by decide, by decide, fun D nD => ?_⟩
      obtain ⟨Dp1, Dc1⟩ := hP.free nD
      refine lc_range (lo := 0) (n := 64) (fun j H2 => PenC H2 p c (k + 61 * j) ∧ But p H H2 ∧ ∃ (us : List V) (rs : List (List Int)), H2 D = some (.lst us) ∧ All2 (Tu K H2) us rs ∧ (∀ r ∈ rs, r.length = m ∧ B01 r) ∧ rs.length = j)
        ⟨hP.same (same_new nD), But.of_same (same_new nD), [], [], upd_same, .nil, (fun z h => by cases h), rfl⟩ ?_ ?_
      · rintro j H2 hj ⟨P2, B2, us, rs, h2, a2, m2, e2⟩
        refine ⟨rfl, yes_of ?_⟩
        refine ⟨_, rfl, _, rfl, p, c, k + 61 * j, m, rfl, P2, by omega, hm, fun H3 t bs P3 B3 ht lb bb => ?_⟩
        have h3 := B3 _ _ h2 Dp1
        have fi : Firm H3 (upd H3 D (.lst (us ++ [.ref t]))) := Firm.upd h3 rfl
        refine ⟨_, h3, ?_, (P3.upd Dp1 Dc1).more (by omega), fun b o e ne => ?_, us ++ [.ref t], rs ++ [bs], upd_same, ?_, fun r hr => ?_, by rw [List.length_append, e2]; rfl⟩
        · rw [a2.len, e2]
          exact Nat.lt_of_lt_of_le (by omega : j < 100) (by decide)
        · rw [upd_ne (ne_of_none e nD)]
          exact B3 _ _ (B2 _ _ e ne) ne
        · exact (a2.imp fun _ _ h => (h.firm (Firm.pen B3 P2)).firm fi).snoc ⟨t, rfl, fi _ _ ht rfl⟩
        · rcases List.mem_append.mp hr with h | h
          · exact m2 r h
          · rw [List.mem_singleton.mp h]
            exact ⟨lb, bb⟩
      · rintro H2 ⟨P2, B2, us, rs, h2, a2, m2, e2⟩
        exact q H2 D us rs (P2.more (by omega)) B2 h2 a2 m2 (by omega)
theorem len4 {a b c d : V} : [a, b, c, d].length ≤ sizeLine := (by decide : 4 ≤ sizeLine)
theorem pen_lst {H : Hp} {p c b : Addr} {m : Nat} {xs : List V} (h : PenC H p c m) (e : H b = some (.lst xs)) : b ≠ p := fun z => by
  obtain ⟨_, _, _, _, _, h1, _⟩ := h
  rw [z, h1] at e
  cases e
theorem num_snoc {xs : List Int} {a : Int} : num (xs ++ [a]) = num xs + 2 ^ xs.length * a := by
  rw [num_app]
  show _ + _ * (a + 2 * 0) = _
  rw [Int.mul_zero, Int.add_zero]
theorem ok_lnum (F : FnP K "_law_number" sLNumber f fd) (T : Te K mg C B fA fG)
    {fB : Addr} {dB : FuncData}
    (GB : FnOk P w K mg base CX0 1 fB dB ["_law_found", "_law_literal"] (spBit K)) (gB : mg "_law_bit" = some (.ref fB)) (kB : PySem.W.keepIn K (.ref fB) = true) (bB : Binds K dB ["_law_found", "_law_literal"] [])
    : FnOk P w K mg base CX0 2 f fd ["_law_found", "_law_word"] (spLNum K) := by
  refine F.ok scLNum (fun vs H Q E h => ?_) (fun cdv A outer s H vs Q E hr h => ?_)
  · obtain ⟨l, t, xs, ws, rfl, _⟩ := h
    rfl
  · obtain ⟨l, t, xs, ws, rfl, hl, ht, hin, h01, hz, q⟩ := h
    refine ⟨_, PSs.nox (pss_cons (ps_set (i := 2) scLNum.nd rfl (Or.inl rfl) pe_int)
      (pss_cons (ps_for PassesOwn.never rfl (En.pi_enT (by rfl) T.enum (pa_cons (pv 1) pa_nil)) (pg_tup rfl (pgs_cons (pg_name (i := 3) scLNum.nd rfl (Or.inl rfl)) (pgs_cons (pg_name (i := 4) scLNum.nd rfl (Or.inl rfl)) pgs_nil)))
        (pss_one (ps_set (i := 2) scLNum.nd rfl (Or.inl rfl) (pe_op op_add (pv 2) (pe_op op_shl (pe_call GB (hr.mono (by decide)) (by rfl) gB kB bB .nil pass0 (pa_cons (pv 0) (pa_cons (pv 4) pa_nil))) (pv 3))))))
      (pss_one (ps_ret (pv 2))))), ?_⟩
    refine ⟨_, rfl, t, _, rfl, ht, ?_⟩
    refine En.for_enT (K := K) (a := t) (xs := ws.map V.int) (fun i σ H' => ∃ x3 x4 : Option V, σ = [some (.ref l), some (.ref t), some (.int (num ((ws.take i).map (lit xs)))), x3, x4] ∧ Same H H')
      ⟨none, none, rfl, fun _ _ e => e⟩ ?_ ?_ ?_
    · rintro i σ H2 _ ⟨x3, x4, rfl, s2⟩
      exact seqT_same s2 ht
    · rintro i y1 σ H2 qa hy ⟨x3, x4, rfl, s2⟩ nq
      obtain ⟨y, rfl, hy2⟩ := int_get hy
      have i1 : i < ws.length := (List.getElem?_eq_some_iff.mp hy2).1
      have sq := same_new (u := .tup [.int (i : Nat), .int y]) nq
      refine ⟨qa, _, rfl, SqT.of upd_same, rfl, _, _, rfl, _, _, rfl, rfl, ?_⟩
      obtain ⟨y0, y1⟩ := hin y (List.mem_of_getElem? hy2)
      refine ⟨_, rfl, _, rfl, _, rfl, l, xs, y, rfl, (s2.trans sq).seq hl, y0, y1, ?_⟩
      have v01 := lit_01 h01 y
      refine ⟨_, rfl, _, _, rfl, rfl, ⟨by omega, by omega, by rcases v01 with e | e <;> rw [e] <;> decide⟩, _, _, rfl, rfl, some (.int (i : Nat)), some (.int y), ?_, s2.trans sq⟩
      have e1 : num ((ws.take (i + 1)).map (lit xs)) = num ((ws.take i).map (lit xs)) + lit xs y * 2 ^ ((i : Int)).toNat := by
        rw [take_more hy2, List.map_append, List.map_singleton, num_snoc, List.length_map, List.length_take, Nat.min_eq_left (Nat.le_of_lt i1), Int.toNat_natCast, Int.mul_comm]
      rw [e1]
      rfl
    · rintro σ H2 ⟨x3, x4, rfl, s2⟩
      rw [List.length_map, List.take_length]
      exact ⟨_, rfl, q H2 s2⟩
theorem ok_wordof (F : FnP K "_law_word_of" sLWordOf f fd) (T : Te K mg C B fA fG)
    {fD fK : Addr} {dD dK : FuncData}
    (GD : FnOk P w K mg base CX0 1 fD dD ["_law_pen_here", "_law_many"] (spDraw)) (gD : mg "_law_draw" = some (.ref fD)) (kD : PySem.W.keepIn K (.ref fD) = true) (bD : Binds K dD ["_law_pen_here", "_law_many"] [])
    (GK : FnOk P w K mg base CX0 2 fK dK ["_law_pen_here", "_law_some"] (spPick K)) (gK : mg "_law_pick" = some (.ref fK)) (kK : PySem.W.keepIn K (.ref fK) = true) (bK : Binds K dK ["_law_pen_here", "_law_some"] [])
    : FnOk P w K mg base CX0 3 f fd ["_law_pen_here", "_law_leaves", "_law_width"] spWordOf := by
  refine F.ok scWordOf (fun vs H Q E h => ?_) (fun cdv A outer s H vs Q E hr h => ?_)
  · obtain ⟨p, c, k, n, m, rfl, _⟩ := h
    rfl
  · obtain ⟨p, c, k, n, m, rfl, hP, hk, hn, hm, q⟩ := h
    refine ⟨_, PSs.nox (pss_cons (ps_set (i := 3) scWordOf.nd rfl (Or.inr rfl) (pe_op op_add pe_int (pe_op op_mul pe_int (pv 1))))
      (pss_one (ps_ret (pe_callTy (T := "tuple") (r := rTupOf K) (by exact call_tuple_of) (by rfl) T.lf.tuple (by decide +kernel) (pa_cons (pe_lc (own := [("_law_k", 4)]) (g := gName 4) (tt := tYes) rfl scWordOf.nd (pi_range1 (by rfl) T.lf.range (pa_cons (pv 2) pa_nil)) (blkOk_by (N := nWordOf) (sc := defScope sLWordOf) (by decide +kernel)) (fun _ _ _ _ _ => pg_name (i := 4) scWordOf.nd rfl (Or.inl rfl)) (fun _ _ _ _ _ => pts_nil) (fun _ _ _ _ _ => (pe_call GD (hr.mono (by decide)) (by rfl) gD kD bD .nil pass0 (pa_cons (pv 0) (pa_cons (pe_call GK (hr.mono (by decide)) (by rfl) gK kK bK .nil pass0 (pa_cons (pv 0) (pa_cons (pe_lst (pa_cons pe_int (pa_cons (pv 3) (pa_cons (pv 3) (pa_cons (pv 3) pa_nil))))) pa_nil))) pa_nil))))) pa_nil))))), ?_⟩
    refine ⟨_, rfl, _, _, rfl, rfl, .inl ⟨by decide, by decide⟩, _, _, rfl, rfl, ?_⟩
    refine ⟨_, rfl, m, rfl, by omega, by omega, fun D nD => ?_⟩
    obtain ⟨Dp1, Dc1⟩ := hP.free nD
    refine lc_range (lo := 0) (n := m) (fun j H2 => PenC H2 p c (k + 2 * j) ∧ But p H H2 ∧ ∃ ls : List Int, H2 D = some (.lst (ls.map V.int)) ∧ ls.length = j ∧ ∀ a ∈ ls, 0 ≤ a ∧ a < 2 + 2 * (n : Int))
      ⟨hP.same (same_new nD), But.of_same (same_new nD), [], upd_same, rfl, (fun z h => by cases h)⟩ ?_ ?_
    · rintro j H2 hj ⟨P2, B2, ls, h2, l2, m2⟩
      refine ⟨rfl, yes_of ?_⟩
      refine ⟨_, rfl, _, rfl, _, rfl, _, rfl, _, rfl, len4, fun lb nlb => ?_⟩
      have sb := same_new (u := .lst [V.int 2, .int (2 + 2 * (n : Int)), .int (2 + 2 * (n : Int)), .int (2 + 2 * (n : Int))]) nlb
      have P3 := P2.same sb
      refine ⟨p, c, lb, k + 2 * j, _, rfl, P3, by omega, pen_lst P3 upd_same, SqL.of upd_same, (by show 0 < 4; decide), (by show 4 ≤ 1000; decide), fun v ii H4 hv P4 B4 => ?_⟩
      obtain ⟨z, rfl, z0, z1⟩ : ∃ z : Int, v = .int z ∧ 0 < z ∧ z ≤ 2 + 2 * (n : Int) := by
        match ii, hv with
        | 0, hv => exact ⟨2, (Option.some.inj hv).symm, by decide, by omega⟩
        | 1, hv => exact ⟨_, (Option.some.inj hv).symm, by omega, by omega⟩
        | 2, hv => exact ⟨_, (Option.some.inj hv).symm, by omega, by omega⟩
        | 3, hv => exact ⟨_, (Option.some.inj hv).symm, by omega, by omega⟩
        | ii + 4, hv => simp at hv
      refine ⟨p, c, k + 2 * j + 1, z, rfl, P4, by omega, z0, by omega, fun r H5 r0 r1 P5 B5 => ?_⟩
      have h5 := B5 _ _ (B4 _ _ (sb _ _ h2) Dp1) Dp1
      refine ⟨_, h5, ?_, (P5.upd Dp1 Dc1).more (by omega), fun b o e ne => ?_, ls ++ [r], ?_, by rw [List.length_append, l2]; rfl, fun a ha => ?_⟩
      · rw [List.length_map, l2]
        exact Nat.lt_of_lt_of_le (by omega : j < 100) (by decide)
      · rw [upd_ne (ne_of_none e nD)]
        exact B5 _ _ (B4 _ _ (sb _ _ (B2 _ _ e ne)) ne) ne
      · rw [upd_same, List.map_append]
        rfl
      · rcases List.mem_append.mp ha with h | h
        · exact m2 a h
        · rw [List.mem_singleton.mp h]
          omega
    · rintro H2 ⟨P2, B2, ls, h2, l2, m2⟩
      refine ⟨D, _, rfl, .inl ⟨SqL.of h2, fun t nt => ?_⟩⟩
      have st := same_new (u := .tup (ls.map V.int)) nt
      exact q _ t ls (P2.same st) (B2.trans (But.of_same st)) l2 m2 upd_same
theorem ok_wordn (F : FnP K "word_number" sWordNumber f fd) (T : Te K mg C B fA fG) : FnOk P w K mg base CX0 1 f fd ["bits"] (spWordN K) := by
  refine F.ok scWordN (fun vs H Q E h => ?_) (fun cdv A outer s H vs Q E hr h => ?_)
  · obtain ⟨l, xs, rfl, _⟩ := h
    rfl
  · obtain ⟨l, xs, rfl, hl, hz, h01, q⟩ := h
    refine ⟨_, PSs.nox (pss_one (ps_ret (pe_callB (cr_sum rfl) (by rfl) T.sum (by decide +kernel) (pa_cons (pe_lc (own := [("k", 1), ("bit", 2)]) (g := _) (tt := tYes) rfl scWordN.nd (pi_enum (by rfl) T.enum (pa_cons (pv 0) pa_nil)) (blkOk_by (N := nWordN) (sc := defScope sWordNumber) (by decide +kernel)) (fun _ _ _ _ _ => (Us.pg_tupK (K := K) (n := 2) rfl rfl (pgs_cons (pg_name (i := 1) scWordN.nd rfl (Or.inl rfl)) (pgs_cons (pg_name (i := 2) scWordN.nd rfl (Or.inl rfl)) pgs_nil)))) (fun _ _ _ _ _ => pts_nil) (fun _ _ _ _ _ => (pe_op op_shl (pv 2) (pv 1)))) pa_nil)))), ?_⟩
    refine ⟨_, rfl, l, _, rfl, hl, fun D nD => ?_⟩
    refine lc_it (walk_enum (K := K) (a := l) (xs := xs.map V.int)) (fun i H2 => Same H H2 ∧ ∃ zs : List Int, H2 D = some (.lst (zs.map V.int)) ∧ zs.length = i ∧ zs.sum = num (xs.take i)) ⟨same_new nD, [], upd_same, rfl, rfl⟩ (fun i H2 _ ⟨s2, _⟩ => s2.seq hl) ?_ ?_
    · rintro i v H2 H3 hi ⟨s2, zs, h2, l2, e2⟩ ⟨qa, z1, z2, rfl, nq, rfl, e3, e4⟩
      cases e3
      obtain ⟨y, rfl, hy2⟩ := int_get e4
      have i1 : i < xs.length := (List.getElem?_eq_some_iff.mp hy2).1
      have sq := same_new (u := .tup [.int (i : Nat), .int y]) nq
      have y01 := h01 y (List.mem_of_getElem? hy2)
      refine ⟨qa, _, rfl, SqT.of upd_same, rfl, _, _, rfl, _, _, rfl, rfl, rfl, yes_of ?_⟩
      refine ⟨_, rfl, _, rfl, _, _, rfl, rfl, ⟨by omega, by omega, by rcases y01 with e | e <;> rw [e] <;> decide⟩, _, sq _ _ h2, ?_, fun b o e => ?_, zs ++ [y * 2 ^ ((i : Int)).toNat], ?_, by rw [List.length_append, l2]; rfl, ?_⟩
      · rw [List.length_map, l2]
        exact Nat.lt_of_lt_of_le (by omega : i < 101) (by decide)
      · rw [upd_ne (ne_of_none e nD)]
        exact sq _ _ (s2 _ _ e)
      · rw [upd_same, List.map_append]
        rfl
      · rw [List.sum_append, e2, take_more hy2, num_snoc, List.length_take, Nat.min_eq_left (Nat.le_of_lt i1), Int.toNat_natCast, Int.mul_comm]
        simp
    · rintro H2 ⟨s2, zs, h2, l2, e2⟩
      rw [List.length_map, List.take_length] at e2
      refine ⟨D, zs, rfl, SqL.of h2, ?_⟩
      rw [e2]
      exact q H2 s2
end
end Wi
namespace Wj
open PySem PySem.Spec PyProof.Rows L2 Pen Dat Ki Fi Gr No Lf Cn Bd Be Bm Bw Bx Wd Zp We Wf Wg Wh Wi
theorem ints_eqv : ∀ xs ys : List Int, PyData.eqvAll (xs.map .int) (ys.map .int) = decide (xs = ys)
  | [], [] => rfl
  | [], _ :: _ => by simp [PyData.eqvAll]
  | _ :: _, [] => by simp [PyData.eqvAll]
  | x :: xs, y :: ys => by
    have t := ints_eqv xs ys
    show (PyData.eqv (.int x) (.int y) && PyData.eqvAll (xs.map .int) (ys.map .int)) = _
    rw [t]
    by_cases h : x = y
    · subst h
      simp [PyData.eqv]
    · simp [PyData.eqv, h]
theorem list_eqv (xs ys : List Int) : PyData.eqv (.list (xs.map .int)) (.list (ys.map .int)) = decide (xs = ys) := ints_eqv xs ys
theorem lst_dp {K : PySem.W.Frag} {H : Hp} {D : Addr} {ns : List Int} (h : H D = some (.lst (ns.map V.int))) : Dp K H (.ref D) (.list (ns.map .int)) := .lst (SqL.of h) (ints_dp _)
theorem shL (ns : List Int) : SeqAt.shaped (.list (ns.map .int)) = true := PySem.W.ke_shaped_ints ns
theorem goF {b : Bool} {A B : Prop} (h : b = false) (x : B) : if b = true then A else B := by rw [h]; exact iteF x
def madeD (b wl al : Addr) : List (Key × V) := [(.inr "builder", .ref b), (.inr "words", .ref wl), (.inr "all", .ref al)]
section
variable {H : Hp} {o b wl al : Addr}
theorem md_b (h : H o = some (.dK (madeD b wl al))) : DGet H o (.str "builder") (some (.ref b)) := DGet.k (k := .inr "builder") h
theorem md_w (h : H o = some (.dK (madeD b wl al))) : DGet H o (.str "words") (some (.ref wl)) := DGet.k (k := .inr "words") h
theorem md_a (h : H o = some (.dK (madeD b wl al))) : DGet H o (.str "all") (some (.ref al)) := DGet.k (k := .inr "all") h
end
def dueZ (m a b d : Int) : List Int := [(a + b + d) % m, (a + b + d) / m, (a + m - b) % m, (a * b) % m, ltZ a b, eqZ a b, if d = 1 then a else b]
/-- what the words must say -/
def Right (n : Nat) (gs : Gts) (xs ys : List Int) (c : Int) (words : List (List Int)) : Prop := ∀ bs, Env n bs → words.map (wv gs bs) = dueZ (2 ^ xs.length) (wv gs bs xs) (wv gs bs ys) (lv gs bs c)
def spRight (K : PySem.W.Frag) (B : Addr) : Sp := fun vs H Q _ => ∃ (p cc wt md one other b gl sd wl al : Addr) (k n : Nat) (c : Int) (xs ys : List Int) (ws : List V) (words : List (List Int)) (gs : Gts), vs = [.ref p, .int n, .ref wt, .ref md] ∧ PenC H p cc k ∧ k ≤ 10000000 ∧ n ≤ 60 ∧
  SqT K H wt [.ref one, .ref other, .int c] ∧ SqT K H one (xs.map V.int) ∧ SqT K H other (ys.map V.int) ∧ H md = some (.dK (madeD b wl al)) ∧ md ≠ p ∧ BAt K B H b gl sd n gs ∧ Gok n gs ∧ gs.length ≤ 1000 ∧ H wl = some (.lst ws) ∧ All2 (Tu K H) ws words ∧ SqT K H al (words.flatten.map V.int) ∧
  WIn n gs xs ∧ WIn n gs ys ∧ InN n gs c ∧ (∀ w ∈ words, WIn n gs w ∧ w.length ≤ 100) ∧ xs.length ≤ 20 ∧ ys.length ≤ 20 ∧ words.length ≤ 10 ∧ Right n gs xs ys c words ∧ ∀ H', PenC H' p cc (k + 64 * 61) → But p H H' → Q (.bl true) H'
section
variable {P : Program} {w : World} {K : PySem.W.Frag} {mg : Str → Option Value} {base : Heap} {f C B fA fG : Addr} {fd dA : FuncData}
abbrev nRight : List Str := ["_law_pen_here", "_law_leaves", "_law_words", "_law_made", "_law_one", "_law_other", "_law_c", "_law_span", "_law_bits", "_law_found", "_law_a", "_law_b", "_law_d", "_law_due", "_law_word"]
theorem scRight : FnScope nRight ["_law_pen_here", "_law_leaves", "_law_words", "_law_made"] (defScope sLRowsRight) := ⟨rfl, rfl, rfl, by decide +kernel, rfl, by decide +kernel, by decide +kernel⟩
theorem ok_right (F : FnP K "_law_rows_right" sLRowsRight f fd) (T : Te K mg C B fA fG)
    {fS fV fL fN fB : Addr} {dS dV dL dN dB : FuncData}
    (GS : FnOk P w K mg base CX0 3 fS dS ["_law_pen_here", "_law_many", "_law_most"] (spSomeRows K)) (gS : mg "_law_some_rows" = some (.ref fS)) (kS : PySem.W.keepIn K (.ref fS) = true) (bS : Binds K dS ["_law_pen_here", "_law_many", "_law_most"] [])
    (GV : FnOk P w K mg base CX0 7 fV dV ["_law_builder", "_law_leaves", "_law_bits"] (spTold K B)) (gV : mg "_law_told_values" = some (.ref fV)) (kV : PySem.W.keepIn K (.ref fV) = true) (bV : Binds K dV ["_law_builder", "_law_leaves", "_law_bits"] [])
    (GL : FnOk P w K mg base CX0 2 fL dL ["_law_word", "_law_found"] (spAreL K)) (gL : mg "_law_are_literals" = some (.ref fL)) (kL : PySem.W.keepIn K (.ref fL) = true) (bL : Binds K dL ["_law_word", "_law_found"] [])
    (GN : FnOk P w K mg base CX0 2 fN dN ["_law_found", "_law_word"] (spLNum K)) (gN : mg "_law_number" = some (.ref fN)) (kN : PySem.W.keepIn K (.ref fN) = true) (bN : Binds K dN ["_law_found", "_law_word"] [])
    (GB : FnOk P w K mg base CX0 1 fB dB ["_law_found", "_law_literal"] (spBit K)) (gB : mg "_law_bit" = some (.ref fB)) (kB : PySem.W.keepIn K (.ref fB) = true) (bB : Binds K dB ["_law_found", "_law_literal"] [])
    : FnOk P w K mg base CX0 8 f fd ["_law_pen_here", "_law_leaves", "_law_words", "_law_made"] (spRight K B) := by
  refine F.ok scRight (fun vs H Q E h => ?_) (fun cdv A outer s H vs Q E hr h => ?_)
  · obtain ⟨p, cc, wt, md, one, other, b, gl, sd, wl, al, k, n, c, xs, ys, ws, words, gs, rfl, _⟩ := h
    rfl
  · obtain ⟨p, cc, wt, md, one, other, b, gl, sd, wl, al, k, n, c, xs, ys, ws, words, gs, rfl, hP, hk, hn, hwt, h1, h2, hmd, nmd, hB, hok, hz, hwl, haw, hal, ix, iy, ic, iw, l1, l2, l3, hR, q⟩ := h
    have hu := hu_of hr
    refine ⟨_, PSs.nox (pss_cons (ps_asg (pv 2) (pg_tup rfl (pgs_cons (pg_name (i := 4) scRight.nd rfl (Or.inl rfl)) (pgs_cons (pg_name (i := 5) scRight.nd rfl (Or.inl rfl)) (pgs_cons (pg_name (i := 6) scRight.nd rfl (Or.inl rfl)) pgs_nil)))))
      (pss_cons (ps_set (i := 7) scRight.nd rfl (Or.inl rfl) (pe_op op_shl pe_int (pe_callB call_len_seq (by rfl) T.lf.pen.len PySem.boot_len (pa_cons (pv 4) pa_nil))))
      (pss_cons (ps_for PassesOwn.never rfl (pi_list (pe_call GS (hr.mono (by decide)) (by rfl) gS kS bS .nil pass0 (pa_cons (pv 0) (pa_cons (pv 1) (pa_cons pe_int pa_nil))))) (pg_name (i := 8) scRight.nd rfl (Or.inl rfl))
        (pss_cons (ps_set (i := 9) scRight.nd rfl (Or.inr rfl) (pe_call GV (hr.mono (by decide)) (by rfl) gV kV bV .nil pass0 (pa_cons (pe_dget hu (pv 3) pe_str (fun _ _ => rfl)) (pa_cons (pv 1) (pa_cons (pv 8) pa_nil)))))
        (pss_cons (ps_if (PW.pt (pw_or (pt_cmpR op_isN (pv 9) pe_non (nomark _)) (pw_or1 (pt_not (pt_val (pe_call GL (hr.mono (by decide)) (by rfl) gL kL bL .nil pass0 (pa_cons (pe_dget hu (pv 3) pe_str (fun _ _ => rfl)) (pa_cons (pv 9) pa_nil))))))))
          (pss_one (ps_ret pe_bl))
          pss_nil)
        (pss_cons (ps_par3 (i := 10) (j := 11) (l := 12) rfl scRight.nd rfl rfl rfl (by decide) (by decide) (by decide) rfl rfl rfl (pa_cons (pe_call GN (hr.mono (by decide)) (by rfl) gN kN bN .nil pass0 (pa_cons (pv 9) (pa_cons (pv 4) pa_nil))) (pa_cons (pe_call GN (hr.mono (by decide)) (by rfl) gN kN bN .nil pass0 (pa_cons (pv 9) (pa_cons (pv 5) pa_nil))) (pa_cons (pe_call GB (hr.mono (by decide)) (by rfl) gB kB bB .nil pass0 (pa_cons (pv 9) (pa_cons (pv 6) pa_nil))) pa_nil))) (by rfl))
        (pss_cons (ps_set (i := 13) scRight.nd rfl (Or.inl rfl) (pe_lst (pa_cons (pe_op op_mod (pe_callTy call_int1 (by rfl) T.lf.pen.int (by decide +kernel) (pa_cons (pe_op op_add (pe_op op_add (pv 10) (pv 11)) (pv 12)) pa_nil)) (pv 7)) (pa_cons (pe_op op_fdiv (pe_op op_add (pe_op op_add (pv 10) (pv 11)) (pv 12)) (pv 7)) (pa_cons (pe_op op_mod (pe_callTy call_int1 (by rfl) T.lf.pen.int (by decide +kernel) (pa_cons (pe_op op_sub (pe_op op_add (pv 10) (pv 7)) (pv 11)) pa_nil)) (pv 7)) (pa_cons (pe_op op_mod (pe_callTy call_int1 (by rfl) T.lf.pen.int (by decide +kernel) (pa_cons (pe_op op_mul (pv 10) (pv 11)) pa_nil)) (pv 7)) pa_nil))))))
        (pss_cons (ps_set (i := 13) scRight.nd rfl (Or.inl rfl) (pe_op op_cat (pv 13) (pe_lst (pa_cons (pe_callTy call_int1 (by rfl) T.lf.pen.int (by decide +kernel) (pa_cons (pe_cmpR op_lt (pv 10) (pv 11) (nomark _)) pa_nil)) (pa_cons (pe_callTy call_int1 (by rfl) T.lf.pen.int (by decide +kernel) (pa_cons (pe_cmpR op_eq (pv 10) (pv 11) (nomark _)) pa_nil)) (pa_cons (pe_ifExp (pt_cmpR op_eq (pv 12) pe_int (nomark _)) (pv 10) (pv 11)) pa_nil))))))
        (pss_one (ps_if (pt_cmpR (op_neD hr.units) (pe_lc (own := [("_law_word", 14)]) (g := gName 14) (tt := tYes) rfl scRight.nd (pi_list (pe_dget hu (pv 3) pe_str (fun _ _ => rfl))) (blkOk_by (N := nRight) (sc := defScope sLRowsRight) (by decide +kernel)) (fun _ _ _ _ _ => pg_name (i := 14) scRight.nd rfl (Or.inl rfl)) (fun _ _ _ _ _ => pts_nil) (fun _ _ _ _ _ => (pe_call GN (hr.mono (by decide)) (by rfl) gN kN bN .nil pass0 (pa_cons (pv 9) (pa_cons (pv 14) pa_nil))))) (pv 13) (nomark _))
          (pss_one (ps_ret pe_bl))
          pss_nil))))))))
      (pss_one (ps_ret pe_bl))))), ?_⟩
    refine ⟨_, rfl, wt, _, rfl, hwt, rfl, _, _, rfl, _, _, rfl, _, _, rfl, rfl, ?_⟩
    refine ⟨_, rfl, one, _, rfl, .inr h1, ?_⟩
    rw [List.length_map]
    have espan : (1 : Int) * 2 ^ ((xs.length : Nat) : Int).toNat = 2 ^ xs.length := by rw [Int.one_mul, Int.toNat_natCast]
    refine ⟨_, _, rfl, rfl, ⟨by omega, by omega, by decide⟩, ?_⟩
    refine ⟨_, rfl, _, rfl, p, cc, k, n, rfl, hP, hk, hn, fun H1 l lw rs P1 B1 hl ha hm hz2 => ?_⟩
    obtain ⟨nb, ngl, nsd, _⟩ := bat_pen hB hP
    have nwl : wl ≠ p := pen_lst hP hwl
    have f1 := Firm.pen B1 hP
    have wt1 := firm_seq f1 hwt
    have h11 := firm_seq f1 h1
    have h21 := firm_seq f1 h2
    have al1 := firm_seq f1 hal
    have md1 := B1 _ _ hmd nmd
    have wl1 := B1 _ _ hwl nwl
    have aw1 : All2 (Tu K H1) ws words := haw.imp fun _ _ h => h.firm f1
    have B1' := BAt.but hB hP B1
    refine ⟨l, rfl, ⟨_, SqL.of hl⟩, for_list (K := K) (a := l) (xs := lw)
      (fun i σ H2 => ∃ x8 x9 x10 x11 x12 x13 x14 : Option V, σ = [some (.ref p), some (.int (n : Nat)), some (.ref wt), some (.ref md), some (.ref one), some (.ref other), some (.int c), some (.int (1 * 2 ^ ((xs.length : Nat) : Int).toNat)), x8, x9, x10, x11, x12, x13, x14] ∧ Same H1 H2)
      ⟨_, _, _, _, _, _, _, rfl, fun _ _ e => e⟩ (fun i σ H2 _ ⟨_, _, _, _, _, _, _, _, s2⟩ => s2.seq (SqL.of hl)) ?_ ?_⟩
    · rintro i y σ H2 hy ⟨x8, x9, x10, x11, x12, x13, x14, rfl, s2⟩
      obtain ⟨bs, hbs, qb, rfl, hqb⟩ := ha.get hy
      obtain ⟨lb, b01⟩ := hm bs (List.mem_of_getElem? hbs)
      have md2 := s2 _ _ md1
      have B2 := We.BAt.same B1' s2
      have hE : Env n bs := ⟨lb, b01⟩
      have vl : (vals bs gs).length = bs.length + 1 + gs.length := vals_len bs gs
      have v01 := vals_01 gs b01
      refine ⟨_, rfl, md, _, rfl, md_b md2, _, rfl, _, rfl, b, gl, sd, qb, n, gs, bs, rfl, B2, SqT.of (s2 _ _ hqb), b01, by rw [lb], hok, by omega, by omega, fun H3 fl s3 hfl => ?_⟩
      have s13 := s2.trans s3
      refine ⟨_, rfl, rfl, _, rfl, goF rfl ?_⟩
      have toN : ∀ a, InN n gs a → 0 ≤ a ∧ (a / 2).toNat < (vals bs gs).length := fun a ha => by
        obtain ⟨a0, a1⟩ := ha
        refine ⟨a0, ?_⟩
        rw [vl]
        omega
      refine ⟨_, rfl, md, _, rfl, md_a (s13 _ _ md1), _, rfl, al, fl, words.flatten, vals bs gs, rfl, seqT_same s13 al1, SqL.of hfl, by omega, fun a ha => ?_, ?_, fun H4 s4 => ?_⟩
      · obtain ⟨w0, hw0, ha⟩ := List.mem_flatten.mp ha
        obtain ⟨a0, a1⟩ := (iw w0 hw0).1 a ha
        refine ⟨a0, ?_⟩
        rw [vl]
        omega
      · rw [List.length_flatten]
        have bb : ∀ (ls : List (List Int)), (∀ z ∈ ls, z.length ≤ 100) → (ls.map List.length).sum ≤ 100 * ls.length := by
          intro ls
          induction ls with
          | nil => exact fun _ => Nat.le_refl _
          | cons a r ih =>
            intro hz
            have t := ih fun z hz' => hz z (List.mem_cons_of_mem _ hz')
            have u := hz a List.mem_cons_self
            rw [List.map_cons, List.sum_cons, List.length_cons]
            omega
        exact Nat.le_trans (bb words fun z hz => (iw z hz).2) (by omega)
      have s14 := s13.trans s4
      refine ⟨_, rfl, goF rfl ?_⟩
      have lim : ∀ {z : List Int}, z.length ≤ 20 → z.length ≤ 100 := fun h => by omega
      refine ⟨_, rfl, _, rfl, fl, one, vals bs gs, xs, rfl, SqL.of (s4 _ _ hfl), seqT_same s14 h11, fun a ha => toN a (ix a ha), v01, lim l1, fun H5 s5 => ?_⟩
      have s15 := s14.trans s5
      refine ⟨_, rfl, _, rfl, fl, other, vals bs gs, ys, rfl, SqL.of (s5 _ _ (s4 _ _ hfl)), seqT_same s15 h21, fun a ha => toN a (iy a ha), v01, lim l2, fun H6 s6 => ?_⟩
      have s16 := s15.trans s6
      have hf6 := s6 _ _ (s5 _ _ (s4 _ _ hfl))
      refine ⟨_, rfl, _, rfl, fl, vals bs gs, c, rfl, SqL.of hf6, (toN c ic).1, (toN c ic).2, ?_⟩
      have eR := hR bs hE
      show _
      change List.map (wv gs bs) words = dueZ (2 ^ xs.length) (num (xs.map (lit (vals bs gs)))) (num (ys.map (lit (vals bs gs)))) (lit (vals bs gs) c) at eR
      have ua := wv_lt (n := n) (gs := gs) (bs := bs) (w := xs) hE
      have ub := wv_lt (n := n) (gs := gs) (bs := bs) (w := ys) hE
      have ud := lv01 (n := n) (gs := gs) (bs := bs) (a := c) hE
      change 0 ≤ num (xs.map (lit (vals bs gs))) ∧ num (xs.map (lit (vals bs gs))) < 2 ^ xs.length at ua
      change 0 ≤ num (ys.map (lit (vals bs gs))) ∧ num (ys.map (lit (vals bs gs))) < 2 ^ ys.length at ub
      change lit (vals bs gs) c = 0 ∨ lit (vals bs gs) c = 1 at ud
      generalize num (xs.map (lit (vals bs gs))) = A at eR ua ⊢
      generalize num (ys.map (lit (vals bs gs))) = Bb at eR ub ⊢
      generalize lit (vals bs gs) c = Dd at eR ud ⊢
      have pm := p2_pos xs.length
      have pl : (2 : Int) ^ xs.length < 1073741824 := by
        have h2 : (2 : Nat) ^ xs.length ≤ 2 ^ 20 := Nat.pow_le_pow_right (by decide) l1
        have h3 : ((2 ^ xs.length : Nat) : Int) ≤ ((2 ^ 20 : Nat) : Int) := Int.ofNat_le.mpr h2
        rw [Int.natCast_pow] at h3
        exact Int.lt_of_le_of_lt h3 (by decide)
      have m0 : (0 : Int) < 1 * 2 ^ ((xs.length : Nat) : Int).toNat := by rw [espan]; exact pm
      have m1 : (1 : Int) * 2 ^ ((xs.length : Nat) : Int).toNat < 1073741824 := by rw [espan]; exact pl
      refine ⟨_, _, _, rfl, ?_⟩
      refine ⟨_, rfl, _, rfl, _, _, rfl, rfl, _, rfl, _, _, rfl, rfl, .inl ⟨_, rfl, _, rfl, _, _, rfl, rfl, m0, ?_⟩⟩
      refine ⟨_, rfl, _, rfl, _, _, rfl, rfl, _, rfl, _, _, rfl, rfl, _, rfl, _, _, rfl, rfl, ⟨m0, m1⟩, ?_⟩
      refine ⟨_, rfl, _, rfl, _, _, rfl, rfl, _, rfl, _, _, rfl, rfl, .inl ⟨_, rfl, _, rfl, _, _, rfl, rfl, m0, ?_⟩⟩
      refine ⟨_, rfl, _, rfl, _, _, rfl, rfl, .inl ⟨by omega, by omega⟩, .inl ⟨_, rfl, _, rfl, _, _, rfl, rfl, m0, len4, fun ld nld => ?_⟩⟩
      have s17 := s16.trans (same_new (u := .lst [V.int ((A + Bb + Dd) % (1 * 2 ^ ((xs.length : Nat) : Int).toNat)), .int ((A + Bb + Dd) / (1 * 2 ^ ((xs.length : Nat) : Int).toNat)), .int ((A + 1 * 2 ^ ((xs.length : Nat) : Int).toNat - Bb) % (1 * 2 ^ ((xs.length : Nat) : Int).toNat)), .int ((A * Bb) % (1 * 2 ^ ((xs.length : Nat) : Int).toNat))]) nld)
      have hf7 := same_new (u := .lst [V.int ((A + Bb + Dd) % (1 * 2 ^ ((xs.length : Nat) : Int).toNat)), .int ((A + Bb + Dd) / (1 * 2 ^ ((xs.length : Nat) : Int).toNat)), .int ((A + 1 * 2 ^ ((xs.length : Nat) : Int).toNat - Bb) % (1 * 2 ^ ((xs.length : Nat) : Int).toNat)), .int ((A * Bb) % (1 * 2 ^ ((xs.length : Nat) : Int).toNat))]) nld _ _ hf6
      have hd7 := upd_same (H := H6) (a := ld) (o := .lst [V.int ((A + Bb + Dd) % (1 * 2 ^ ((xs.length : Nat) : Int).toNat)), .int ((A + Bb + Dd) / (1 * 2 ^ ((xs.length : Nat) : Int).toNat)), .int ((A + 1 * 2 ^ ((xs.length : Nat) : Int).toNat - Bb) % (1 * 2 ^ ((xs.length : Nat) : Int).toNat)), .int ((A * Bb) % (1 * 2 ^ ((xs.length : Nat) : Int).toNat))])
      generalize upd H6 ld _ = H7 at s17 hf7 hd7 ⊢
      rw [← espan] at eR
      unfold dueZ at eR
      generalize (1 : Int) * 2 ^ ((xs.length : Nat) : Int).toNat = M at eR hd7 ⊢
      have e5 : (if decide (A < Bb) = true then (1 : Int) else 0) = ltZ A Bb := by
        unfold ltZ
        by_cases h : A < Bb <;> simp [h]
      have e6 : (if decide (V.int A = V.int Bb) = true then (1 : Int) else 0) = eqZ A Bb := by
        unfold eqZ
        by_cases h : A = Bb <;> simp [h]
      rw [← e5, ← e6] at eR
      rcases ud with rfl | rfl
      all_goals
        refine ⟨_, rfl, _, rfl, _, rfl, _, _, rfl, rfl, .inr ⟨_, rfl, ?_⟩⟩
        refine ⟨_, rfl, _, rfl, rfl, .inr ⟨_, rfl, ?_⟩⟩
        refine ⟨_, rfl, rfl, _, rfl, ite2 (fun hh => ?_) (fun hh => ?_)⟩
        any_goals first
          | exact absurd hh (by decide)
          | exact absurd (by decide) hh
          | skip
        refine ⟨_, rfl, (by show 3 ≤ sizeLine; decide), fun le nle => ?_⟩
        generalize hX : upd H7 le _ = H8
        have s8 : Same H7 H8 := by
          rw [← hX]
          exact same_new nle
        have h8 := congrFun hX le
        rw [upd_same] at h8
        refine ⟨ld, le, _, _, rfl, rfl, s8 _ _ hd7, h8.symm, (by show 4 + 3 ≤ sizeLine; decide), fun l9 nl9 => ?_⟩
        generalize hY : upd H8 l9 _ = H9
        have s9 : Same H8 H9 := by
          rw [← hY]
          exact same_new nl9
        have h9 := congrFun hY l9
        rw [upd_same] at h9
        have s79 := s8.trans s9
        have s19 := s17.trans s79
        have hf9 := s79 _ _ hf7
        clear hX hY h8
        refine ⟨_, rfl, md, _, rfl, md_w (s19 _ _ md1), wl, rfl, ⟨_, SqL.of (s19 _ _ wl1)⟩, fun D nD => ?_⟩
        refine lc_list (K := K) (a := wl) (xs := ws) (fun j H' => Same H9 H' ∧ H' D = some (.lst (((words.take j).map (wv gs bs)).map V.int))) ⟨same_new nD, upd_same⟩ (fun j H' _ ⟨s, _⟩ => SqL.of (s _ _ (s19 _ _ wl1))) ?_ ?_
        · rintro j v H' hj ⟨sa, ha'⟩
          obtain ⟨wd, hwd, qw, rfl, hqw⟩ := aw1.get hj
          have jl : j < words.length := (List.getElem?_eq_some_iff.mp hwd).1
          have iwd := iw wd (List.mem_of_getElem? hwd)
          refine ⟨rfl, yes_of ?_⟩
          refine ⟨_, rfl, _, rfl, fl, qw, vals bs gs, wd, rfl, SqL.of (sa _ _ hf9), SqT.of (sa _ _ (s19 _ _ hqw)), fun a ha => toN a (iwd.1 a ha), v01, iwd.2, fun H'' sb => ?_⟩
          refine ⟨_, sb _ _ ha', ?_, fun o u e => ?_, ?_⟩
          · rw [List.length_map, List.length_map, List.length_take]
            exact Nat.lt_of_le_of_lt (Nat.min_le_left _ _) (Nat.lt_of_lt_of_le (by omega : j < 20) (by decide))
          · rw [upd_ne (ne_of_none e nD)]
            exact sb _ _ (sa _ _ e)
          · rw [upd_same, take_more hwd, List.map_append, List.map_append]
            rfl
        · rintro H' ⟨sa, ha'⟩
          rw [aw1.len, List.take_length, eR] at ha'
          first
            | rw [if_neg (by decide : ¬ (0 : Int) = 1)] at ha'
            | rw [if_pos (rfl : (1 : Int) = 1)] at ha'
          have hE := (sa _ _ h9.symm).trans ha'.symm
          exact ⟨_, rfl, _, _, lst_dp ha', lst_dp (hE.trans ha'), shL _, shL _, _, rfl, goF (by rw [list_eqv, decide_eq_true rfl]; rfl) ⟨_, _, _, _, _, _, _, rfl, s19.trans sa⟩⟩
    · rintro σ H2 ⟨x8, x9, x10, x11, x12, x13, x14, rfl, s2⟩
      exact q H2 (P1.same s2) (B1.trans (But.of_same s2))
end
end Wj
namespace Wk
open PySem PySem.Spec PyProof.Rows L2 Pen Dat Ki Fi Gr No Lf Cn Bd Be Bf Bm Bw Bx Wd Zp We Wf Wg Wh Wi Wj
def spThree : Sp := fun vs H Q _ => ∃ (p cc : Addr) (k : Nat), vs = [.ref p] ∧ PenC H p cc k ∧ k ≤ 10000000000 ∧ ∀ H', Q (.bl true) H'
section
variable {P : Program} {w : World} {K : PySem.W.Frag} {mg : Str → Option Value} {base : Heap} {f C B fA fG : Addr} {fd dA : FuncData}
abbrev nThree : List Str := ["_law_pen_here", "_law_builder", "_law_rows_here", "_law_row", "_law_told", "_law_bits", "_law_found", "_law_literal", "_law_total"]
theorem scThree : FnScope nThree ["_law_pen_here"] (defScope sLThreeRight) := ⟨rfl, rfl, rfl, by decide +kernel, rfl, by decide +kernel, by decide +kernel⟩
theorem ok_three {fX : Addr} {dX : FuncData} (F : FnP K "_law_three_right" sLThreeRight f fd) (T : Te K mg C B fA fG)
    (mkM : Mk K B fX) (GM : FnOk P w K mg base CX0 3 fX dX ["self", "leaves"] (spBInit K B)) (gM : mg "Builder" = some (.ref B)) (bM : Binds K dX ["self", "leaves"] [])
    {fI fF fR fV fL fB : Addr} {dI dF dR dV dL dB : FuncData}
    (GI : FnOk P w K mg base CX0 2 fI dI ["_law_pen_here", "_law_nodes", "_law_many"] (spLits)) (gI : mg "_law_literals" = some (.ref fI)) (kI : PySem.W.keepIn K (.ref fI) = true) (bI : Binds K dI ["_law_pen_here", "_law_nodes", "_law_many"] [])
    (GF : FnOk P w K mg base CX0 3 fF dF ["builder", "a", "b", "c"] (spFull K B)) (gF : mg "full_sum" = some (.ref fF)) (kF : PySem.W.keepIn K (.ref fF) = true) (bF : Binds K dF ["builder", "a", "b", "c"] [])
    (GR : FnOk P w K mg base CX0 2 fR dR ["_law_many"] (spRows K)) (gR : mg "_law_rows" = some (.ref fR)) (kR : PySem.W.keepIn K (.ref fR) = true) (bR : Binds K dR ["_law_many"] [])
    (GV : FnOk P w K mg base CX0 7 fV dV ["_law_builder", "_law_leaves", "_law_bits"] (spTold K B)) (gV : mg "_law_told_values" = some (.ref fV)) (kV : PySem.W.keepIn K (.ref fV) = true) (bV : Binds K dV ["_law_builder", "_law_leaves", "_law_bits"] [])
    (GL : FnOk P w K mg base CX0 2 fL dL ["_law_word", "_law_found"] (spAreL K)) (gL : mg "_law_are_literals" = some (.ref fL)) (kL : PySem.W.keepIn K (.ref fL) = true) (bL : Binds K dL ["_law_word", "_law_found"] [])
    (GB : FnOk P w K mg base CX0 1 fB dB ["_law_found", "_law_literal"] (spBit K)) (gB : mg "_law_bit" = some (.ref fB)) (kB : PySem.W.keepIn K (.ref fB) = true) (bB : Binds K dB ["_law_found", "_law_literal"] [])
    : FnOk P w K mg base CX0 8 f fd ["_law_pen_here"] spThree := by
  refine F.ok scThree (fun vs H Q E h => ?_) (fun cdv A outer s H vs Q E hr h => ?_)
  · obtain ⟨p, cc, k, rfl, _⟩ := h
    rfl
  · obtain ⟨p, cc, k, rfl, hP, hk, q⟩ := h
    have hu := hu_of hr
    refine ⟨_, PSs.nox (pss_cons (ps_par (i := 1) (j := 2) rfl scThree.nd rfl rfl (by decide) rfl rfl (pa_cons (pe_make mkM GM (hr.mono (by decide)) (by rfl) gM bM .nil pass0 (pa_cons pe_int pa_nil)) (pa_cons (pe_lst (pa_cons (pe_call GI (hr.mono (by decide)) (by rfl) gI kI bI .nil pass0 (pa_cons (pv 0) (pa_cons pe_int (pa_cons pe_int pa_nil)))) (pa_cons (pe_tup (pa_cons pe_int (pa_cons pe_int (pa_cons pe_int pa_nil)))) pa_nil))) pa_nil)) (by rfl))
      (pss_cons (ps_for PassesOwn.never rfl (pi_list (pv 2)) (pg_name (i := 3) scThree.nd rfl (Or.inl rfl))
        (pss_cons (ps_set (i := 4) scThree.nd rfl (Or.inl rfl) (pe_call GF (hr.mono (by decide)) (by rfl) gF kF bF .nil pass0 (pa_cons (pv 1) (pa_cons (pe_ix (r := L2.rIxT K) (by exact ix_tup) (pv 3) pe_int (fun _ _ => rfl)) (pa_cons (pe_ix (r := L2.rIxT K) (by exact ix_tup) (pv 3) pe_int (fun _ _ => rfl)) (pa_cons (pe_ix (r := L2.rIxT K) (by exact ix_tup) (pv 3) pe_int (fun _ _ => rfl)) pa_nil))))))
        (pss_one (ps_for PassesOwn.never rfl (pi_list (pe_call GR (hr.mono (by decide)) (by rfl) gR kR bR .nil pass0 (pa_cons pe_int pa_nil))) (pg_name (i := 5) scThree.nd rfl (Or.inl rfl))
          (pss_cons (ps_set (i := 6) scThree.nd rfl (Or.inr rfl) (pe_call GV (hr.mono (by decide)) (by rfl) gV kV bV .nil pass0 (pa_cons (pv 1) (pa_cons pe_int (pa_cons (pv 5) pa_nil)))))
          (pss_cons (ps_set (i := 8) scThree.nd rfl (Or.inl rfl) (pe_callB (cr_sum rfl) (by rfl) T.sum (by decide +kernel) (pa_cons (pe_lc (own := [("_law_literal", 7)]) (g := gName 7) (tt := tYes) rfl scThree.nd (pi_tup (pv 3)) (blkOk_by (N := nThree) (sc := defScope sLThreeRight) (by decide +kernel)) (fun _ _ _ _ _ => pg_name (i := 7) scThree.nd rfl (Or.inl rfl)) (fun _ _ _ _ _ => pts_nil) (fun _ _ _ _ _ => (pe_call GB (hr.mono (by decide)) (by rfl) gB kB bB .nil pass0 (pa_cons (pv 6) (pa_cons (pv 7) pa_nil))))) pa_nil)))
          (pss_one (ps_if (PW.pt (pw_or (pt_not (pt_val (pe_call GL (hr.mono (by decide)) (by rfl) gL kL bL .nil pass0 (pa_cons (pv 4) (pa_cons (pv 6) pa_nil))))) (pw_or1 (pt_cmpR op_ne (pe_op op_add (pe_call GB (hr.mono (by decide)) (by rfl) gB kB bB .nil pass0 (pa_cons (pv 6) (pa_cons (pe_ix (r := L2.rIxT K) (by exact ix_tup) (pv 4) pe_int (fun _ _ => rfl)) pa_nil))) (pe_op op_mul pe_int (pe_call GB (hr.mono (by decide)) (by rfl) gB kB bB .nil pass0 (pa_cons (pv 6) (pa_cons (pe_ix (r := L2.rIxT K) (by exact ix_tup) (pv 4) pe_int (fun _ _ => rfl)) pa_nil))))) (pv 8) (nomark _)))))
            (pss_one (ps_ret pe_bl))
            pss_nil))))))))
      (pss_one (ps_ret pe_bl)))), ?_⟩
    refine fun y dy ny nd _ => ⟨y, dy, 3, rfl, upd_same, by decide, fun H1 gl sd k1 hB1 _ _ => ⟨rfl, ?_⟩⟩
    have s1 : Same H H1 := Same.made ny nd k1
    have P1 := hP.same s1
    refine ⟨_, rfl, p, cc, k, 4, 3, rfl, P1, by omega, by decide, by decide, by decide, by decide, fun H2 t1 ls P2 B2 ll lm ht1 => ⟨(by show 3 ≤ sizeLine; decide), fun t2 nt2 => ⟨len2, fun lr nlr => ⟨_, _, rfl, ?_⟩⟩⟩⟩
    have hB2 := BAt.but hB1 P1 B2
    generalize hX : upd H2 t2 _ = H3 at nlr ⊢
    have s3 : Same H2 H3 := by
      rw [← hX]
      exact same_new nt2
    have h3 := congrFun hX t2
    rw [upd_same] at h3
    generalize hY : upd H3 lr _ = H4
    have s4 : Same H3 H4 := by
      rw [← hY]
      exact same_new nlr
    have h4 := congrFun hY lr
    rw [upd_same] at h4
    have s34 := s3.trans s4
    have hB4 := We.BAt.same hB2 s34
    clear hX hY
    obtain ⟨x, y2, z, rfl⟩ : ∃ x y z, ls = [x, y, z] := by
      match ls, ll with
      | [x, y, z], _ => exact ⟨x, y, z, rfl⟩
    obtain ⟨dx0, ws0, kv0, hb0, hg0, _, hs0, _⟩ := id hB2
    have ng : lr ≠ gl := fun e => by
      rw [e, s3 _ _ hg0] at nlr
      cases nlr
    have ns : lr ≠ sd := fun e => by
      rw [e, s3 _ _ hs0] at nlr
      cases nlr
    refine ⟨_, rfl, lr, rfl, ⟨_, SqL.of h4.symm⟩, for_list (K := K) (a := lr) (xs := [.ref t1, .ref t2])
      (fun i σ H' => ∃ (x3 x4 x5 x6 x7 x8 : Option V) (gs : Gts), σ = [some (.ref p), some (.ref y), some (.ref lr), x3, x4, x5, x6, x7, x8] ∧ But2 gl sd H4 H' ∧ Firm H4 H' ∧ BAt K B H' y gl sd ((3 : Nat) : Int) gs ∧ Gok 3 gs ∧ gs.length ≤ 9 * i)
      ⟨_, _, _, _, _, _, [], rfl, But2.refl, Firm.refl _, hB4, rfl, Nat.le_refl _⟩ (fun i σ H' _ ⟨_, _, _, _, _, _, _, _, k2, _⟩ => SqL.of (k2 _ _ h4.symm ng ns)) ?_ ?_⟩
    · rintro i v σ H5 hi ⟨x3, x4, x5, x6, x7, x8, gs, rfl, k5, f5, B5, ok5, l5⟩
      have i2 : i < 2 := (List.getElem?_eq_some_iff.mp hi).1
      obtain ⟨tq, a, b, c, rfl, htq, ia, ib, ic⟩ : ∃ (tq : Addr) (a b c : Int), v = .ref tq ∧ H4 tq = some (.tup [.int a, .int b, .int c]) ∧ InN 3 gs a ∧ InN 3 gs b ∧ InN 3 gs c := by
        match i, hi with
        | 0, hi =>
          obtain ⟨a0, a1⟩ := lm x List.mem_cons_self
          obtain ⟨b0, b1⟩ := lm y2 (List.mem_cons_of_mem _ List.mem_cons_self)
          obtain ⟨c0, c1⟩ := lm z (List.mem_cons_of_mem _ (List.mem_cons_of_mem _ List.mem_cons_self))
          exact ⟨t1, x, y2, z, (Option.some.inj hi).symm, s34 _ _ ht1, ⟨a0, by omega⟩, ⟨b0, by omega⟩, ⟨c0, by omega⟩⟩
        | 1, hi => exact ⟨t2, 2, 4, 6, (Option.some.inj hi).symm, s4 _ _ h3.symm, ⟨by decide, by omega⟩, ⟨by decide, by omega⟩, ⟨by decide, by omega⟩⟩
        | i + 2, _ => exact absurd i2 (by omega)
      have htq5 := f5 _ _ htq rfl
      refine ⟨_, rfl, _, rfl, tq, _, _, _, rfl, rfl, SqT.of htq5, at_of (j := 0) rfl rfl, ?_⟩
      refine ⟨_, rfl, tq, _, _, _, rfl, rfl, SqT.of htq5, at_of (j := 1) rfl rfl, ?_⟩
      refine ⟨_, rfl, tq, _, _, _, rfl, rfl, SqT.of htq5, at_of (j := 2) rfl rfl, ?_⟩
      refine ⟨y, gl, sd, 3, a, b, c, gs, rfl, B5, ok5, by omega, ia, ib, ic, fun H6 tf g6 sm cy k6 f6 B6 st6 is6 ic6 v6 htf => ?_⟩
      have l6 := st6.len
      have htq6 := f6 _ _ htq5 rfl
      have k46 := But2.trans k5 k6
      have f46 := f5.trans f6
      refine ⟨3, rfl, by decide, by decide, fun H7 l7 ws7 s7 hl7 ha7 => ⟨l7, rfl, ⟨_, SqL.of hl7⟩, for_list (K := K) (a := l7) (xs := ws7)
        (fun j σ H' => ∃ (x5 x6 x7 x8 : Option V), σ = [some (.ref p), some (.ref y), some (.ref lr), some (.ref tq), some (.ref tf), x5, x6, x7, x8] ∧ Same H7 H')
        ⟨_, _, _, _, rfl, fun _ _ e => e⟩ (fun j σ H' _ ⟨_, _, _, _, _, s⟩ => s.seq (SqL.of hl7)) ?_ ?_⟩⟩
      · rintro j u σ H8 hj ⟨x5, x6, x7, x8, rfl, s8⟩
        obtain ⟨bs, hbs, qb, rfl, hqb⟩ := ha7.get hj
        obtain ⟨lb, b01⟩ := rowsM_mem _ bs (List.mem_of_getElem? hbs)
        have lb : bs.length = 3 := lb
        have hE : Env 3 bs := ⟨lb, b01⟩
        have s78 := s7.trans s8
        have vl : (vals bs g6).length = bs.length + 1 + g6.length := vals_len bs g6
        have v01 := vals_01 g6 b01
        have toN : ∀ a, InN 3 g6 a → 0 ≤ a ∧ (a / 2).toNat < (vals bs g6).length := fun a ha => by
          obtain ⟨a0, a1⟩ := ha
          refine ⟨a0, ?_⟩
          rw [vl]
          omega
        refine ⟨_, rfl, _, rfl, y, gl, sd, qb, 3, g6, bs, rfl, We.BAt.same B6 s78, SqT.of (s8 _ _ hqb), b01, by rw [lb]; rfl, st6.ok, by omega, by omega, fun H9 fl s9 hfl => ?_⟩
        have s79 := s78.trans s9
        have htq9 := s79 _ _ htq6
        refine ⟨_, rfl, tq, rfl, ⟨_, SqT.of htq9⟩, fun D nD => ?_⟩
        refine lc_tup (K := K) (a := tq) (xs := [a, b, c].map V.int) (fun j H' => Same H9 H' ∧ H' D = some (.lst ((([a, b, c].take j).map (lit (vals bs g6))).map V.int))) ⟨same_new nD, upd_same⟩ (fun j H' _ ⟨s, _⟩ => SqT.of (s _ _ htq9)) ?_ ?_
        · rintro j u H' hj ⟨sa, ha'⟩
          obtain ⟨e, rfl, he⟩ := int_get hj
          have hin : InN 3 g6 e := by
            have := List.mem_of_getElem? he
            simp only [List.mem_cons, List.not_mem_nil, or_false] at this
            rcases this with rfl | rfl | rfl
            · exact inx ia st6.ext
            · exact inx ib st6.ext
            · exact inx ic st6.ext
          have j3 : j < 3 := (List.getElem?_eq_some_iff.mp he).1
          refine ⟨rfl, yes_of ?_⟩
          refine ⟨_, rfl, _, rfl, fl, vals bs g6, e, rfl, SqL.of (sa _ _ hfl), (toN e hin).1, (toN e hin).2, ?_⟩
          refine ⟨_, ha', ?_, fun o u e => ?_, ?_⟩
          · rw [List.length_map, List.length_map, List.length_take]
            exact Nat.lt_of_le_of_lt (Nat.min_le_left _ _) (Nat.lt_of_lt_of_le (by omega : j < 20) (by decide))
          · rw [upd_ne (ne_of_none e nD)]
            exact sa _ _ e
          · rw [upd_same, take_more he, List.map_append, List.map_append]
            rfl
        · rintro H' ⟨sa, ha'⟩
          refine ⟨D, _, rfl, SqL.of ha', ?_⟩
          have hf' := sa _ _ hfl
          have htf' := sa _ _ (s79 _ _ htf)
          refine ⟨_, rfl, _, rfl, tf, fl, [sm, cy], vals bs g6, rfl, SqT.of htf', SqL.of hf', by omega, fun a ha => ?_, (by show 2 ≤ 1000; decide), fun H'' sb => ?_⟩
          · simp only [List.mem_cons, List.not_mem_nil, or_false] at ha
            rcases ha with rfl | rfl
            · obtain ⟨a0, a1⟩ := is6
              exact ⟨a0, by rw [vl]; omega⟩
            · obtain ⟨a0, a1⟩ := ic6
              exact ⟨a0, by rw [vl]; omega⟩
          have hf2 := sb _ _ hf'
          have htf2 := sb _ _ htf'
          have eV := v6 bs hE
          rw [← lv_ext ia st6.ext hE, ← lv_ext ib st6.ext hE, ← lv_ext ic st6.ext hE] at eV
          have eS : lit (vals bs g6) sm + 2 * lit (vals bs g6) cy = ((([a, b, c].map V.int).length |> fun n => ([a, b, c].take n)).map (lit (vals bs g6))).sum := by
            show lv g6 bs sm + 2 * lv g6 bs cy = lv g6 bs a + (lv g6 bs b + (lv g6 bs c + 0))
            omega
          refine ⟨_, rfl, goF rfl ?_⟩
          refine ⟨_, rfl, _, rfl, tf, _, _, _, rfl, rfl, SqT.of htf2, at_of (j := 0) rfl rfl, fl, vals bs g6, sm, rfl, SqL.of hf2, (toN sm is6).1, (toN sm is6).2, ?_⟩
          refine ⟨_, rfl, _, rfl, tf, _, _, _, rfl, rfl, SqT.of htf2, at_of (j := 1) rfl rfl, fl, vals bs g6, cy, rfl, SqL.of hf2, (toN cy ic6).1, (toN cy ic6).2, ?_⟩
          refine ⟨_, _, rfl, rfl, .inl ⟨by decide, by decide⟩, _, _, rfl, rfl, _, rfl, rfl, _, rfl, goF ?_ ⟨_, _, _, _, rfl, ((s8.trans s9).trans sa).trans sb⟩⟩
          rw [decide_eq_true (congrArg V.int eS)]
          rfl
      · rintro σ H8 ⟨x5, x6, x7, x8, rfl, s8⟩
        have s78 := s7.trans s8
        exact ⟨_, _, _, _, _, _, g6, rfl, But2.trans k46 (fun _ _ e _ _ => s78 _ _ e), f46.trans (Firm.of s78), We.BAt.same B6 s78, st6.ok, by omega⟩
    · rintro σ H5 ⟨x3, x4, x5, x6, x7, x8, gs, rfl, _⟩
      exact q H5
end
end Wk
namespace Wl
open PySem PySem.Spec PyProof.Rows L2 Pen Dat Ki Fi Gr No Lf Cn Bd Be Bf Bm Bo Bw Bx Wd Zp We Wf Wg Wh Wi Wj Wk Gd
def spLaw (K : PySem.W.Frag) : Sp := fun vs H Q _ => ∃ (a : Addr) (ns : List Int), vs = [.ref a] ∧ SqL K H a (ns.map V.int) ∧ ns.length ≤ 63 ∧ ∀ H', Q (.bl true) H'
/-- a drawn word of w literals over n leaves -/
def Wn (w n : Nat) (xs : List Int) : Prop := xs.length = w ∧ ∀ a ∈ xs, 0 ≤ a ∧ a < 2 + 2 * (n : Int)
theorem Wn.win {w n : Nat} {xs : List Int} (h : Wn w n xs) {gs : Gts} : WIn n gs xs := fun a ha => by
  obtain ⟨a0, a1⟩ := h.2 a ha
  exact ⟨a0, by omega⟩
theorem fresh_two {H : Hp} {y dy g : Addr} {B : Addr} (ny : H y = none) (nd : H dy = none) (h : upd (upd H dy (.own y)) y (.ins B dy []) g = none) : H g = none := by
  cases e : H g with
  | none => rfl
  | some u =>
    rw [upd_ne (ne_of_none e ny), upd_ne (ne_of_none e nd), e] at h
    cases h
theorem len1 {a : V} : [a].length ≤ sizeLine := (by decide : 1 ≤ sizeLine)
def seqL (s : Int) (w : Nat) : List Int := (List.range w).map fun (k : Nat) => 2 * (s + (k : Int))
theorem seqL_len {s : Int} {w : Nat} : (seqL s w).length = w := by
  unfold seqL
  rw [List.length_map, List.length_range]
theorem seqL_more {s : Int} {w : Nat} : seqL s (w + 1) = seqL s w ++ [2 * (s + (w : Int))] := by
  unfold seqL
  rw [List.range_succ, List.map_append]
  rfl
theorem seqL_wn {s : Int} {w n : Nat} (h0 : 0 ≤ s) (h1 : s + w ≤ n + 1) : Wn w n (seqL s w) := ⟨seqL_len, fun a ha => by
  obtain ⟨k, hk, rfl⟩ := List.mem_map.mp ha
  have := List.mem_range.mp hk
  omega⟩
theorem emod_of {m x z k : Int} (hm : 0 < m) (h0 : 0 ≤ x) (h1 : x < m) (e : x + m * k = z) : z % m = x := by
  rw [← e, Int.add_mul_emod_self_left, Int.emod_eq_of_lt h0 h1]
theorem ediv_of {m x z k : Int} (hm : 0 < m) (h0 : 0 ≤ x) (h1 : x < m) (e : x + m * k = z) : z / m = k := by
  rw [← e, Int.add_mul_ediv_left _ _ (Int.ne_of_gt hm), Int.ediv_eq_zero_of_lt h0 h1, Int.zero_add]
/-- the words that the law makes say what they must -/
theorem right_of {n w : Nat} {g0 g1 g2 g3 g4 g5 g6 : Gts} {xs ys told df pd ch : List Int} {c cy bl eq : Int} (hw : xs.length = w) (hy : ys.length = w) (wx : WIn n g0 xs) (wy : WIn n g0 ys) (wc : InN n g0 c)
    (x1 : Ext g0 g1) (x2 : Ext g1 g2) (x3 : Ext g2 g3) (x4 : Ext g3 g4) (x5 : Ext g4 g5) (x6 : Ext g5 g6) (w1 : WIn n g1 told) (t1 : told.length = w) (ic : InN n g1 cy) (w2 : WIn n g2 df) (t2 : df.length = w) (w3 : WIn n g3 pd) (t3 : pd.length = w) (i4 : InN n g4 bl) (i5 : InN n g5 eq) (w6 : WIn n g6 ch)
    (v1 : ∀ bs, Env n bs → wv g1 bs told + 2 ^ w * lv g1 bs cy = wv g0 bs xs + wv g0 bs ys + lv g0 bs c)
    (v2 : ∀ bs, Env n bs → ∃ k : Int, wv g2 bs df + 2 ^ w * k = wv g1 bs xs + 2 ^ w - wv g1 bs ys)
    (v3 : ∀ bs, Env n bs → ∃ k : Int, wv g3 bs pd + 2 ^ w * k = wv g2 bs xs * wv g2 bs ys)
    (v4 : ∀ bs, Env n bs → lv g4 bs bl = ltZ (wv g3 bs xs) (wv g3 bs ys)) (v5 : ∀ bs, Env n bs → lv g5 bs eq = eqZ (wv g4 bs xs) (wv g4 bs ys))
    (v6 : ∀ bs, Env n bs → wv g6 bs ch = if lv g5 bs c = 1 then wv g5 bs xs else wv g5 bs ys) : Right n g6 xs ys c [told, [cy], df, pd, [bl], [eq], ch] := by
  intro bs hb
  have y2 := x1.trans x2
  have y3 := y2.trans x3
  have y4 := y3.trans x4
  have y5 := y4.trans x5
  have y6 := y5.trans x6
  have z5 := x5.trans x6
  have z4 := x4.trans z5
  have z3 := x3.trans z4
  have z2 := x2.trans z3
  obtain ⟨k2, e2⟩ := v2 bs hb
  obtain ⟨k3, e3⟩ := v3 bs hb
  have e1 := v1 bs hb
  have e4 := v4 bs hb
  have e5 := v5 bs hb
  have e6 := v6 bs hb
  rw [wv_ext wx x1 hb, wv_ext wy x1 hb] at e2
  rw [wv_ext wx y2 hb, wv_ext wy y2 hb] at e3
  rw [wv_ext wx y3 hb, wv_ext wy y3 hb] at e4
  rw [wv_ext wx y4 hb, wv_ext wy y4 hb] at e5
  rw [wv_ext wx y5 hb, wv_ext wy y5 hb, lv_ext wc y5 hb] at e6
  have u1 := wv_lt (n := n) (gs := g1) (bs := bs) (w := told) hb
  have u2 := wv_lt (n := n) (gs := g2) (bs := bs) (w := df) hb
  have u3 := wv_lt (n := n) (gs := g3) (bs := bs) (w := pd) hb
  rw [t1] at u1
  rw [t2] at u2
  rw [t3] at u3
  have pm := p2_pos w
  show [wv g6 bs told, wv g6 bs [cy], wv g6 bs df, wv g6 bs pd, wv g6 bs [bl], wv g6 bs [eq], wv g6 bs ch] = dueZ (2 ^ xs.length) (wv g6 bs xs) (wv g6 bs ys) (lv g6 bs c)
  unfold dueZ
  rw [hw, wv_one, wv_one, wv_one, wv_ext w1 z2 hb, lv_ext ic z2 hb, wv_ext w2 z3 hb, wv_ext w3 z4 hb, lv_ext i4 z5 hb, lv_ext i5 x6 hb, wv_ext wx y6 hb, wv_ext wy y6 hb, lv_ext wc y6 hb,
    emod_of pm u1.1 u1.2 e1, ediv_of pm u1.1 u1.2 e1, emod_of pm u2.1 u2.2 e2, emod_of pm u3.1 u3.2 e3, e4, e5, e6]
theorem bitsN_more (m : Nat) (x : Int) : bitsN (m + 1) x = bitsN m x ++ [x / 2 ^ m % 2] := by
  unfold bitsN
  rw [List.range_succ, List.map_append]
  rfl
theorem bitsN_len {m : Nat} {x : Int} : (bitsN m x).length = m := by
  unfold bitsN
  rw [List.length_map, List.length_range]
theorem bitsN_01 {m : Nat} {x : Int} : B01 (bitsN m x) := fun z hz => by
  obtain ⟨k, _, rfl⟩ := List.mem_map.mp hz
  omega
theorem num_bitsN (n : Nat) : ∀ m : Nat, num (bitsN m (n : Int)) = ((n % 2 ^ m : Nat) : Int)
  | 0 => by
    rw [Nat.pow_zero, Nat.mod_one]
    rfl
  | m + 1 => by
    rw [bitsN_more, num_snoc, num_bitsN n m, bitsN_len, Nat.pow_succ, Nat.mod_mul]
    have e : (2 : Int) ^ m = ((2 ^ m : Nat) : Int) := (Int.natCast_pow 2 m).symm
    rw [e, ← Int.natCast_ediv, Int.natCast_add, Int.natCast_mul]
    rfl
theorem num_bits_of {m : Nat} {x : Int} (h0 : 0 ≤ x) (h1 : x < 2 ^ m) : num (bitsN m x) = x := by
  obtain ⟨n, rfl⟩ := Int.eq_ofNat_of_zero_le h0
  rw [num_bitsN, Nat.mod_eq_of_lt]
  have e : (2 : Int) ^ m = ((2 ^ m : Nat) : Int) := (Int.natCast_pow 2 m).symm
  rw [e] at h1
  exact Int.ofNat_lt.mp h1
theorem tup_eqvI (xs ys : List Int) : PyData.eqv (.tuple (xs.map .int)) (.tuple (ys.map .int)) = decide (xs = ys) := ints_eqv xs ys
theorem shT {m : Nat} {x : Int} : SeqAt.shaped (.tuple ((bitsN m x).map .int)) = true := (Rp.shaped_ints fun z hz => by
  have := bitsN_01 z hz
  unfold Rp.Small
  omega).2
theorem a2_back {β : Type} {R : V → β → Prop} : ∀ {xs : List V} {ys : List β} {i : Nat} {y : β}, All2 R xs ys → ys[i]? = some y → ∃ x, xs[i]? = some x ∧ R x y
  | _, _, 0, _, .cons r _, h => by
    cases h
    exact ⟨_, rfl, r⟩
  | _, _, i + 1, _, .cons _ t, h => a2_back (i := i) t h
structure Fw (K : PySem.W.Frag) (B : Addr) (H : Hp) (p c one other b gl sd wl ah : Addr) (m n w : Nat) (cv : Int) (xs ys : List Int) (ws : List V) (words : List (List Int)) (g1 gs : Gts) : Prop where
  pen : PenC H p c m
  h1 : SqT K H one (xs.map V.int)
  h2 : SqT K H other (ys.map V.int)
  bat : BAt K B H b gl sd (n : Int) gs
  ok : Gok n gs
  len : gs.length ≤ 900
  ah : GT K H ah g1
  ext : Ext g1 gs
  wl : H wl = some (.lst ws)
  ws : All2 (Tu K H) ws words
  lens : words.map List.length = [w, 1, w, w, 1, 1, w]
  win : ∀ wd ∈ words, WIn n gs wd
  rt : Right n gs xs ys cv words
theorem Fw.same {K : PySem.W.Frag} {B : Addr} {H H' : Hp} {p c one other b gl sd wl ah : Addr} {m n w : Nat} {cv : Int} {xs ys : List Int} {ws : List V} {words : List (List Int)} {g1 gs : Gts} (h : Fw K B H p c one other b gl sd wl ah m n w cv xs ys ws words g1 gs) (s : Same H H') : Fw K B H' p c one other b gl sd wl ah m n w cv xs ys ws words g1 gs :=
  ⟨h.pen.same s, seqT_same s h.h1, seqT_same s h.h2, We.BAt.same h.bat s, h.ok, h.len, h.ah.firm (Firm.of s), h.ext, s _ _ h.wl, h.ws.imp fun _ _ x => x.firm (Firm.of s), h.lens, h.win, h.rt⟩
section
variable {P : Program} {w : World} {K : PySem.W.Frag} {mg : Str → Option Value} {base : Heap} {f C B fA fG : Addr} {fd dA : FuncData}
abbrev nLaw : List Str := ["_law_script", "_law_pen_here", "_law_lap", "_law_width", "_law_leaves", "_law_k", "_law_one", "_law_other", "_law_literal", "_law_builder", "_law_c", "_law_word", "_law_carry", "_law_ahead", "_law_words", "_law_row", "_law_made", "_law_number_here", "_law_bits"]
theorem scLaw : FnScope nLaw ["_law_script"] (defScope sLaw) := ⟨rfl, rfl, rfl, by decide +kernel, rfl, by decide +kernel, by decide +kernel⟩
theorem ok_law {fX : Addr} {dX dG : FuncData} (F : FnP K "law" sLaw f fd) (T : Te K mg C B fA fG)
    (mkM : Mk K B fX) (GM : FnOk P w K mg base CX0 3 fX dX ["self", "leaves"] (spBInit K B)) (gM : mg "Builder" = some (.ref B)) (bM : Binds K dX ["self", "leaves"] [])
    (GG : FnOk P w K mg base CX0 6 fG dG ["self"] (spBGraph K C B)) (bG : Binds K dG ["self"] [])
    {fP fD fK fW fF fS fI fO fB fE fH fR fN fU fX fZ : Addr} {dP dD dK dW dF dS dI dO dB dE dH dR dN dU dX dZ : FuncData}
    (GP : FnOk P w K mg base CX0 1 fP dP ["_law_script"] (spPen K)) (gP : mg "_law_pen" = some (.ref fP)) (kP : PySem.W.keepIn K (.ref fP) = true) (bP : Binds K dP ["_law_script"] [])
    (GD : FnOk P w K mg base CX0 1 fD dD ["_law_pen_here", "_law_many"] (spDraw)) (gD : mg "_law_draw" = some (.ref fD)) (kD : PySem.W.keepIn K (.ref fD) = true) (bD : Binds K dD ["_law_pen_here", "_law_many"] [])
    (GK : FnOk P w K mg base CX0 2 fK dK ["_law_pen_here", "_law_some"] (spPick K)) (gK : mg "_law_pick" = some (.ref fK)) (kK : PySem.W.keepIn K (.ref fK) = true) (bK : Binds K dK ["_law_pen_here", "_law_some"] [])
    (GW : FnOk P w K mg base CX0 3 fW dW ["_law_pen_here", "_law_leaves", "_law_width"] (spWordOf)) (gW : mg "_law_word_of" = some (.ref fW)) (kW : PySem.W.keepIn K (.ref fW) = true) (bW : Binds K dW ["_law_pen_here", "_law_leaves", "_law_width"] [])
    (GF : FnOk P w K mg base CX0 1 fF dF ["_law_literal"] (spFlip)) (gF : mg "_law_flip" = some (.ref fF)) (kF : PySem.W.keepIn K (.ref fF) = true) (bF : Binds K dF ["_law_literal"] [])
    (GS : FnOk P w K mg base CX0 4 fS dS ["builder", "one", "other", "carry"] (spSum K B)) (gS : mg "summed" = some (.ref fS)) (kS : PySem.W.keepIn K (.ref fS) = true) (bS : Binds K dS ["builder", "one", "other", "carry"] [])
    (GI : FnOk P w K mg base CX0 5 fI dI ["builder", "one", "other"] (spDiff K B)) (gI : mg "difference" = some (.ref fI)) (kI : PySem.W.keepIn K (.ref fI) = true) (bI : Binds K dI ["builder", "one", "other"] [])
    (GO : FnOk P w K mg base CX0 5 fO dO ["builder", "one", "other"] (spProd K B)) (gO : mg "product" = some (.ref fO)) (kO : PySem.W.keepIn K (.ref fO) = true) (bO : Binds K dO ["builder", "one", "other"] [])
    (GB : FnOk P w K mg base CX0 4 fB dB ["builder", "one", "other"] (spOne K B 6 ltZ)) (gB : mg "is_below" = some (.ref fB)) (kB : PySem.W.keepIn K (.ref fB) = true) (bB : Binds K dB ["builder", "one", "other"] [])
    (GE : FnOk P w K mg base CX0 3 fE dE ["builder", "one", "other"] (spOne K B 4 eqZ)) (gE : mg "is_equal" = some (.ref fE)) (kE : PySem.W.keepIn K (.ref fE) = true) (bE : Binds K dE ["builder", "one", "other"] [])
    (GH : FnOk P w K mg base CX0 4 fH dH ["builder", "c", "one", "other"] (spChosen K B)) (gH : mg "chosen" = some (.ref fH)) (kH : PySem.W.keepIn K (.ref fH) = true) (bH : Binds K dH ["builder", "c", "one", "other"] [])
    (GR : FnOk P w K mg base CX0 8 fR dR ["_law_pen_here", "_law_leaves", "_law_words", "_law_made"] (spRight K B)) (gR : mg "_law_rows_right" = some (.ref fR)) (kR : PySem.W.keepIn K (.ref fR) = true) (bR : Binds K dR ["_law_pen_here", "_law_leaves", "_law_words", "_law_made"] [])
    (GN : FnOk P w K mg base CX0 2 fN dN ["width", "number"] (spNumB)) (gN : mg "number_word" = some (.ref fN)) (kN : PySem.W.keepIn K (.ref fN) = true) (bN : Binds K dN ["width", "number"] [])
    (GU : FnOk P w K mg base CX0 1 fU dU ["width", "number"] (spNumB)) (gU : mg "number_bits" = some (.ref fU)) (kU : PySem.W.keepIn K (.ref fU) = true) (bU : Binds K dU ["width", "number"] [])
    (GX : FnOk P w K mg base CX0 1 fX dX ["bits"] (spWordN K)) (gX : mg "word_number" = some (.ref fX)) (kX : PySem.W.keepIn K (.ref fX) = true) (bX : Binds K dX ["bits"] [])
    (GZ : FnOk P w K mg base CX0 8 fZ dZ ["_law_pen_here"] (spThree)) (gZ : mg "_law_three_right" = some (.ref fZ)) (kZ : PySem.W.keepIn K (.ref fZ) = true) (bZ : Binds K dZ ["_law_pen_here"] [])
    : FnG P w K mg base CX0 9 f fd ["_law_script"] (spLaw K) := by
  refine FnG.mk_of F scLaw (fun vs H Q E h => ?_) (fun cdv A outer s H vs Q E hg hr h => ?_)
  · obtain ⟨a, ns, rfl, _⟩ := h
    rfl
  · obtain ⟨a, ns, rfl, hS, hl, q⟩ := h
    have hu := hu_of hr
    refine ⟨_, PSs.nox (pss_cons (ps_set (i := 1) scLaw.nd rfl (Or.inr rfl) (pe_call GP (hr.mono (by decide)) (by rfl) gP kP bP .nil pass0 (pa_cons (pv 0) pa_nil)))
      (pss_cons (ps_for PassesOwn.never rfl (pi_range1 (by rfl) T.lf.range (pa_cons pe_int pa_nil)) (pg_name (i := 2) scLaw.nd rfl (Or.inl rfl))
        (C8.pss_cut (ps_set (i := 3) scLaw.nd rfl (Or.inr rfl) (pe_op op_add pe_int (pe_call GD (hr.mono (by decide)) (by rfl) gD kD bD .nil pass0 (pa_cons (pv 1) (pa_cons (pe_call GK (hr.mono (by decide)) (by rfl) gK kK bK .nil pass0 (pa_cons (pv 1) (pa_cons (pe_lst (pa_cons pe_int (pa_cons pe_int (pa_cons pe_int pa_nil)))) pa_nil))) pa_nil)))))
        (C8.pss_cut (ps_set (i := 4) scLaw.nd rfl (Or.inl rfl) (pe_op op_add (pe_op op_mul pe_int (pv 3)) pe_int))
        (pss_cons (ps_par (i := 6) (j := 7) rfl scLaw.nd rfl rfl (by decide) rfl rfl (pa_cons (pe_callTy (T := "tuple") (r := rTupOf K) (by exact call_tuple_of) (by rfl) T.lf.tuple (by decide +kernel) (pa_cons (pe_lc (own := [("_law_k", 5)]) (g := gName 5) (tt := tYes) rfl scLaw.nd (pi_range1 (by rfl) T.lf.range (pa_cons (pv 3) pa_nil)) (blkOk_by (N := nLaw) (sc := defScope sLaw) (by decide +kernel)) (fun _ _ _ _ _ => pg_name (i := 5) scLaw.nd rfl (Or.inl rfl)) (fun _ _ _ _ _ => pts_nil) (fun _ _ _ _ _ => (pe_op op_mul pe_int (pe_op op_add pe_int (pv 5))))) pa_nil)) (pa_cons (pe_callTy (T := "tuple") (r := rTupOf K) (by exact call_tuple_of) (by rfl) T.lf.tuple (by decide +kernel) (pa_cons (pe_lc (own := [("_law_k", 5)]) (g := gName 5) (tt := tYes) rfl scLaw.nd (pi_range1 (by rfl) T.lf.range (pa_cons (pv 3) pa_nil)) (blkOk_by (N := nLaw) (sc := defScope sLaw) (by decide +kernel)) (fun _ _ _ _ _ => pg_name (i := 5) scLaw.nd rfl (Or.inl rfl)) (fun _ _ _ _ _ => pts_nil) (fun _ _ _ _ _ => (pe_op op_mul pe_int (pe_op op_add (pe_op op_add pe_int (pv 3)) (pv 5))))) pa_nil)) pa_nil)) (by rfl))
        (C8.pss_cut (ps_if (pt_cmpR op_eq (pe_call GD (hr.mono (by decide)) (by rfl) gD kD bD .nil pass0 (pa_cons (pv 1) (pa_cons pe_int pa_nil))) pe_int (nomark _))
          (pss_one (ps_par (i := 6) (j := 7) rfl scLaw.nd rfl rfl (by decide) rfl rfl (pa_cons (pe_call GW (hr.mono (by decide)) (by rfl) gW kW bW .nil pass0 (pa_cons (pv 1) (pa_cons (pv 4) (pa_cons (pv 3) pa_nil)))) (pa_cons (pe_call GW (hr.mono (by decide)) (by rfl) gW kW bW .nil pass0 (pa_cons (pv 1) (pa_cons (pv 4) (pa_cons (pv 3) pa_nil)))) pa_nil)) (by rfl)))
          pss_nil)
        (C8.pss_cut (ps_if (pt_cmpR op_eq (pe_call GD (hr.mono (by decide)) (by rfl) gD kD bD .nil pass0 (pa_cons (pv 1) (pa_cons pe_int pa_nil))) pe_int (nomark _))
          (pss_one (ps_set (i := 7) scLaw.nd rfl (Or.inl rfl) (pe_call GK (hr.mono (by decide)) (by rfl) gK kK bK .nil pass0 (pa_cons (pv 1) (pa_cons (pe_lst (pa_cons (pv 6) (pa_cons (pe_callTy (T := "tuple") (r := rTupOf K) (by exact call_tuple_of) (by rfl) T.lf.tuple (by decide +kernel) (pa_cons (pe_lc (own := [("_law_literal", 8)]) (g := gName 8) (tt := tYes) rfl scLaw.nd (pi_tup (pv 6)) (blkOk_by (N := nLaw) (sc := defScope sLaw) (by decide +kernel)) (fun _ _ _ _ _ => pg_name (i := 8) scLaw.nd rfl (Or.inl rfl)) (fun _ _ _ _ _ => pts_nil) (fun _ _ _ _ _ => (pe_call GF (hr.mono (by decide)) (by rfl) gF kF bF .nil pass0 (pa_cons (pv 8) pa_nil)))) pa_nil)) pa_nil))) pa_nil)))))
          pss_nil)
        (C8.pss_cut (ps_par (i := 9) (j := 10) rfl scLaw.nd rfl rfl (by decide) rfl rfl (pa_cons (pe_make mkM GM (hr.mono (by decide)) (by rfl) gM bM .nil pass0 (pa_cons (pv 4) pa_nil)) (pa_cons (pe_call GK (hr.mono (by decide)) (by rfl) gK kK bK .nil pass0 (pa_cons (pv 1) (pa_cons (pe_lst (pa_cons pe_int (pa_cons pe_int (pa_cons (pe_op op_mul pe_int (pv 4)) (pa_cons (pe_op op_add (pe_op op_mul pe_int (pv 4)) pe_int) pa_nil))))) pa_nil))) pa_nil)) (by rfl))
        (pss_cons (ps_asg (pe_call GS (hr.mono (by decide)) (by rfl) gS kS bS .nil pass0 (pa_cons (pv 9) (pa_cons (pv 6) (pa_cons (pv 7) (pa_cons (pv 10) pa_nil))))) (pg_tup rfl (pgs_cons (pg_name (i := 11) scLaw.nd rfl (Or.inl rfl)) (pgs_cons (pg_name (i := 12) scLaw.nd rfl (Or.inl rfl)) pgs_nil))))
        (pss_cons (ps_set (i := 13) scLaw.nd rfl (Or.inl rfl) (pe_fld (pe_meth0 (pv 9) T.ty.t.cl T.mG GG (hr.mono (by decide)) bG .nil pass0) rfl))
        (pss_cons (ps_set (i := 14) scLaw.nd rfl (Or.inl rfl) (pe_lst (pa_cons (pv 11) (pa_cons (pe_tup (pa_cons (pv 12) pa_nil)) (pa_cons (pe_call GI (hr.mono (by decide)) (by rfl) gI kI bI .nil pass0 (pa_cons (pv 9) (pa_cons (pv 6) (pa_cons (pv 7) pa_nil)))) (pa_cons (pe_call GO (hr.mono (by decide)) (by rfl) gO kO bO .nil pass0 (pa_cons (pv 9) (pa_cons (pv 6) (pa_cons (pv 7) pa_nil)))) pa_nil))))))
        (pss_cons (ps_set (i := 14) scLaw.nd rfl (Or.inl rfl) (pe_op op_cat (pv 14) (pe_lst (pa_cons (pe_tup (pa_cons (pe_call GB (hr.mono (by decide)) (by rfl) gB kB bB .nil pass0 (pa_cons (pv 9) (pa_cons (pv 6) (pa_cons (pv 7) pa_nil)))) pa_nil)) (pa_cons (pe_tup (pa_cons (pe_call GE (hr.mono (by decide)) (by rfl) gE kE bE .nil pass0 (pa_cons (pv 9) (pa_cons (pv 6) (pa_cons (pv 7) pa_nil)))) pa_nil)) pa_nil)))))
        (C8.pss_cut (ps_expr (pe_bm PySem.F.plainAttrs_list PySem.F.slot_list_append PySem.F.type_list_append mt_append (pv 14) (pa_cons (pe_call GH (hr.mono (by decide)) (by rfl) gH kH bH .nil pass0 (pa_cons (pv 9) (pa_cons (pv 10) (pa_cons (pv 6) (pa_cons (pv 7) pa_nil))))) pa_nil)))
        (pss_cons (ps_if (pt_cmpR (op_neD hr.units) (pe_lc (own := [("_law_row", 15)]) (g := gName 15) (tt := tYes) rfl scLaw.nd (pi_list (pv 14)) (blkOk_by (N := nLaw) (sc := defScope sLaw) (by decide +kernel)) (fun _ _ _ _ _ => pg_name (i := 15) scLaw.nd rfl (Or.inl rfl)) (fun _ _ _ _ _ => pts_nil) (fun _ _ _ _ _ => (pe_callB (r := Bw.rLen K) (by exact call_len_seq) (by rfl) T.lf.pen.len PySem.boot_len (pa_cons (pv 15) pa_nil)))) (pe_lst (pa_cons (pv 3) (pa_cons pe_int (pa_cons (pv 3) (pa_cons (pv 3) (pa_cons pe_int (pa_cons pe_int (pa_cons (pv 3) pa_nil)))))))) (nomark _))
          (pss_one (ps_ret pe_bl))
          pss_nil)
        (pss_cons (ps_if (pt_cmpR (op_neD hr.units) (pe_slice sl_tupA (pe_fld (pe_meth0 (pv 9) T.ty.t.cl T.mG GG (hr.mono (by decide)) bG .nil pass0) rfl) po_none (po_some (pe_callB call_len_seq (by rfl) T.lf.pen.len PySem.boot_len (pa_cons (pv 13) pa_nil)))) (pv 13) (nomark _))
          (pss_one (ps_ret pe_bl))
          pss_nil)
        (pss_cons (ps_set (i := 16) scLaw.nd rfl (Or.inl rfl) (pe_disp (pps_cons pe_str (pv 9) (pps_cons pe_str (pv 14) (pps_cons pe_str (pe_callB (Tsm.cr_sumT rfl) (by rfl) T.sum (by decide +kernel) (pa_cons (pv 14) (pa_cons (pe_tup pa_nil) pa_nil))) pps_nil))) (by rfl) (by rfl) (fun z => by cases z) (by decide)))
        (pss_one (ps_if (pt_not (pt_val (pe_call GR (hr.mono (by decide)) (by rfl) gR kR bR .nil pass0 (pa_cons (pv 1) (pa_cons (pv 4) (pa_cons (pe_tup (pa_cons (pv 6) (pa_cons (pv 7) (pa_cons (pv 10) pa_nil)))) (pa_cons (pv 16) pa_nil)))))))
          (pss_one (ps_ret pe_bl))
          pss_nil)))))))))))))))))
      (C8.pss_cut (ps_set (i := 3) scLaw.nd rfl (Or.inr rfl) (pe_op op_add pe_int (pe_call GD (hr.mono (by decide)) (by rfl) gD kD bD .nil pass0 (pa_cons (pv 1) (pa_cons pe_int pa_nil)))))
      (C8.pss_cut (ps_set (i := 17) scLaw.nd rfl (Or.inr rfl) (pe_callB (cr_sum rfl) (by rfl) T.sum (by decide +kernel) (pa_cons (pe_lc (own := [("_law_k", 5)]) (g := gName 5) (tt := tYes) rfl scLaw.nd (pi_range1 (by rfl) T.lf.range (pa_cons (pv 3) pa_nil)) (blkOk_by (N := nLaw) (sc := defScope sLaw) (by decide +kernel)) (fun _ _ _ _ _ => pg_name (i := 5) scLaw.nd rfl (Or.inl rfl)) (fun _ _ _ _ _ => pts_nil) (fun _ _ _ _ _ => (pe_op op_shl (pe_call GD (hr.mono (by decide)) (by rfl) gD kD bD .nil pass0 (pa_cons (pv 1) (pa_cons pe_int pa_nil))) (pv 5)))) pa_nil)))
      (pss_cons (ps_set (i := 18) scLaw.nd rfl (Or.inl rfl) (pe_callTy (T := "tuple") (r := rTupOf K) (by exact call_tuple_of) (by rfl) T.lf.tuple (by decide +kernel) (pa_cons (pe_lc (own := [("_law_k", 5)]) (g := gName 5) (tt := tYes) rfl scLaw.nd (pi_range1 (by rfl) T.lf.range (pa_cons (pv 3) pa_nil)) (blkOk_by (N := nLaw) (sc := defScope sLaw) (by decide +kernel)) (fun _ _ _ _ _ => pg_name (i := 5) scLaw.nd rfl (Or.inl rfl)) (fun _ _ _ _ _ => pts_nil) (fun _ _ _ _ _ => (pe_op op_mod (pe_callTy call_int1 (by rfl) T.lf.pen.int (by decide +kernel) (pa_cons (pe_op op_shr (pv 17) (pv 5)) pa_nil)) pe_int))) pa_nil)))
      (pss_cons (ps_if (PW.pt (pw_or (pt_cmpR (op_neD hr.units) (pe_call GN (hr.mono (by decide)) (by rfl) gN kN bN .nil pass0 (pa_cons (pv 3) (pa_cons (pv 17) pa_nil))) (pv 18) (nomark _)) (pw_or (pt_cmpR (op_neD hr.units) (pe_call GU (hr.mono (by decide)) (by rfl) gU kU bU .nil pass0 (pa_cons (pv 3) (pa_cons (pv 17) pa_nil))) (pv 18) (nomark _)) (pw_or1 (pt_cmpR op_ne (pe_call GX (hr.mono (by decide)) (by rfl) gX kX bX .nil pass0 (pa_cons (pe_callTy call_list_of (by rfl) T.lf.pen.list (by decide +kernel) (pa_cons (pv 18) pa_nil)) pa_nil)) (pv 17) (nomark _))))))
        (pss_one (ps_ret pe_bl))
        pss_nil)
      (pss_one (ps_ret (pe_call GZ (hr.mono (by decide)) (by rfl) gZ kZ bZ .nil pass0 (pa_cons (pv 1) pa_nil)))))))))), ?_⟩
    refine ⟨_, rfl, a, ns, rfl, hS, hl, fun p c H1 np s1 P1 => ?_⟩
    refine ⟨3, rfl, by decide, by decide, for_range (lo := 0) (n := 3)
      (fun i σ H2 => ∃ x2 x3 x4 x5 x6 x7 x8 x9 x10 x11 x12 x13 x14 x15 x16 x17 x18 : Option V, σ = [some (.ref a), some (.ref p), x2, x3, x4, x5, x6, x7, x8, x9, x10, x11, x12, x13, x14, x15, x16, x17, x18] ∧ ∃ m, m ≤ 4100 * i ∧ PenC H2 p c m)
      ⟨none, none, none, none, none, none, none, none, none, none, none, none, none, none, none, none, none, rfl, 0, Nat.zero_le _, P1⟩ ?_ ?_⟩
    · rintro lap σ H2 hlap ⟨x2, x3, x4, x5, x6, x7, x8, x9, x10, x11, x12, x13, x14, x15, x16, x17, x18, rfl, m0, hm0, P2⟩
      refine ⟨fun σ H' => ∃ (w : Nat) (x2 x4 x5 x6 x7 x8 x9 x10 x11 x12 x13 x14 x15 x16 x17 x18 : Option V), σ = [some (.ref a), some (.ref p), x2, some (.int (w : Nat)), x4, x5, x6, x7, x8, x9, x10, x11, x12, x13, x14, x15, x16, x17, x18] ∧ 1 ≤ w ∧ w ≤ 10 ∧ PenC H' p c (m0 + 2), ?_, ?_⟩
      · refine ⟨_, rfl, _, rfl, (by show 3 ≤ sizeLine; decide), fun lb nlb => ?_⟩
        have P3 := P2.same (same_new (u := .lst [V.int 3, .int 3, .int 10]) nlb)
        refine ⟨p, c, lb, m0, _, rfl, P3, by omega, pen_lst P3 upd_same, SqL.of upd_same, (by show 0 < 3; decide), (by show 3 ≤ 1000; decide), fun v ii H4 hv P4 B4 => ?_⟩
        obtain ⟨z, rfl, z0, z1⟩ : ∃ z : Int, v = .int z ∧ 0 < z ∧ z ≤ 10 := by
          match ii, hv with
          | 0, hv => exact ⟨3, (Option.some.inj hv).symm, by decide, by decide⟩
          | 1, hv => exact ⟨3, (Option.some.inj hv).symm, by decide, by decide⟩
          | 2, hv => exact ⟨10, (Option.some.inj hv).symm, by decide, by decide⟩
          | ii + 3, hv => simp at hv
        refine ⟨p, c, m0 + 1, z, rfl, P4, by omega, z0, by omega, fun r H5 r0 r1 P5 B5 => ?_⟩
        obtain ⟨r, rfl⟩ := Int.eq_ofNat_of_zero_le r0
        exact ⟨_, _, rfl, rfl, 1 + r, _, _, _, _, _, _, _, _, _, _, _, _, _, _, _, _, rfl, by omega, by omega, P5⟩
      clear P2
      rintro σ H2 ⟨w, x2, x4, x5, x6, x7, x8, x9, x10, x11, x12, x13, x14, x15, x16, x17, x18, rfl, w1, w10, P2⟩
      refine ⟨fun σ H' => ∃ (x2 x5 x6 x7 x8 x9 x10 x11 x12 x13 x14 x15 x16 x17 x18 : Option V), σ = [some (.ref a), some (.ref p), x2, some (.int (w : Nat)), some (.int ((2 * w + 1 : Nat) : Nat)), x5, x6, x7, x8, x9, x10, x11, x12, x13, x14, x15, x16, x17, x18] ∧ PenC H' p c (m0 + 2), ?_, ?_⟩
      · exact ⟨_, rfl, _, _, rfl, rfl, .inl ⟨by decide, by decide⟩, _, _, rfl, rfl, _, _, _, _, _, _, _, _, _, _, _, _, _, _, _, rfl, P2⟩
      clear P2
      rintro σ H2 ⟨x2, x5, x6, x7, x8, x9, x10, x11, x12, x13, x14, x15, x16, x17, x18, rfl, P2⟩
      refine ⟨_, rfl, w, rfl, by omega, by omega, fun D nD => ?_⟩
      refine lc_range (lo := 0) (n := w) (fun i H' => Same H2 H' ∧ H' D = some (.lst ((seqL 1 i).map V.int))) ⟨same_new nD, upd_same⟩ ?_ ?_
      · rintro i H' hi ⟨s, h⟩
        refine ⟨rfl, yes_of ?_⟩
        refine ⟨_, rfl, _, _, rfl, rfl, _, _, rfl, rfl, .inl ⟨by decide, by decide⟩, _, h, ?_, fun o u e => ?_, ?_⟩
        · rw [List.length_map, seqL_len]
          exact Nat.lt_of_lt_of_le (by omega : i < 20) (by decide)
        · rw [upd_ne (ne_of_none e nD)]
          exact s _ _ e
        · rw [upd_same, seqL_more, List.map_append]
          show some (HO.lst (_ ++ [V.int (2 * (1 + (0 + (i : Int))))])) = _
          rw [Int.zero_add]
          rfl
      rintro H3 ⟨s3, h3⟩
      refine ⟨D, _, rfl, .inl ⟨SqL.of h3, fun one none1 => ?_⟩⟩
      generalize hX : upd H3 one _ = H4
      have s34 : Same H3 H4 := by
        rw [← hX]
        exact same_new none1
      have o4 := congrFun hX one
      rw [upd_same] at o4
      clear hX none1 h3
      have s24 := s3.trans s34
      refine ⟨_, rfl, w, rfl, by omega, by omega, fun D2 nD2 => ?_⟩
      refine lc_range (lo := 0) (n := w) (fun i H' => Same H4 H' ∧ H' D2 = some (.lst ((seqL (1 + w) i).map V.int))) ⟨same_new nD2, upd_same⟩ ?_ ?_
      · rintro i H' hi ⟨s, h⟩
        refine ⟨rfl, yes_of ?_⟩
        refine ⟨_, rfl, _, _, rfl, rfl, _, rfl, _, _, rfl, rfl, _, _, rfl, rfl, .inl ⟨by decide, by decide⟩, _, h, ?_, fun o u e => ?_, ?_⟩
        · rw [List.length_map, seqL_len]
          exact Nat.lt_of_lt_of_le (by omega : i < 20) (by decide)
        · rw [upd_ne (ne_of_none e nD2)]
          exact s _ _ e
        · rw [upd_same, seqL_more, List.map_append]
          show some (HO.lst (_ ++ [V.int (2 * (1 + (w : Int) + (0 + (i : Int))))])) = _
          rw [Int.zero_add]
          rfl
      rintro H5 ⟨s5, h5⟩
      refine ⟨D2, _, rfl, .inl ⟨SqL.of h5, fun other nother => ⟨_, _, rfl, ?_⟩⟩⟩
      generalize hX : upd H5 other _ = H6
      have s56 : Same H5 H6 := by
        rw [← hX]
        exact same_new nother
      have o6 := congrFun hX other
      rw [upd_same] at o6
      clear hX nother h5
      have s46 := s5.trans s56
      have P6 := P2.same (s24.trans s46)
      refine ⟨fun σ H' => ∃ (one other : Addr) (xs ys : List Int) (x2 x5 x8 x9 x10 x11 x12 x13 x14 x15 x16 x17 x18 : Option V), σ = [some (.ref a), some (.ref p), x2, some (.int (w : Nat)), some (.int ((2 * w + 1 : Nat) : Nat)), x5, some (.ref one), some (.ref other), x8, x9, x10, x11, x12, x13, x14, x15, x16, x17, x18] ∧ PenC H' p c (m0 + 43) ∧ SqT K H' one (xs.map V.int) ∧ SqT K H' other (ys.map V.int) ∧ Wn w (2 * w + 1) xs ∧ Wn w (2 * w + 1) ys, ?_, ?_⟩
      · have q1 : Wn w (2 * w + 1) (seqL 1 w) := seqL_wn (by omega) (by omega)
        have q2 : Wn w (2 * w + 1) (seqL (1 + w) w) := seqL_wn (by omega) (by omega)
        refine ⟨_, rfl, p, c, m0 + 2, 2, rfl, P6, by omega, by decide, by decide, fun r H7 r0 r2 P7 B7 => ?_⟩
        have f7 := Firm.pen B7 P6
        refine ⟨rfl, _, rfl, ite2 (fun _ => ?_) (fun _ => ?_)⟩
        · refine ⟨_, rfl, _, rfl, _, rfl, p, c, m0 + 2 + 1, 2 * w + 1, w, rfl, P7, by omega, by omega, by omega, fun H8 ta la P8 B8 la1 la2 ta1 => ?_⟩
          refine ⟨_, rfl, _, rfl, _, rfl, p, c, m0 + 2 + 1 + 2 * w, 2 * w + 1, w, rfl, P8, by omega, by omega, by omega, fun H9 tb lb P9 B9 lb1 lb2 tb1 => ⟨_, _, rfl, ?_⟩⟩
          exact ⟨ta, tb, la, lb, _, _, _, _, _, _, _, _, _, _, _, _, _, rfl, P9.more (by omega), SqT.of (Firm.pen B9 P8 _ _ ta1 rfl), SqT.of tb1, ⟨la1, la2⟩, ⟨lb1, lb2⟩⟩
        · exact ⟨one, other, _, _, _, _, _, _, _, _, _, _, _, _, _, _, _, rfl, P7.more (by omega), SqT.of (f7 _ _ (s46 _ _ o4.symm) rfl), SqT.of (f7 _ _ o6.symm rfl), q1, q2⟩
      clear P6 P2 o6 o4 s46 s24 s56 s34 s5 s3
      rintro σ H3 ⟨one, other, xs, ys, x2, x5, x8, x9, x10, x11, x12, x13, x14, x15, x16, x17, x18, rfl, P3, h1, h2, wx, wy⟩
      refine ⟨fun σ H' => ∃ (other : Addr) (ys : List Int) (x2 x5 x8 x9 x10 x11 x12 x13 x14 x15 x16 x17 x18 : Option V), σ = [some (.ref a), some (.ref p), x2, some (.int (w : Nat)), some (.int ((2 * w + 1 : Nat) : Nat)), x5, some (.ref one), some (.ref other), x8, x9, x10, x11, x12, x13, x14, x15, x16, x17, x18] ∧ PenC H' p c (m0 + 45) ∧ SqT K H' one (xs.map V.int) ∧ SqT K H' other (ys.map V.int) ∧ Wn w (2 * w + 1) ys, ?_, ?_⟩
      · refine ⟨_, rfl, p, c, m0 + 43, 5, rfl, P3, by omega, by decide, by decide, fun r H4 r0 r5 P4 B4 => ?_⟩
        have f4 := Firm.pen B4 P3
        have h14 := firm_seq f4 h1
        have h24 := firm_seq f4 h2
        refine ⟨rfl, _, rfl, ite2 (fun _ => ?_) (fun _ => ?_)⟩
        · refine ⟨_, rfl, _, rfl, _, rfl, one, rfl, ⟨_, h14⟩, fun D nD => ?_⟩
          refine lc_tup (K := K) (a := one) (xs := xs.map V.int) (fun i H' => Same H4 H' ∧ H' D = some (.lst (((xs.take i).map flp).map V.int))) ⟨same_new nD, upd_same⟩ (fun i H' _ ⟨s, _⟩ => seqT_same s h14) ?_ ?_
          · rintro i y1 H' hi ⟨s, h⟩
            obtain ⟨y, rfl, hy⟩ := int_get hi
            have hil : i < xs.length := (List.getElem?_eq_some_iff.mp hy).1
            have := wx.1
            refine ⟨rfl, yes_of ?_⟩
            refine ⟨_, rfl, y, rfl, _, h, ?_, fun o u e => ?_, ?_⟩
            · rw [List.length_map, List.length_map, List.length_take]
              exact Nat.lt_of_le_of_lt (Nat.min_le_left _ _) (Nat.lt_of_lt_of_le (by omega : i < 20) (by decide))
            · rw [upd_ne (ne_of_none e nD)]
              exact s _ _ e
            · rw [upd_same, take_more hy, List.map_append, List.map_append]
              rfl
          rintro H5 ⟨s5, h5⟩
          rw [List.length_map, List.take_length] at h5
          refine ⟨D, _, rfl, .inl ⟨SqL.of h5, fun tq ntq => ⟨len2, fun lb nlb => ?_⟩⟩⟩
          generalize hX : upd H5 tq _ = H6 at nlb ⊢
          have s56 : Same H5 H6 := by
            rw [← hX]
            exact same_new ntq
          have o6 := congrFun hX tq
          rw [upd_same] at o6
          clear hX
          have sb := same_new (u := .lst [V.ref one, .ref tq]) nlb
          have s47 := s5.trans (s56.trans sb)
          have P7 := P4.same s47
          refine ⟨p, c, lb, m0 + 43 + 1, _, rfl, P7, by omega, pen_lst P7 upd_same, SqL.of upd_same, (by show 0 < 2; decide), (by show 2 ≤ 1000; decide), fun v ii H8 hv P8 B8 => ?_⟩
          have f8 := Firm.pen B8 P7
          have wf : Wn w (2 * w + 1) (xs.map flp) := ⟨by rw [List.length_map]; exact wx.1, fun z hz => by
            obtain ⟨u, hu, rfl⟩ := List.mem_map.mp hz
            have := wx.2 u hu
            unfold flp
            omega⟩
          have h18 := firm_seq f8 (seqT_same s47 h14)
          match ii, hv with
          | 0, hv =>
            cases hv
            exact ⟨one, xs, _, _, _, _, _, _, _, _, _, _, _, _, _, rfl, P8, h18, h18, wx⟩
          | 1, hv =>
            cases hv
            exact ⟨tq, xs.map flp, _, _, _, _, _, _, _, _, _, _, _, _, _, rfl, P8, h18, SqT.of (f8 _ _ (sb _ _ o6.symm) rfl), wf⟩
          | ii + 2, hv => simp at hv
        · exact ⟨other, ys, _, _, _, _, _, _, _, _, _, _, _, _, _, rfl, P4.more (by omega), h14, h24, wy⟩
      clear P3 h1 h2 wy
      rintro σ H3 ⟨other, ys, x2, x5, x8, x9, x10, x11, x12, x13, x14, x15, x16, x17, x18, rfl, P3, h1, h2, wy⟩
      refine ⟨fun σ H' => ∃ (b gl sd : Addr) (cv : Int) (x2 x5 x8 x11 x12 x13 x14 x15 x16 x17 x18 : Option V), σ = [some (.ref a), some (.ref p), x2, some (.int (w : Nat)), some (.int ((2 * w + 1 : Nat) : Nat)), x5, some (.ref one), some (.ref other), x8, some (.ref b), some (.int cv), x11, x12, x13, x14, x15, x16, x17, x18] ∧ PenC H' p c (m0 + 46) ∧ SqT K H' one (xs.map V.int) ∧ SqT K H' other (ys.map V.int) ∧ BAt K B H' b gl sd ((2 * w + 1 : Nat) : Int) [] ∧ c ≠ gl ∧ InN (2 * w + 1) [] cv, ?_, ?_⟩
      · refine ⟨_, rfl, fun y dy ny nd _ => ?_⟩
        refine ⟨y, dy, ((2 * w + 1 : Nat) : Int), rfl, upd_same, by omega, fun H4 gl sd k4 hB4 hgl hsd => ⟨rfl, ?_⟩⟩
        have s4 : Same H3 H4 := Same.made ny nd k4
        have P4 := P3.same s4
        have hgl0 := fresh_two ny nd hgl
        have ncg : c ≠ gl := fun e => by
          obtain ⟨_, _, _, _, _, _, hc, _⟩ := P3
          rw [e, hgl0] at hc
          cases hc
        refine ⟨_, rfl, _, rfl, _, _, rfl, rfl, .inl ⟨by decide, by decide⟩, _, rfl, _, _, rfl, rfl, .inl ⟨by decide, by decide⟩, _, _, rfl, rfl, len4, fun lb nlb => ?_⟩
        have sb := same_new (u := .lst [V.int 0, .int 1, .int (2 * ((2 * w + 1 : Nat) : Int)), .int (2 * ((2 * w + 1 : Nat) : Int) + 1)]) nlb
        have P5 := P4.same sb
        refine ⟨p, c, lb, m0 + 45, _, rfl, P5, by omega, pen_lst P5 upd_same, SqL.of upd_same, (by show 0 < 4; decide), (by show 4 ≤ 1000; decide), fun v ii H6 hv P6 B6 => ⟨_, _, rfl, ?_⟩⟩
        have f6 := Firm.pen B6 P5
        have hB6 := BAt.but (We.BAt.same hB4 sb) P5 B6
        have h16 := firm_seq f6 (seqT_same (s4.trans sb) h1)
        have h26 := firm_seq f6 (seqT_same (s4.trans sb) h2)
        obtain ⟨z, rfl, z0, z1⟩ : ∃ z : Int, v = .int z ∧ 0 ≤ z ∧ z ≤ 2 * ((2 * w + 1 : Nat) : Int) + 1 := by
          match ii, hv with
          | 0, hv => exact ⟨0, (Option.some.inj hv).symm, by decide, by omega⟩
          | 1, hv => exact ⟨1, (Option.some.inj hv).symm, by decide, by omega⟩
          | 2, hv => exact ⟨_, (Option.some.inj hv).symm, by omega, by omega⟩
          | 3, hv => exact ⟨_, (Option.some.inj hv).symm, by omega, by omega⟩
          | ii + 4, hv => simp at hv
        exact ⟨y, gl, sd, z, _, _, _, _, _, _, _, _, _, _, _, rfl, P6, h16, h26, hB6, ncg, ⟨z0, by show z ≤ 2 * (((2 * w + 1 : Nat) : Int) + 0) + 1; omega⟩⟩
      clear P3 h1 h2
      rintro σ H3 ⟨b, gl, sd, cv, x2, x5, x8, x11, x12, x13, x14, x15, x16, x17, x18, rfl, P3, h1, h2, hB, ncg, icv⟩
      have lx : xs.length = w := wx.1
      have ly : ys.length = w := wy.1
      obtain ⟨nbp, nglp, nsdp, nsdc, nbgl, nbsd, nglsd⟩ := bat_pen hB P3
      refine ⟨_, rfl, _, rfl, _, rfl, _, rfl, b, gl, sd, one, other, 2 * w + 1, false, false, cv, xs, ys, [], rfl, hB, rfl, (by show 0 ≤ 1500; decide), wst_tup h1, wst_tup h2, by omega, by omega, wx.win, wy.win, icv, fun H4 t td g1 told cy k4 f4 B4 st4 tl4 w4 ic4 v4 ht4 htd4 => ?_⟩
      have l1 : g1.length ≤ 90 := by
        have := st4.len
        have e : ([] : Gts).length = 0 := rfl
        omega
      refine ⟨t, _, rfl, SqT.of ht4, rfl, _, _, rfl, _, _, rfl, rfl, ?_⟩
      obtain ⟨dx4, _, _, hb4, _⟩ := id B4
      refine ⟨_, rfl, b, dx4, _, rfl, hb4, lkG _ _ _, b, gl, sd, ((2 * w + 1 : Nat) : Int), g1, rfl, B4, by omega, by omega, st4.ok, fun H5 gx s5 G5 => ?_⟩
      obtain ⟨dg, ah, x1, hah⟩ := id G5
      refine ⟨gx, C, dg, _, _, rfl, x1, T.gr.cl, T.gr.nG, flds_G _ _, _, rfl, ?_⟩
      have B5 := We.BAt.same B4 s5
      have h15 := seqT_same s5 (firm_seq f4 h1)
      have h25 := seqT_same s5 (firm_seq f4 h2)
      refine ⟨_, rfl, len1, fun tc ntc => ?_⟩
      generalize hX : upd H5 tc _ = H6
      have s6 : Same H5 H6 := by
        rw [← hX]
        exact same_new ntc
      have o6 := congrFun hX tc
      rw [upd_same] at o6
      clear hX
      have B6 := We.BAt.same B5 s6
      refine ⟨_, rfl, _, rfl, _, rfl, b, gl, sd, one, other, 2 * w + 1, xs, ys, g1, rfl, B6, st4.ok, by omega, seqT_same s6 h15, seqT_same s6 h25, by omega, by omega, wx.win, wy.win, fun H7 t7 g2 df k7 f7 B7 st7 tl7 w7 v7 ht7 => ?_⟩
      have l2 := st7.len
      have h17 := firm_seq f7 (seqT_same s6 h15)
      have h27 := firm_seq f7 (seqT_same s6 h25)
      refine ⟨_, rfl, _, rfl, _, rfl, b, gl, sd, one, other, 2 * w + 1, xs, ys, g2, rfl, B7, st7.ok, by omega, h17, h27, by omega, by omega, wx.win, wy.win, fun H8 t8 g3 pd k8 f8 B8 st8 tl8 w8 v8 ht8 => ⟨len4, fun lw nlw => ?_⟩⟩
      have l3 := st8.len
      rw [lx] at l3
      have t550 := tri_550 w w10
      generalize hX : upd H8 lw _ = H9
      have s9 : Same H8 H9 := by
        rw [← hX]
        exact same_new nlw
      have o9 := congrFun hX lw
      rw [upd_same] at o9
      clear hX
      have B9 := We.BAt.same B8 s9
      have h19 := seqT_same s9 (firm_seq f8 h17)
      have h29 := seqT_same s9 (firm_seq f8 h27)
      refine ⟨_, rfl, _, rfl, _, rfl, _, rfl, b, gl, sd, one, other, 2 * w + 1, xs, ys, g3, rfl, B9, st8.ok, by omega, h19, h29, by omega, by omega, wx.win, wy.win, fun H10 g4 bl k10 f10 B10 st10 i10 v10 => ⟨len1, fun tb ntb => ?_⟩⟩
      have l4 := st10.len
      generalize hX : upd H10 tb _ = H11
      have s11 : Same H10 H11 := by
        rw [← hX]
        exact same_new ntb
      have o11 := congrFun hX tb
      rw [upd_same] at o11
      clear hX
      have B11 := We.BAt.same B10 s11
      have h1b := seqT_same s11 (firm_seq f10 h19)
      have h2b := seqT_same s11 (firm_seq f10 h29)
      refine ⟨_, rfl, _, rfl, _, rfl, b, gl, sd, one, other, 2 * w + 1, xs, ys, g4, rfl, B11, st10.ok, by omega, h1b, h2b, by omega, by omega, wx.win, wy.win, fun H12 g5 eq k12 f12 B12 st12 i12 v12 => ⟨len1, fun te nte => ⟨len2, fun l2a nl2a => ?_⟩⟩⟩
      have l5 := st12.len
      generalize hX : upd H12 te _ = H13 at nl2a ⊢
      have s13 : Same H12 H13 := by
        rw [← hX]
        exact same_new nte
      have o13 := congrFun hX te
      rw [upd_same] at o13
      clear hX
      generalize hX : upd H13 l2a _ = H14
      have s14 : Same H13 H14 := by
        rw [← hX]
        exact same_new nl2a
      have o14 := congrFun hX l2a
      rw [upd_same] at o14
      clear hX
      have B13 := We.BAt.same B12 s13
      have B14 := We.BAt.same B13 s14
      obtain ⟨_, _, _, _, hg8, _, hs8, _⟩ := id B8
      have lwg : lw ≠ gl := fun e => by
        rw [e, hg8] at nlw
        cases nlw
      have lws : lw ≠ sd := fun e => by
        rw [e, hs8] at nlw
        cases nlw
      have hlw14 := s14 _ _ (s13 _ _ (k12 _ _ (s11 _ _ (k10 _ _ o9.symm lwg lws)) lwg lws))
      refine ⟨lw, l2a, _, _, rfl, rfl, hlw14, o14.symm, (by show 4 + 2 ≤ sizeLine; decide), fun l3a nl3a => ?_⟩
      generalize hX : upd H14 l3a _ = H15
      have s15 : Same H14 H15 := by
        rw [← hX]
        exact same_new nl3a
      have o15 := congrFun hX l3a
      rw [upd_same] at o15
      clear hX hlw14
      have B15 := We.BAt.same B14 s15
      obtain ⟨_, _, _, hbb, hg14, _, hs14, _⟩ := id B14
      have wlg : l3a ≠ gl := fun e => by
        rw [e, hg14] at nl3a
        cases nl3a
      have wls : l3a ≠ sd := fun e => by
        rw [e, hs14] at nl3a
        cases nl3a
      have wlb : b ≠ l3a := fun e => by
        rw [← e, hbb] at nl3a
        cases nl3a
      have k35 : But2 gl sd H3 H15 := fun o u e n1 n2 => s15 _ _ (s14 _ _ (s13 _ _ (k12 _ _ (s11 _ _ (k10 _ _ (s9 _ _ (k8 _ _ (k7 _ _ (s6 _ _ (s5 _ _ (k4 _ _ e n1 n2))) n1 n2) n1 n2)) n1 n2)) n1 n2)))
      have k34 : But2 gl sd H3 H14 := fun o u e n1 n2 => s14 _ _ (s13 _ _ (k12 _ _ (s11 _ _ (k10 _ _ (s9 _ _ (k8 _ _ (k7 _ _ (s6 _ _ (s5 _ _ (k4 _ _ e n1 n2))) n1 n2) n1 n2)) n1 n2)) n1 n2))
      obtain ⟨n3p, n3c⟩ := (PenC.but2 P3 k34 (Ne.symm nglp) (Ne.symm nsdp) ncg (Ne.symm nsdc)).free nl3a
      have P15 : PenC H15 p c (m0 + 46) := PenC.but2 P3 k35 (Ne.symm nglp) (Ne.symm nsdp) ncg (Ne.symm nsdc)
      have f1315 : Firm H12 H15 := (Firm.of s13).trans ((Firm.of s14).trans (Firm.of s15))
      have f1315' : Firm H13 H15 := (Firm.of s14).trans (Firm.of s15)
      have f1115 : Firm H10 H15 := (Firm.of s11).trans (f12.trans f1315)
      have f1115' : Firm H11 H15 := f12.trans f1315
      have f815 : Firm H8 H15 := (Firm.of s9).trans (f10.trans f1115)
      have f715 : Firm H7 H15 := f8.trans f815
      have f615 : Firm H6 H15 := f7.trans f715
      have f415 : Firm H4 H15 := (Firm.of s5).trans ((Firm.of s6).trans f615)
      have h115 := firm_seq ((f12.trans f1315)) h1b
      have h215 := firm_seq ((f12.trans f1315)) h2b
      have htd15 := f415 _ _ htd4 rfl
      have htc15 := f615 _ _ o6.symm rfl
      have ht715 := f715 _ _ ht7 rfl
      have ht815 := f815 _ _ ht8 rfl
      have htb15 := f1115' _ _ o11.symm rfl
      have hte15 := f1315' _ _ o13.symm rfl
      refine ⟨fun σ H' => ∃ (ah wl : Addr) (ws : List V) (words : List (List Int)) (g1 gs : Gts) (x2 x5 x8 x11 x12 x15 x16 x17 x18 : Option V), σ = [some (.ref a), some (.ref p), x2, some (.int (w : Nat)), some (.int ((2 * w + 1 : Nat) : Nat)), x5, some (.ref one), some (.ref other), x8, some (.ref b), some (.int cv), x11, x12, some (.ref ah), some (.ref wl), x15, x16, x17, x18] ∧ Fw K B H' p c one other b gl sd wl ah (m0 + 46) (2 * w + 1) w cv xs ys ws words g1 gs, ?_, ?_⟩
      · refine ⟨_, rfl, .inl ⟨rfl, _, SqL.of o15.symm⟩, _, rfl, _, rfl, _, rfl, _, rfl, b, gl, sd, one, other, 2 * w + 1, cv, xs, ys, g5, rfl, B15, st12.ok, by omega, h115, h215, by omega, by omega, inx icv (st4.ext.trans (st7.ext.trans (st8.ext.trans (st10.ext.trans st12.ext)))), wx.win, wy.win, fun H16 tch g6 ch k16 f16 B16 st16 tl16 w16 v16 ht16 => ?_⟩
        have l6 := st16.len
        have o16 := k16 _ _ o15.symm wlg wls
        refine ⟨l3a, _, _, rfl, rfl, o16, (by show 6 < sizeLine; decide), ?_⟩
        have P16 := PenC.but2 P15 k16 (Ne.symm nglp) (Ne.symm nsdp) ncg (Ne.symm nsdc)
        generalize hX : upd H16 l3a _ = H17
        have f17 : Firm H16 H17 := by
          rw [← hX]
          exact Firm.upd o16 rfl
        have o17 := congrFun hX l3a
        rw [upd_same] at o17
        have n17 : ∀ o u, o ≠ l3a → H16 o = some u → H17 o = some u := fun o u ne e => by
          rw [← hX, upd_ne ne]
          exact e
        have P17 : PenC H17 p c (m0 + 46) := by
          rw [← hX]
          exact P16.upd n3p n3c
        clear hX
        have f157 := f16.trans f17
        refine ⟨ah, l3a, [.ref td, .ref tc, .ref t7, .ref t8, .ref tb, .ref te, .ref tch], [told, [cy], df, pd, [bl], [eq], ch], g1, g6, _, _, _, _, _, _, _, _, _, rfl, ⟨P17, firm_seq f157 h115, firm_seq f157 h215, BAt.keep B16 f17 (fun o => n17 b o wlb) (fun o => n17 gl o (Ne.symm wlg)) (fun o => n17 sd o (Ne.symm wls)), st16.ok, by omega, hah.firm ((Firm.of s6).trans (f615.trans f157)), st7.ext.trans (st8.ext.trans (st10.ext.trans (st12.ext.trans st16.ext))), o17.symm,
          .cons ⟨td, rfl, f157 _ _ htd15 rfl⟩ (.cons ⟨tc, rfl, f157 _ _ htc15 rfl⟩ (.cons ⟨t7, rfl, f157 _ _ ht715 rfl⟩ (.cons ⟨t8, rfl, f157 _ _ ht815 rfl⟩ (.cons ⟨tb, rfl, f157 _ _ htb15 rfl⟩ (.cons ⟨te, rfl, f157 _ _ hte15 rfl⟩ (.cons ⟨tch, rfl, f17 _ _ ht16 rfl⟩ .nil)))))), ?_, ?_, ?_⟩⟩
        · show [told.length, 1, df.length, pd.length, 1, 1, ch.length] = _
          rw [tl4, tl7, tl8, tl16, lx]
        · intro wd hwd
          simp only [List.mem_cons, List.not_mem_nil, or_false] at hwd
          have z5 := st12.ext.trans st16.ext
          have z4 := st10.ext.trans z5
          have z3 := st8.ext.trans z4
          have z2 := st7.ext.trans z3
          rcases hwd with rfl | rfl | rfl | rfl | rfl | rfl | rfl
          · exact w4.ext z2
          · exact win_one (inx ic4 z2)
          · exact w7.ext z3
          · exact w8.ext z4
          · exact win_one (inx i10 z5)
          · exact win_one (inx i12 st16.ext)
          · exact w16
        · exact right_of lx ly wx.win wy.win icv st4.ext st7.ext st8.ext st10.ext st12.ext st16.ext w4 (tl4.trans lx) ic4 w7 (tl7.trans lx) w8 (tl8.trans lx) i10 i12 w16 (fun bs hb => by have := v4 bs hb; rwa [lx] at this) (fun bs hb => by have := v7 bs hb; rwa [lx] at this) (fun bs hb => by have := v8 bs hb; rwa [lx] at this) v10 v12 v16
      clear P3 h1 h2 hB B4 B5 B6 B7 B8 B9 B10 B11 B12 B13 B14 B15 P15 h15 h25 h17 h27 h19 h29 h1b h2b h115 h215 st4 st7 st8 st10 st12 v4 v7 v8 v10 v12 o6 o9 o11 o13 o14 o15 k35 f1315 f1315' f1115 f1115' f815 f715 f615 f415 htd15 htc15 ht715 ht815 htb15 hte15 s5 s6 s9 s11 s13 s14 s15 f4 f7 f8 f10 f12 k4 k7 k8 k10 k12 n3p n3c
      rintro σ H4 ⟨ah, wl, ws, words, g1, gs, x2, x5, x8, x11, x12, x15, x16, x17, x18, rfl, F4⟩
      refine ⟨_, rfl, wl, rfl, ⟨_, SqL.of F4.wl⟩, fun D nD => ?_⟩
      refine lc_list (K := K) (a := wl) (xs := ws) (fun i H' => Same H4 H' ∧ H' D = some (.lst (((words.take i).map fun z => ((z.length : Nat) : Int)).map V.int))) ⟨same_new nD, upd_same⟩ (fun i H' _ ⟨s, _⟩ => SqL.of (s _ _ F4.wl)) ?_ ?_
      · rintro i y1 H' hi ⟨s, h⟩
        obtain ⟨wd, hwd, qa, rfl, hqa⟩ := F4.ws.get hi
        have hil : i < words.length := (List.getElem?_eq_some_iff.mp hwd).1
        have l7 : words.length = 7 := by
          have := congrArg List.length F4.lens
          rwa [List.length_map] at this
        refine ⟨rfl, yes_of ?_⟩
        refine ⟨_, rfl, qa, _, rfl, .inr (SqT.of (s _ _ hqa)), _, h, ?_, fun o u e => ?_, ?_⟩
        · rw [List.length_map, List.length_map, List.length_take]
          exact Nat.lt_of_le_of_lt (Nat.min_le_left _ _) (Nat.lt_of_lt_of_le (by omega : i < 20) (by decide))
        · rw [upd_ne (ne_of_none e nD)]
          exact s _ _ e
        · rw [upd_same, take_more hwd, List.map_append, List.map_append, List.length_map]
          rfl
      rintro H5 ⟨s5, h5⟩
      rw [F4.ws.len, List.take_length, show (words.map fun z => ((z.length : Nat) : Int)) = ([w, 1, w, w, 1, 1, w] : List Nat).map (fun (z : Nat) => (z : Int)) by rw [← F4.lens, List.map_map]; rfl] at h5
      refine ⟨_, rfl, _, rfl, _, rfl, _, rfl, (by show 7 ≤ sizeLine; decide), fun lb nlb => ?_⟩
      generalize hX : upd H5 lb _ = H6
      have s6 : Same H5 H6 := by
        rw [← hX]
        exact same_new nlb
      have o6 := congrFun hX lb
      rw [upd_same] at o6
      have o6' : H6 lb = some (.lst ((([w, 1, w, w, 1, 1, w] : List Nat).map (fun (z : Nat) => (z : Int))).map V.int)) := o6.symm
      clear hX o6
      refine ⟨_, _, lst_dp (s6 _ _ h5), lst_dp o6', shL _, shL _, _, rfl, goF (by rw [list_eqv, decide_eq_true rfl]; rfl) ?_⟩
      have F6 := F4.same (s5.trans s6)
      clear F4 h5 o6' s5 s6 nlb nD
      obtain ⟨dx6, _, _, hb6, _⟩ := id F6.bat
      have g900 := F6.len
      refine ⟨_, rfl, b, dx6, _, rfl, hb6, lkG _ _ _, b, gl, sd, ((2 * w + 1 : Nat) : Int), gs, rfl, F6.bat, by omega, by omega, F6.ok, fun H7 gx s7 G7 => ?_⟩
      obtain ⟨dg, ag, x7, hag⟩ := id G7
      obtain ⟨vg, hvg, avg⟩ := id hag
      have F7 := F6.same s7
      obtain ⟨va, hva, ava⟩ := id F7.ah
      obtain ⟨gx2, egx⟩ := F7.ext
      have lg1 : g1.length ≤ gs.length := by
        rw [egx, List.length_append]
        omega
      have etk : gs.take g1.length = g1 := by rw [egx, List.take_left]
      refine ⟨gx, C, dg, _, _, rfl, x7, T.gr.cl, T.gr.nG, flds_G _ _, _, rfl, ah, _, rfl, .inr hva, _, rfl, ?_⟩
      rw [ava.len]
      refine cut_any (m := g1.length) rfl hvg (by rw [avg.len]; exact lg1) fun tk H8 s8 htk => ?_
      have ak := (avg.imp fun _ _ h => h.firm (Firm.of s8)).take g1.length
      rw [etk] at ak
      have F8 := F7.same s8
      obtain ⟨va8, hva8, ava8⟩ := id F8.ah
      have e9 : (!PyData.eqv (Fi.gD g1) (Fi.gD g1)) = false := by
        rw [SeqAt.eqv_refl (Fi.gD g1) (can_pD g1)]
        rfl
      refine ⟨_, rfl, Fi.gD g1, Fi.gD g1, .tup htk (pts_dp ak), .tup hva8 (pts_dp ava8), shaped_gD g1, shaped_gD g1, _, rfl, goF e9 ?_⟩
      clear F6 F7 G7 hag hvg avg hva ava x7 htk ak hva8 ava8 s7 s8 e9 hb6
      have l7 : words.length = 7 := by
        have := congrArg List.length F8.lens
        rwa [List.length_map] at this
      have lw10 : ∀ z ∈ words, z.length ≤ 10 := fun z hz => by
        have := List.mem_map_of_mem (f := List.length) hz
        rw [F8.lens] at this
        simp only [List.mem_cons, List.not_mem_nil, or_false] at this
        omega
      have ln1 : ∀ z ∈ words, 1 ≤ z.length := fun z hz => by
        have := List.mem_map_of_mem (f := List.length) hz
        rw [F8.lens] at this
        simp only [List.mem_cons, List.not_mem_nil, or_false] at this
        omega
      intro md nmd
      obtain ⟨nmdp, _⟩ := F8.pen.free nmd
      generalize hX : upd H8 md _ = H9
      have s9 : Same H8 H9 := by
        rw [← hX]
        exact same_new nmd
      have o9 := congrFun hX md
      rw [upd_same] at o9
      clear hX
      refine ⟨_, rfl, _, rfl, _, rfl, (by show 0 ≤ sizeLine; decide), fun t0 nt0 => ?_⟩
      generalize hX : upd H9 t0 _ = H10
      have s10 : Same H9 H10 := by
        rw [← hX]
        exact same_new nt0
      have o10 := congrFun hX t0
      rw [upd_same] at o10
      clear hX
      have F10 := F8.same (s9.trans s10)
      have eflat : (words.map fun z => z.map V.int).flatten = words.flatten.map V.int := List.map_flatten.symm
      refine ⟨wl, t0, ws, words.map (fun z => z.map V.int), rfl, SqL.of F10.wl, SqT.of o10.symm, by rw [List.length_map, l7]; decide, by rw [List.length_map, F10.ws.len], fun i r hi => ?_, ?_, fun al nal => ?_⟩
      · rw [List.getElem?_map] at hi
        cases hz : words[i]? with
        | none =>
          rw [hz] at hi
          cases hi
        | some z =>
          rw [hz] at hi
          cases hi
          obtain ⟨v, hv, qa, rfl, hqa⟩ := a2_back F10.ws hz
          refine ⟨qa, hv, SqT.of hqa, fun e => ?_⟩
          have := ln1 z (List.mem_of_getElem? hz)
          have e2 := congrArg List.length e
          rw [List.length_map] at e2
          simp at e2
          rw [e2] at this
          simp at this
      · rw [eflat, List.length_map, List.length_flatten, F10.lens]
        exact Nat.le_trans (by simp only [List.sum_cons, List.sum_nil]; omega : [w, 1, w, w, 1, 1, w].sum ≤ 50) (by decide)
      generalize hX : upd H10 al _ = H11
      have s11 : Same H10 H11 := by
        rw [← hX]
        exact same_new nal
      have o11 := congrFun hX al
      rw [upd_same] at o11
      clear hX
      refine ⟨s11 _ _ (s10 _ _ o9.symm), madeD b wl al, rfl, (by show 3 ≤ 15; decide), ?_⟩
      generalize hX : upd H11 md _ = H12
      have k12 : ∀ o u, o ≠ md → H11 o = some u → H12 o = some u := fun o u ne e => by
        rw [← hX, upd_ne ne]
        exact e
      have o12 := congrFun hX md
      rw [upd_same] at o12
      clear hX
      have s12 : Same H8 H12 := fun o u e => k12 _ _ (ne_of_none e nmd) (s11 _ _ (s10 _ _ (s9 _ _ e)))
      have nalm : al ≠ md := fun e => by
        rw [e, s10 _ _ o9.symm] at nal
        cases nal
      have hal12 := k12 _ _ nalm o11.symm
      have F12 := F8.same s12
      clear F8 F10 s9 s10 s11 o9 o10 o11 nt0 nal nmd
      refine ⟨_, rfl, _, rfl, _, rfl, _, rfl, _, rfl, (by show 3 ≤ sizeLine; decide), fun wt nwt => ?_⟩
      generalize hX : upd H12 wt _ = H13
      have s13 : Same H12 H13 := by
        rw [← hX]
        exact same_new nwt
      have o13 := congrFun hX wt
      rw [upd_same] at o13
      clear hX
      have F13 := F12.same s13
      rw [eflat] at hal12
      refine ⟨_, rfl, p, c, wt, md, one, other, b, gl, sd, wl, al, m0 + 46, 2 * w + 1, cv, xs, ys, ws, words, gs, rfl, F13.pen, by omega, by omega, SqT.of o13.symm, F13.h1, F13.h2, s13 _ _ o12.symm, nmdp, F13.bat, F13.ok, by have := F13.len; omega, F13.wl, F13.ws, SqT.of (s13 _ _ hal12), wx.win, wy.win, inx icv ⟨gs, rfl⟩, fun z hz => ⟨F13.win z hz, by have := lw10 z hz; omega⟩, by omega, by omega, by omega, F13.rt, fun H14 P14 B14 => ⟨_, rfl, goF rfl ?_⟩⟩
      exact ⟨_, _, _, _, _, _, _, _, _, _, _, _, _, _, _, _, _, rfl, m0 + 46 + 64 * 61, by omega, P14⟩
    · rintro σ H2 ⟨x2, x3, x4, x5, x6, x7, x8, x9, x10, x11, x12, x13, x14, x15, x16, x17, x18, rfl, m2, hm2, P2⟩
      refine ⟨fun σ H' => ∃ (w : Nat) (x2 x4 x5 x6 x7 x8 x9 x10 x11 x12 x13 x14 x15 x16 x17 x18 : Option V), σ = [some (.ref a), some (.ref p), x2, some (.int (w : Nat)), x4, x5, x6, x7, x8, x9, x10, x11, x12, x13, x14, x15, x16, x17, x18] ∧ w ≤ 64 ∧ PenC H' p c (m2 + 1), ?_, ?_⟩
      · refine ⟨_, rfl, p, c, m2, 64, rfl, P2, by omega, by decide, by decide, fun r H3 r0 r1 P3 B3 => ?_⟩
        obtain ⟨r, rfl⟩ := Int.eq_ofNat_of_zero_le r0
        exact ⟨_, _, rfl, rfl, 1 + r, _, _, _, _, _, _, _, _, _, _, _, _, _, _, _, _, rfl, by omega, P3⟩
      clear P2
      rintro σ H2 ⟨w, x2, x4, x5, x6, x7, x8, x9, x10, x11, x12, x13, x14, x15, x16, x17, x18, rfl, w64, P2⟩
      refine ⟨fun σ H' => ∃ (N : Int) (x2 x4 x5 x6 x7 x8 x9 x10 x11 x12 x13 x14 x15 x16 x18 : Option V), σ = [some (.ref a), some (.ref p), x2, some (.int (w : Nat)), x4, x5, x6, x7, x8, x9, x10, x11, x12, x13, x14, x15, x16, some (.int N), x18] ∧ 0 ≤ N ∧ N < 2 ^ w ∧ PenC H' p c (m2 + 1 + w), ?_, ?_⟩
      · refine ⟨_, rfl, w, rfl, by omega, by omega, fun D nD => ?_⟩
        obtain ⟨Dp, Dc⟩ := P2.free nD
        refine lc_range (lo := 0) (n := w) (fun i H' => PenC H' p c (m2 + 1 + i) ∧ ∃ (bs zs : List Int), B01 bs ∧ bs.length = i ∧ H' D = some (.lst (zs.map V.int)) ∧ zs.length = i ∧ zs.sum = num bs) ⟨P2.same (same_new nD), [], [], (fun z h => by cases h), rfl, upd_same, rfl, rfl⟩ ?_ ?_
        · rintro i H' hi ⟨P3, bs, zs, b01, lb, h3, lz, ez⟩
          refine ⟨rfl, yes_of ?_⟩
          refine ⟨_, rfl, p, c, m2 + 1 + i, 2, rfl, P3, by omega, by decide, by decide, fun r H4 r0 r1 P4 B4 => ?_⟩
          have r01 : r = 0 ∨ r = 1 := by omega
          have h4 := B4 _ _ h3 Dp
          have et : (0 + (i : Int)).toNat = i := by omega
          refine ⟨_, rfl, _, _, rfl, rfl, ⟨by omega, by omega, by rcases r01 with e | e <;> rw [e] <;> decide⟩, _, h4, ?_, P4.upd Dp Dc, bs ++ [r], zs ++ [r * 2 ^ (0 + (i : Int)).toNat], fun z hz => ?_, by rw [List.length_append, lb]; rfl, ?_, by rw [List.length_append, lz]; rfl, ?_⟩
          · rw [List.length_map, lz]
            exact Nat.lt_of_lt_of_le (by omega : i < 100) (by decide)
          · rcases List.mem_append.mp hz with h | h
            · exact b01 z h
            · rw [List.mem_singleton.mp h]
              exact r01
          · rw [upd_same, List.map_append]
            rfl
          · rw [List.sum_append, ez, num_snoc, lb, et, Int.mul_comm]
            simp
        rintro H3 ⟨P3, bs, zs, b01, lb, h3, lz, ez⟩
        have u := num_lt b01
        rw [lb] at u
        exact ⟨D, zs, rfl, SqL.of h3, zs.sum, _, _, _, _, _, _, _, _, _, _, _, _, _, _, _, rfl, by rw [ez]; exact u.1, by rw [ez]; exact u.2, P3⟩
      clear P2
      rintro σ H2 ⟨N, x2, x4, x5, x6, x7, x8, x9, x10, x11, x12, x13, x14, x15, x16, x18, rfl, N0, N1, P2⟩
      refine ⟨_, rfl, w, rfl, by omega, by omega, fun D nD => ?_⟩
      refine lc_range (lo := 0) (n := w) (fun i H' => Same H2 H' ∧ H' D = some (.lst ((bitsN i N).map V.int))) ⟨same_new nD, upd_same⟩ ?_ ?_
      · rintro i H' hi ⟨s, h⟩
        have et : (0 + (i : Int)).toNat = i := by omega
        refine ⟨rfl, yes_of ?_⟩
        refine ⟨_, rfl, _, rfl, _, _, rfl, rfl, by omega, .inl ⟨_, rfl, _, _, rfl, rfl, (by show (0 : Int) < 2; decide), _, h, ?_, fun o u e => ?_, ?_⟩⟩
        · rw [List.length_map, bitsN_len]
          exact Nat.lt_of_lt_of_le (by omega : i < 100) (by decide)
        · rw [upd_ne (ne_of_none e nD)]
          exact s _ _ e
        · rw [upd_same, bitsN_more, List.map_append]
          show some (HO.lst (_ ++ [V.int (N / 2 ^ (0 + (i : Int)).toNat % 2)])) = _
          rw [et]
          rfl
      rintro H3 ⟨s3, h3⟩
      refine ⟨D, _, rfl, .inl ⟨SqL.of h3, fun tb ntb => ?_⟩⟩
      generalize hX : upd H3 tb _ = H4
      have s4 : Same H3 H4 := by
        rw [← hX]
        exact same_new ntb
      have o4 := congrFun hX tb
      rw [upd_same] at o4
      clear hX
      have P4 := P2.same (s3.trans s4)
      refine ⟨_, rfl, _, rfl, w, N, rfl, by omega, fun H5 t5 s5 h5 => ?_⟩
      have ob5 := s5 _ _ o4.symm
      have eI : (!PyData.eqv (.tuple ((bitsN w N).map .int)) (.tuple ((bitsN w N).map .int))) = false := by
        rw [tup_eqvI, decide_eq_true rfl]
        rfl
      refine ⟨_, rfl, _, _, .tup (SqT.of h5) (ints_dp _), .tup (SqT.of ob5) (ints_dp _), shT, shT, _, rfl, goF eI ?_⟩
      refine ⟨_, rfl, _, rfl, w, N, rfl, by omega, fun H6 t6 s6 h6 => ?_⟩
      have ob6 := s6 _ _ ob5
      refine ⟨_, rfl, _, _, .tup (SqT.of h6) (ints_dp _), .tup (SqT.of ob6) (ints_dp _), shT, shT, _, rfl, goF eI ?_⟩
      refine ⟨_, rfl, tb, _, rfl, .inr (SqT.of ob6), fun l nl => ?_⟩
      have s7 := same_new (u := .lst ((bitsN w N).map V.int)) nl
      refine ⟨l, bitsN w N, rfl, SqL.of upd_same, by rw [bitsN_len]; omega, bitsN_01, fun H8 s8 => ?_⟩
      refine ⟨_, rfl, rfl, _, rfl, goF (by rw [num_bits_of N0 N1, decide_eq_true rfl]; rfl) ?_⟩
      exact ⟨_, rfl, p, c, _, rfl, P4.same (s5.trans (s6.trans (s7.trans s8))), by omega, q⟩
end
end Wl
namespace E12
open PySem PySem.Spec PyProof.Rows L2 Pen Dat Ki Fi Gr No Lf Bd Be Bf Bo Bw Bx Wd We Wf Wg Wh Wi Wj Wk Wl Gd He
def ds_is_between : DefD := ⟨("is_between", none), "is_between", "is_between", defArgs sBetween, defBody sBetween, defScope sBetween, [], []⟩
def ds_is_from : DefD := ⟨("is_from", none), "is_from", "is_from", defArgs sFrom, defBody sFrom, defScope sFrom, [], []⟩
def ds_is_row : DefD := ⟨("is_row", none), "is_row", "is_row", defArgs sRow, defBody sRow, defScope sRow, [], []⟩
def ds_is_row_between : DefD := ⟨("is_row_between", none), "is_row_between", "is_row_between", defArgs sRowB, defBody sRowB, defScope sRowB, [], []⟩
def ds_need_leaves : DefD := ⟨("need_leaves", none), "need_leaves", "need_leaves", defArgs sNeed, defBody sNeed, defScope sNeed, [], []⟩
def ds_are_gates : DefD := ⟨("are_gates", none), "are_gates", "are_gates", defArgs sGates, defBody sGates, defScope sGates, [], []⟩
def ds_or_of : DefD := ⟨("or_of", none), "or_of", "or_of", defArgs sOr, defBody sOr, defScope sOr, [], []⟩
def ds_xor_of : DefD := ⟨("xor_of", none), "xor_of", "xor_of", defArgs sXorB, defBody sXorB, defScope sXorB, [], []⟩
def ds_choice_of : DefD := ⟨("choice_of", none), "choice_of", "choice_of", defArgs sChoice, defBody sChoice, defScope sChoice, [], []⟩
def ds_number_word : DefD := ⟨("number_word", none), "number_word", "number_word", defArgs sNumberWord, defBody sNumberWord, defScope sNumberWord, [], []⟩
def ds_word_number : DefD := ⟨("word_number", none), "word_number", "word_number", defArgs sWordNumber, defBody sWordNumber, defScope sWordNumber, [], []⟩
def ds_number_bits : DefD := ⟨("number_bits", none), "number_bits", "number_bits", defArgs sNumberBits, defBody sNumberBits, defScope sNumberBits, [], []⟩
def ds_opposites : DefD := ⟨("opposites", none), "opposites", "opposites", defArgs sOpposites, defBody sOpposites, defScope sOpposites, [], []⟩
def ds_full_sum : DefD := ⟨("full_sum", none), "full_sum", "full_sum", defArgs sFullSum, defBody sFullSum, defScope sFullSum, [], []⟩
def ds_summed : DefD := ⟨("summed", none), "summed", "summed", defArgs sSummed, defBody sSummed, defScope sSummed, [], []⟩
def ds_difference : DefD := ⟨("difference", none), "difference", "difference", defArgs sDifference, defBody sDifference, defScope sDifference, [], []⟩
def ds_product : DefD := ⟨("product", none), "product", "product", defArgs sProduct, defBody sProduct, defScope sProduct, [], []⟩
def ds_is_below : DefD := ⟨("is_below", none), "is_below", "is_below", defArgs sIsBelow, defBody sIsBelow, defScope sIsBelow, [], []⟩
def ds_is_equal : DefD := ⟨("is_equal", none), "is_equal", "is_equal", defArgs sIsEqual, defBody sIsEqual, defScope sIsEqual, [], []⟩
def ds_chosen : DefD := ⟨("chosen", none), "chosen", "chosen", defArgs sChosen, defBody sChosen, defScope sChosen, [], []⟩
def ds__law_pen : DefD := ⟨("_law_pen", none), "_law_pen", "_law_pen", defArgs sPen, defBody sPen, defScope sPen, [], []⟩
def ds__law_draw : DefD := ⟨("_law_draw", none), "_law_draw", "_law_draw", defArgs sDraw, defBody sDraw, defScope sDraw, [], []⟩
def ds__law_pick : DefD := ⟨("_law_pick", none), "_law_pick", "_law_pick", defArgs sPick, defBody sPick, defScope sPick, [], []⟩
def ds__law_is_whole : DefD := ⟨("_law_is_whole", none), "_law_is_whole", "_law_is_whole", defArgs sWhole, defBody sWhole, defScope sWhole, [], []⟩
def ds__law_values : DefD := ⟨("_law_values", none), "_law_values", "_law_values", defArgs sValues, defBody sValues, defScope sValues, [], []⟩
def ds__law_bit : DefD := ⟨("_law_bit", none), "_law_bit", "_law_bit", defArgs sBit, defBody sBit, defScope sBit, [], []⟩
def ds__law_flip : DefD := ⟨("_law_flip", none), "_law_flip", "_law_flip", defArgs sFlip, defBody sFlip, defScope sFlip, [], []⟩
def ds__law_longer : DefD := ⟨("_law_longer", none), "_law_longer", "_law_longer", defArgs sLonger, defBody sLonger, defScope sLonger, [], []⟩
def ds__law_rows : DefD := ⟨("_law_rows", none), "_law_rows", "_law_rows", defArgs sRows, defBody sRows, defScope sRows, [], []⟩
def ds__law_told_values : DefD := ⟨("_law_told_values", none), "_law_told_values", "_law_told_values", defArgs sTold, defBody sTold, defScope sTold, [], []⟩
def ds__law_number : DefD := ⟨("_law_number", none), "_law_number", "_law_number", defArgs sLNumber, defBody sLNumber, defScope sLNumber, [], []⟩
def ds__law_are_literals : DefD := ⟨("_law_are_literals", none), "_law_are_literals", "_law_are_literals", defArgs sAreLits, defBody sAreLits, defScope sAreLits, [], []⟩
def ds__law_drawn_bits : DefD := ⟨("_law_drawn_bits", none), "_law_drawn_bits", "_law_drawn_bits", defArgs sLDrawnBits, defBody sLDrawnBits, defScope sLDrawnBits, [], []⟩
def ds__law_some_rows : DefD := ⟨("_law_some_rows", none), "_law_some_rows", "_law_some_rows", defArgs sLSomeRows, defBody sLSomeRows, defScope sLSomeRows, [], []⟩
def ds__law_literals : DefD := ⟨("_law_literals", none), "_law_literals", "_law_literals", defArgs sLits, defBody sLits, defScope sLits, [], []⟩
def ds__law_word_of : DefD := ⟨("_law_word_of", none), "_law_word_of", "_law_word_of", defArgs sLWordOf, defBody sLWordOf, defScope sLWordOf, [], []⟩
def ds__law_rows_right : DefD := ⟨("_law_rows_right", none), "_law_rows_right", "_law_rows_right", defArgs sLRowsRight, defBody sLRowsRight, defScope sLRowsRight, [], []⟩
def ds__law_three_right : DefD := ⟨("_law_three_right", none), "_law_three_right", "_law_three_right", defArgs sLThreeRight, defBody sLThreeRight, defScope sLThreeRight, [], []⟩
def ds_law : DefD := ⟨("law", none), "law", "law", defArgs sLaw, defBody sLaw, defScope sLaw, [], []⟩
def di_Graph___init__ : DefD := ⟨("Graph", some "__init__"), "__init__", "Graph.__init__", defArgs sInit, defBody sInit, defScope sInit, [], []⟩
def di_Builder___init__ : DefD := ⟨("Builder", some "__init__"), "__init__", "Builder.__init__", defArgs sBInit, defBody sBInit, defScope sBInit, [], []⟩
def di_Builder_graph : DefD := ⟨("Builder", some "graph"), "graph", "Builder.graph", defArgs sBGraph, defBody sBGraph, defScope sBGraph, [], []⟩
def di_Builder_and_of : DefD := ⟨("Builder", some "and_of"), "and_of", "Builder.and_of", defArgs sAnd, defBody sAnd, defScope sAnd, [], []⟩
def fn : List DefD := [ds_is_between, ds_is_from, ds_is_row, ds_is_row_between, ds_need_leaves, ds_are_gates, ds_or_of, ds_xor_of, ds_choice_of, ds_number_word, ds_word_number, ds_number_bits, ds_opposites, ds_full_sum, ds_summed, ds_difference, ds_product, ds_is_below, ds_is_equal, ds_chosen, ds__law_pen, ds__law_draw, ds__law_pick, ds__law_is_whole, ds__law_values, ds__law_bit, ds__law_flip, ds__law_longer, ds__law_rows, ds__law_told_values, ds__law_number, ds__law_are_literals, ds__law_drawn_bits, ds__law_some_rows, ds__law_literals, ds__law_word_of, ds__law_rows_right, ds__law_three_right, ds_law, di_Graph___init__, di_Builder___init__, di_Builder_graph, di_Builder_and_of]
def fa : List Fa := [.glo "is_between", .glo "is_from", .glo "is_row", .glo "is_row_between", .glo "need_leaves", .glo "are_gates", .glo "or_of", .glo "xor_of", .glo "choice_of", .glo "number_word", .glo "word_number", .glo "number_bits", .glo "opposites", .glo "full_sum", .glo "summed", .glo "difference", .glo "product", .glo "is_below", .glo "is_equal", .glo "chosen", .glo "_law_pen", .glo "_law_draw", .glo "_law_pick", .glo "_law_is_whole", .glo "_law_values", .glo "_law_bit", .glo "_law_flip", .glo "_law_longer", .glo "_law_rows", .glo "_law_told_values", .glo "_law_number", .glo "_law_are_literals", .glo "_law_drawn_bits", .glo "_law_some_rows", .glo "_law_literals", .glo "_law_word_of", .glo "_law_rows_right", .glo "_law_three_right", .glo "law", .glo "Graph", .glo "Builder", .free "isinstance", .free "int", .free "bool", .free "tuple", .free "list", .free "len", .free "all", .free "abs", .free "range", .free "min", .free "max", .free "zip", .free "sum", .free "enumerate", .cls "Graph", .mkr "Graph", .noat "Graph" "leaves", .noat "Graph" "gates", .cls "Builder", .mkr "Builder", .noat "Builder" "leaves", .noat "Builder" "gates", .noat "Builder" "standing", .meth "Builder" "and_of", .meth "Builder" "graph"]
abbrev cGraph (K : PySem.W.Frag) : Addr := ga K "Graph"
abbrev cBuilder (K : PySem.W.Frag) : Addr := ga K "Builder"
def exB (K : PySem.W.Frag) : Bool := (decide (PySem.W.findIn K (.ref (cGraph K)) "__class__" = some (some (.builtin "object.__class__"))) && (decide (PySem.W.specialIn K (.builtin "object.__class__") "__get__" = some (some (.builtin "getset_descriptor.__get__"))) && (decide (PySem.W.takesIn K (.builtin "object.__class__") = some true) && (decide (PySem.W.mroIn K (cGraph K) (.type "object") = some true) && (decide (PySem.W.kitOne K (.ref (cGraph K)) (.ref (cGraph K)) = some true) && (decide (PySem.W.kitOne K (.type "tuple") (.ref (cGraph K)) = some false) && true))))))
abbrev R : PySem.W.OpenRow := PySem.W.OpenLaw.row PySem.Challenge.rw_everycycle_k12_whole_sums_comparisons_pr
abbrev hk : PySem.W.Hook := hookX 6 fa fn [] [] exB
def ob (s : PySem.W.SharedT) : AlX := obsX 6 fa fn [] [] exB (HandSHeadRun.getT s)
theorem ob_eq (s : PySem.W.SharedT) : ob s = hk.obs s.abs := obsX_eq (HandSHeadRun.getT_eq s)
theorem run (w : World) : HandSHeadRun.RunEq R (PySem.W.view R.prog [48]) hk ob 4000 [("CycleError" : PySem.Str), ("BadNumber" : PySem.Str), ("BadRow" : PySem.Str), ("is_between" : PySem.Str), ("is_from" : PySem.Str), ("is_row" : PySem.Str), ("is_row_between" : PySem.Str), ("Graph" : PySem.Str), ("need_leaves" : PySem.Str), ("are_gates" : PySem.Str), ("Builder" : PySem.Str), ("or_of" : PySem.Str), ("xor_of" : PySem.Str), ("choice_of" : PySem.Str), ("number_word" : PySem.Str), ("word_number" : PySem.Str), ("number_bits" : PySem.Str), ("opposites" : PySem.Str), ("full_sum" : PySem.Str), ("summed" : PySem.Str), ("difference" : PySem.Str), ("product" : PySem.Str), ("is_below" : PySem.Str), ("is_equal" : PySem.Str), ("chosen" : PySem.Str), ("_law_pen" : PySem.Str), ("_law_draw" : PySem.Str), ("_law_pick" : PySem.Str), ("_law_is_whole" : PySem.Str), ("_law_values" : PySem.Str), ("_law_bit" : PySem.Str), ("_law_flip" : PySem.Str), ("_law_longer" : PySem.Str), ("_law_rows" : PySem.Str), ("_law_told_values" : PySem.Str), ("_law_number" : PySem.Str), ("_law_are_literals" : PySem.Str), ("_law_drawn_bits" : PySem.Str), ("_law_some_rows" : PySem.Str), ("_law_literals" : PySem.Str), ("_law_word_of" : PySem.Str), ("_law_rows_right" : PySem.Str), ("_law_three_right" : PySem.Str)] w := by
  intro os
  kernel_rfl
theorem and2 {a b : Bool} (h : (a && b) = true) : a = true ∧ b = true := Bool.and_eq_true_iff.mp h
theorem facts {P : Program} {w : World} {K : PySem.W.Frag} {h : Heap} {mg : Str → Option Value} {f : Addr} (X : K.In h) (G : h.Ns mainGlobals mg) (hfa : mg ("law" : Str) = some (.ref f)) (c : SaysX fa fn [] [] exB w h K) :
    ∃ fd : FuncData, (∀ (s : Shared) (v : Value), BindsTo s fd ⟨[v], []⟩ [("_law_script", v)]) ∧ ∀ base : Heap, K.In base → base.Ns mainGlobals mg → FnG P w K mg base CX0 9 f fd ["_law_script"] (Wl.spLaw K) := by
  have cd := c.t.d
  obtain ⟨fd0, F0⟩ := cd.def_ 0 (d := ds_is_between) rfl
  obtain ⟨fd1, F1⟩ := cd.def_ 1 (d := ds_is_from) rfl
  obtain ⟨fd2, F2⟩ := cd.def_ 2 (d := ds_is_row) rfl
  obtain ⟨fd3, F3⟩ := cd.def_ 3 (d := ds_is_row_between) rfl
  obtain ⟨fd4, F4⟩ := cd.def_ 4 (d := ds_need_leaves) rfl
  obtain ⟨fd5, F5⟩ := cd.def_ 5 (d := ds_are_gates) rfl
  obtain ⟨fd6, F6⟩ := cd.def_ 6 (d := ds_or_of) rfl
  obtain ⟨fd7, F7⟩ := cd.def_ 7 (d := ds_xor_of) rfl
  obtain ⟨fd8, F8⟩ := cd.def_ 8 (d := ds_choice_of) rfl
  obtain ⟨fd9, F9⟩ := cd.def_ 9 (d := ds_number_word) rfl
  obtain ⟨fd10, F10⟩ := cd.def_ 10 (d := ds_word_number) rfl
  obtain ⟨fd11, F11⟩ := cd.def_ 11 (d := ds_number_bits) rfl
  obtain ⟨fd12, F12⟩ := cd.def_ 12 (d := ds_opposites) rfl
  obtain ⟨fd13, F13⟩ := cd.def_ 13 (d := ds_full_sum) rfl
  obtain ⟨fd14, F14⟩ := cd.def_ 14 (d := ds_summed) rfl
  obtain ⟨fd15, F15⟩ := cd.def_ 15 (d := ds_difference) rfl
  obtain ⟨fd16, F16⟩ := cd.def_ 16 (d := ds_product) rfl
  obtain ⟨fd17, F17⟩ := cd.def_ 17 (d := ds_is_below) rfl
  obtain ⟨fd18, F18⟩ := cd.def_ 18 (d := ds_is_equal) rfl
  obtain ⟨fd19, F19⟩ := cd.def_ 19 (d := ds_chosen) rfl
  obtain ⟨fd20, F20⟩ := cd.def_ 20 (d := ds__law_pen) rfl
  obtain ⟨fd21, F21⟩ := cd.def_ 21 (d := ds__law_draw) rfl
  obtain ⟨fd22, F22⟩ := cd.def_ 22 (d := ds__law_pick) rfl
  obtain ⟨fd23, F23⟩ := cd.def_ 23 (d := ds__law_is_whole) rfl
  obtain ⟨fd24, F24⟩ := cd.def_ 24 (d := ds__law_values) rfl
  obtain ⟨fd25, F25⟩ := cd.def_ 25 (d := ds__law_bit) rfl
  obtain ⟨fd26, F26⟩ := cd.def_ 26 (d := ds__law_flip) rfl
  obtain ⟨fd27, F27⟩ := cd.def_ 27 (d := ds__law_longer) rfl
  obtain ⟨fd28, F28⟩ := cd.def_ 28 (d := ds__law_rows) rfl
  obtain ⟨fd29, F29⟩ := cd.def_ 29 (d := ds__law_told_values) rfl
  obtain ⟨fd30, F30⟩ := cd.def_ 30 (d := ds__law_number) rfl
  obtain ⟨fd31, F31⟩ := cd.def_ 31 (d := ds__law_are_literals) rfl
  obtain ⟨fd32, F32⟩ := cd.def_ 32 (d := ds__law_drawn_bits) rfl
  obtain ⟨fd33, F33⟩ := cd.def_ 33 (d := ds__law_some_rows) rfl
  obtain ⟨fd34, F34⟩ := cd.def_ 34 (d := ds__law_literals) rfl
  obtain ⟨fd35, F35⟩ := cd.def_ 35 (d := ds__law_word_of) rfl
  obtain ⟨fd36, F36⟩ := cd.def_ 36 (d := ds__law_rows_right) rfl
  obtain ⟨fd37, F37⟩ := cd.def_ 37 (d := ds__law_three_right) rfl
  obtain ⟨fd38, F38⟩ := cd.def_ 38 (d := ds_law) rfl
  obtain ⟨fd39, F39⟩ := cd.def_ 39 (d := di_Graph___init__) rfl
  obtain ⟨fd40, F40⟩ := cd.def_ 40 (d := di_Builder___init__) rfl
  obtain ⟨fd41, F41⟩ := cd.def_ 41 (d := di_Builder_graph) rfl
  obtain ⟨fd42, F42⟩ := cd.def_ 42 (d := di_Builder_and_of) rfl
  have glo : ∀ i x, fa[i]? = some (Fa.glo x) → mg x = some (.ref (ga K x)) := fun i x e => glo_ok X G (cd.fact i e)
  have fre : ∀ i x, fa[i]? = some (Fa.free x) → mg x = none := fun i x e => free_ok X G (cd.fact i e)
  have e := hfa.symm.trans (glo 38 "law" rfl)
  cases e
  have b0 : Binds K fd0 ["value", "least", "most"] [] := F0.bindsN fun _ _ _ _ _ _ us hl => match us, hl with | [_, _, _], _ => rfl
  have b1 : Binds K fd1 ["value", "least"] [] := F1.bindsN fun _ _ _ _ _ _ us hl => match us, hl with | [_, _], _ => rfl
  have b2 : Binds K fd2 ["value"] [] := F2.bindsN fun _ _ _ _ _ _ us hl => match us, hl with | [_], _ => rfl
  have b3 : Binds K fd3 ["value", "many", "least", "most"] [] := F3.bindsN fun _ _ _ _ _ _ us hl => match us, hl with | [_, _, _, _], _ => rfl
  have b4 : Binds K fd4 ["leaves"] [] := F4.bindsN fun _ _ _ _ _ _ us hl => match us, hl with | [_], _ => rfl
  have b5 : Binds K fd5 ["leaves", "value"] [] := F5.bindsN fun _ _ _ _ _ _ us hl => match us, hl with | [_, _], _ => rfl
  have b6 : Binds K fd6 ["builder", "one", "other"] [] := F6.bindsN fun _ _ _ _ _ _ us hl => match us, hl with | [_, _, _], _ => rfl
  have b7 : Binds K fd7 ["builder", "one", "other"] [] := F7.bindsN fun _ _ _ _ _ _ us hl => match us, hl with | [_, _, _], _ => rfl
  have b8 : Binds K fd8 ["builder", "c", "one", "other"] [] := F8.bindsN fun _ _ _ _ _ _ us hl => match us, hl with | [_, _, _, _], _ => rfl
  have b9 : Binds K fd9 ["width", "number"] [] := F9.bindsN fun _ _ _ _ _ _ us hl => match us, hl with | [_, _], _ => rfl
  have b10 : Binds K fd10 ["bits"] [] := F10.bindsN fun _ _ _ _ _ _ us hl => match us, hl with | [_], _ => rfl
  have b11 : Binds K fd11 ["width", "number"] [] := F11.bindsN fun _ _ _ _ _ _ us hl => match us, hl with | [_, _], _ => rfl
  have b12 : Binds K fd12 ["word"] [] := F12.bindsN fun _ _ _ _ _ _ us hl => match us, hl with | [_], _ => rfl
  have b13 : Binds K fd13 ["builder", "a", "b", "c"] [] := F13.bindsN fun _ _ _ _ _ _ us hl => match us, hl with | [_, _, _, _], _ => rfl
  have b14 : Binds K fd14 ["builder", "one", "other", "carry"] [] := F14.bindsN fun _ _ _ _ _ _ us hl => match us, hl with | [_, _, _, _], _ => rfl
  have b15 : Binds K fd15 ["builder", "one", "other"] [] := F15.bindsN fun _ _ _ _ _ _ us hl => match us, hl with | [_, _, _], _ => rfl
  have b16 : Binds K fd16 ["builder", "one", "other"] [] := F16.bindsN fun _ _ _ _ _ _ us hl => match us, hl with | [_, _, _], _ => rfl
  have b17 : Binds K fd17 ["builder", "one", "other"] [] := F17.bindsN fun _ _ _ _ _ _ us hl => match us, hl with | [_, _, _], _ => rfl
  have b18 : Binds K fd18 ["builder", "one", "other"] [] := F18.bindsN fun _ _ _ _ _ _ us hl => match us, hl with | [_, _, _], _ => rfl
  have b19 : Binds K fd19 ["builder", "c", "one", "other"] [] := F19.bindsN fun _ _ _ _ _ _ us hl => match us, hl with | [_, _, _, _], _ => rfl
  have b20 : Binds K fd20 ["_law_script"] [] := F20.bindsN fun _ _ _ _ _ _ us hl => match us, hl with | [_], _ => rfl
  have b21 : Binds K fd21 ["_law_pen_here", "_law_many"] [] := F21.bindsN fun _ _ _ _ _ _ us hl => match us, hl with | [_, _], _ => rfl
  have b22 : Binds K fd22 ["_law_pen_here", "_law_some"] [] := F22.bindsN fun _ _ _ _ _ _ us hl => match us, hl with | [_, _], _ => rfl
  have b23 : Binds K fd23 ["_law_thing"] [] := F23.bindsN fun _ _ _ _ _ _ us hl => match us, hl with | [_], _ => rfl
  have b24 : Binds K fd24 ["_law_leaves", "_law_gates", "_law_bits"] [] := F24.bindsN fun _ _ _ _ _ _ us hl => match us, hl with | [_, _, _], _ => rfl
  have b25 : Binds K fd25 ["_law_found", "_law_literal"] [] := F25.bindsN fun _ _ _ _ _ _ us hl => match us, hl with | [_, _], _ => rfl
  have b26 : Binds K fd26 ["_law_literal"] [] := F26.bindsN fun _ _ _ _ _ _ us hl => match us, hl with | [_], _ => rfl
  have b27 : Binds K fd27 ["_law_rows_here", "_law_many"] [] := F27.bindsN fun _ _ _ _ _ _ us hl => match us, hl with | [_, _], _ => rfl
  have b28 : Binds K fd28 ["_law_many"] [] := F28.bindsN fun _ _ _ _ _ _ us hl => match us, hl with | [_], _ => rfl
  have b29 : Binds K fd29 ["_law_builder", "_law_leaves", "_law_bits"] [] := F29.bindsN fun _ _ _ _ _ _ us hl => match us, hl with | [_, _, _], _ => rfl
  have b30 : Binds K fd30 ["_law_found", "_law_word"] [] := F30.bindsN fun _ _ _ _ _ _ us hl => match us, hl with | [_, _], _ => rfl
  have b31 : Binds K fd31 ["_law_word", "_law_found"] [] := F31.bindsN fun _ _ _ _ _ _ us hl => match us, hl with | [_, _], _ => rfl
  have b32 : Binds K fd32 ["_law_pen_here", "_law_many"] [] := F32.bindsN fun _ _ _ _ _ _ us hl => match us, hl with | [_, _], _ => rfl
  have b33 : Binds K fd33 ["_law_pen_here", "_law_many", "_law_most"] [] := F33.bindsN fun _ _ _ _ _ _ us hl => match us, hl with | [_, _, _], _ => rfl
  have b34 : Binds K fd34 ["_law_pen_here", "_law_nodes", "_law_many"] [] := F34.bindsN fun _ _ _ _ _ _ us hl => match us, hl with | [_, _, _], _ => rfl
  have b35 : Binds K fd35 ["_law_pen_here", "_law_leaves", "_law_width"] [] := F35.bindsN fun _ _ _ _ _ _ us hl => match us, hl with | [_, _, _], _ => rfl
  have b36 : Binds K fd36 ["_law_pen_here", "_law_leaves", "_law_words", "_law_made"] [] := F36.bindsN fun _ _ _ _ _ _ us hl => match us, hl with | [_, _, _, _], _ => rfl
  have b37 : Binds K fd37 ["_law_pen_here"] [] := F37.bindsN fun _ _ _ _ _ _ us hl => match us, hl with | [_], _ => rfl
  have b39 : Binds K fd39 ["self", "leaves", "gates"] [] := F39.bindsN fun _ _ _ _ _ _ us hl => match us, hl with | [_, _, _], _ => rfl
  have b40 : Binds K fd40 ["self", "leaves"] [] := F40.bindsN fun _ _ _ _ _ _ us hl => match us, hl with | [_, _], _ => rfl
  have b41 : Binds K fd41 ["self"] [] := F41.bindsN fun _ _ _ _ _ _ us hl => match us, hl with | [_], _ => rfl
  have b42 : Binds K fd42 ["self", "one", "other"] [] := F42.bindsN fun _ _ _ _ _ _ us hl => match us, hl with | [_, _, _], _ => rfl
  have b := FunD.bindsA (ps := ["_law_script"]) F38 fun _ _ _ _ _ _ us hl => match us, hl with | [_], _ => rfl
  have g0 := glo 0 "is_between" rfl
  have g1 := glo 1 "is_from" rfl
  have g2 := glo 2 "is_row" rfl
  have g3 := glo 3 "is_row_between" rfl
  have g4 := glo 4 "need_leaves" rfl
  have g5 := glo 5 "are_gates" rfl
  have g6 := glo 6 "or_of" rfl
  have g7 := glo 7 "xor_of" rfl
  have g8 := glo 8 "choice_of" rfl
  have g9 := glo 9 "number_word" rfl
  have g10 := glo 10 "word_number" rfl
  have g11 := glo 11 "number_bits" rfl
  have g12 := glo 12 "opposites" rfl
  have g13 := glo 13 "full_sum" rfl
  have g14 := glo 14 "summed" rfl
  have g15 := glo 15 "difference" rfl
  have g16 := glo 16 "product" rfl
  have g17 := glo 17 "is_below" rfl
  have g18 := glo 18 "is_equal" rfl
  have g19 := glo 19 "chosen" rfl
  have g20 := glo 20 "_law_pen" rfl
  have g21 := glo 21 "_law_draw" rfl
  have g22 := glo 22 "_law_pick" rfl
  have g23 := glo 23 "_law_is_whole" rfl
  have g24 := glo 24 "_law_values" rfl
  have g25 := glo 25 "_law_bit" rfl
  have g26 := glo 26 "_law_flip" rfl
  have g27 := glo 27 "_law_longer" rfl
  have g28 := glo 28 "_law_rows" rfl
  have g29 := glo 29 "_law_told_values" rfl
  have g30 := glo 30 "_law_number" rfl
  have g31 := glo 31 "_law_are_literals" rfl
  have g32 := glo 32 "_law_drawn_bits" rfl
  have g33 := glo 33 "_law_some_rows" rfl
  have g34 := glo 34 "_law_literals" rfl
  have g35 := glo 35 "_law_word_of" rfl
  have g36 := glo 36 "_law_rows_right" rfl
  have g37 := glo 37 "_law_three_right" rfl
  have g38 := glo 38 "law" rfl
  have gGraph := glo 39 "Graph" rfl
  have gBuilder := glo 40 "Builder" rfl
  have z_isinstance := fre 41 "isinstance" rfl
  have z_int := fre 42 "int" rfl
  have z_bool := fre 43 "bool" rfl
  have z_tuple := fre 44 "tuple" rfl
  have z_list := fre 45 "list" rfl
  have z_len := fre 46 "len" rfl
  have z_all := fre 47 "all" rfl
  have z_abs := fre 48 "abs" rfl
  have z_range := fre 49 "range" rfl
  have z_min := fre 50 "min" rfl
  have z_max := fre 51 "max" rfl
  have z_zip := fre 52 "zip" rfl
  have z_sum := fre 53 "sum" rfl
  have z_enumerate := fre 54 "enumerate" rfl
  have clGraph := cls_ok (cd.fact 55 (f := .cls "Graph") rfl)
  have mkGraph := mkr_ok (cd.fact 56 (f := .mkr "Graph") rfl)
  have nGraph_leaves := noat_ok (cd.fact 57 (f := .noat "Graph" "leaves") rfl)
  have nGraph_gates := noat_ok (cd.fact 58 (f := .noat "Graph" "gates") rfl)
  have clBuilder := cls_ok (cd.fact 59 (f := .cls "Builder") rfl)
  have mkBuilder := mkr_ok (cd.fact 60 (f := .mkr "Builder") rfl)
  have nBuilder_leaves := noat_ok (cd.fact 61 (f := .noat "Builder" "leaves") rfl)
  have nBuilder_gates := noat_ok (cd.fact 62 (f := .noat "Builder" "gates") rfl)
  have nBuilder_standing := noat_ok (cd.fact 63 (f := .noat "Builder" "standing") rfl)
  have meBuilder_and_of := meth_ok (cd.fact 64 (f := .meth "Builder" "and_of") rfl)
  have meBuilder_graph := meth_ok (cd.fact 65 (f := .meth "Builder" "graph") rfl)
  have r0 := c.more
  obtain ⟨q0, r1⟩ := and2 r0
  have e1 := of_decide_eq_true q0
  obtain ⟨q1, r2⟩ := and2 r1
  have e2 := of_decide_eq_true q1
  obtain ⟨q2, r3⟩ := and2 r2
  have e3 := of_decide_eq_true q2
  obtain ⟨q3, r4⟩ := and2 r3
  have e4 := of_decide_eq_true q3
  obtain ⟨q4, r5⟩ := and2 r4
  have e5 := of_decide_eq_true q4
  obtain ⟨q5, r6⟩ := and2 r5
  have e6 := of_decide_eq_true q5
  have ki : Ki.Tx mg := ⟨z_isinstance, z_int, z_bool, z_tuple, z_list, z_len, z_all⟩
  have pt : Pen.Txt mg := ⟨z_len, z_int, z_list⟩
  have lf : Lf.Tx mg := ⟨pt, z_abs, z_range, z_tuple⟩
  have tg : Gr.Tx K mg (cGraph K) := ⟨ki, clGraph, nGraph_leaves, nGraph_gates, gGraph, e1, e2, e3, fun e => .ins e clGraph e1 e2 e3 e4, e5, e6⟩
  have tB : Bd.Tx K mg (cBuilder K) := ⟨ki, clBuilder, nBuilder_leaves, nBuilder_gates, nBuilder_standing⟩
  have tY : Be.Ty K mg (cBuilder K) _ := ⟨tB, meBuilder_and_of⟩
  have tz : Bo.Tz mg := ⟨z_min, z_max, z_int⟩
  have tw : Bw.Tw K mg (cGraph K) (cBuilder K) _ _ := ⟨tg, lf, tY, meBuilder_graph, tz⟩
  have T : We.Te K mg (cGraph K) (cBuilder K) _ _ := ⟨tg, lf, tY, meBuilder_graph, z_zip, z_sum, z_enumerate⟩
  refine ⟨fd38, fun s v => b s [v] rfl, fun base _ _ => ?_⟩
  have G3 : FnOk P w K mg base CX0 _ _ _ _ _ := ok_rowB F3 ki F0 g0 F2 g2
  have G4 : FnOk P w K mg base CX0 _ _ _ _ _ := ok_need F4 ki F1 g1
  have G5 : FnOk P w K mg base CX0 _ _ _ _ _ := ok_gates F5 ki F2 g2 F3 g3 F0 g0
  have G39 : FnOk P w K mg base CX0 _ _ _ _ _ := ok_init F39 tg G4 g4 F4.kp b4 G5 g5 F5.kp b5
  have G40 : FnOk P w K mg base CX0 _ _ _ _ _ := ok_binit F40 tB G4 g4 F4.kp b4
  have G41 : FnOk P w K mg base CX0 _ _ _ _ _ := ok_bgraph F41 tB tg mkGraph G39 b39
  have G42 : FnOk P w K mg base CX0 _ _ _ _ _ := ok_and F42 tB
  have G6 : FnOk P w K mg base CX0 _ _ _ _ _ := ok_or F6 tY G42 b42
  have G7 : FnOk P w K mg base CX0 _ _ _ _ _ := ok_xorB F7 tY G42 b42
  have G8 : FnOk P w K mg base CX0 _ _ _ _ _ := ok_choice F8 tY G42 b42 F6 g6
  have G11 : FnOk P w K mg base CX0 _ _ _ _ _ := ok_numb F11 T
  have G9 : FnOk P w K mg base CX0 _ _ _ _ _ := ok_numw F9 T G11 g11 F11.kp b11
  have G10 : FnOk P w K mg base CX0 _ _ _ _ _ := ok_wordn F10 T
  have G12 : FnOk P w K mg base CX0 _ _ _ _ _ := ok_opp F12 T
  have G13 : FnOk P w K mg base CX0 _ _ _ _ _ := ok_full F13 T G42 b42 G7 g7 F7.kp b7 G6 g6 F6.kp b6
  have G14 : FnOk P w K mg base CX0 _ _ _ _ _ := ok_sum F14 T G13 g13 F13.kp b13
  have G15 : FnOk P w K mg base CX0 _ _ _ _ _ := ok_diff F15 T G14 g14 F14.kp b14 G12 g12 F12.kp b12
  have G16 : FnOk P w K mg base CX0 _ _ _ _ _ := ok_prod F16 T G42 b42 G14 g14 F14.kp b14 G9 g9 F9.kp b9
  have G17 : FnOk P w K mg base CX0 _ _ _ _ _ := ok_below F17 T G7 g7 F7.kp b7 G8 g8 F8.kp b8
  have G18 : FnOk P w K mg base CX0 _ _ _ _ _ := ok_equal F18 T G42 b42 G7 g7 F7.kp b7
  have G19 : FnOk P w K mg base CX0 _ _ _ _ _ := ok_chosen F19 T G8 g8 F8.kp b8
  have G20 : FnOk P w K mg base CX0 _ _ _ _ _ := ok_pen F20 pt
  have G21 : FnOk P w K mg base CX0 _ _ _ _ _ := ok_draw F21 pt
  have G22 : FnOk P w K mg base CX0 _ _ _ _ _ := ok_pick F22 pt F21 g21
  have G23 : FnOk P w K mg base CX0 _ _ _ _ _ := ok_whole F23 ki
  have G24 : FnOk P w K mg base CX0 _ _ _ _ _ := ok_values F24 lf F25 g25
  have G25 : FnOk P w K mg base CX0 _ _ _ _ _ := ok_bit F25 lf
  have G26 : FnOk P w K mg base CX0 _ _ _ _ _ := ok_flip F26 tz
  have G28 : FnOk P w K mg base CX0 _ _ _ _ _ := ok_rows F28 lf F27 g27
  have G29 : FnOk P w K mg base CX0 _ _ _ _ _ := ok_told F29 tw G41 b41 G24 g24 F24.kp b24
  have G31 : FnOk P w K mg base CX0 _ _ _ _ _ := ok_arelits F31 ki G23 g23 F23.kp b23
  have G34 : FnOk P w K mg base CX0 _ _ _ _ _ := ok_lits F34 lf F21 g21
  have G30 : FnOk P w K mg base CX0 _ _ _ _ _ := ok_lnum F30 T G25 g25 F25.kp b25
  have G32 : FnOk P w K mg base CX0 _ _ _ _ _ := ok_drawnbits F32 T G21 g21 F21.kp b21
  have G33 : FnOk P w K mg base CX0 _ _ _ _ _ := ok_somerows F33 T G28 g28 F28.kp b28 G32 g32 F32.kp b32
  have G35 : FnOk P w K mg base CX0 _ _ _ _ _ := ok_wordof F35 T G21 g21 F21.kp b21 G22 g22 F22.kp b22
  have G36 : FnOk P w K mg base CX0 _ _ _ _ _ := ok_right F36 T G33 g33 F33.kp b33 G29 g29 F29.kp b29 G31 g31 F31.kp b31 G30 g30 F30.kp b30 G25 g25 F25.kp b25
  have G37 : FnOk P w K mg base CX0 _ _ _ _ _ := ok_three F37 T mkBuilder G40 gBuilder b40 G34 g34 F34.kp b34 G13 g13 F13.kp b13 G28 g28 F28.kp b28 G29 g29 F29.kp b29 G31 g31 F31.kp b31 G25 g25 F25.kp b25
  exact ok_law F38 T mkBuilder G40 gBuilder b40 G41 b41 G20 g20 F20.kp b20 G21 g21 F21.kp b21 G22 g22 F22.kp b22 G35 g35 F35.kp b35 G26 g26 F26.kp b26 G14 g14 F14.kp b14 G15 g15 F15.kp b15 G16 g16 F16.kp b16 G17 g17 F17.kp b17 G18 g18 F18.kp b18 G19 g19 F19.kp b19 G36 g36 F36.kp b36 G9 g9 F9.kp b9 G11 g11 F11.kp b11 G10 g10 F10.kp b10 G37 g37 F37.kp b37
end E12
open PySem PySem.W PySem.Calls PyProof.Rows
theorem PySem.Challenge.cw_everycycle_k12_whole_sums_comparisons_pr_holds : PySem.Challenge.rw_everycycle_k12_whole_sums_comparisons_pr.Holds := by
  w_on; o_law
  refine HandSHeadRun.head_any (r := OpenLaw.row PySem.Challenge.rw_everycycle_k12_whole_sums_comparisons_pr) (q := view (OpenLaw.row PySem.Challenge.rw_everycycle_k12_whole_sums_comparisons_pr).prog [48]) (H := E12.hk) (ob := E12.ob) (M := 4000) (loose := [("CycleError" : PySem.Str), ("BadNumber" : PySem.Str), ("BadRow" : PySem.Str), ("is_between" : PySem.Str), ("is_from" : PySem.Str), ("is_row" : PySem.Str), ("is_row_between" : PySem.Str), ("Graph" : PySem.Str), ("need_leaves" : PySem.Str), ("are_gates" : PySem.Str), ("Builder" : PySem.Str), ("or_of" : PySem.Str), ("xor_of" : PySem.Str), ("choice_of" : PySem.Str), ("number_word" : PySem.Str), ("word_number" : PySem.Str), ("number_bits" : PySem.Str), ("opposites" : PySem.Str), ("full_sum" : PySem.Str), ("summed" : PySem.Str), ("difference" : PySem.Str), ("product" : PySem.Str), ("is_below" : PySem.Str), ("is_equal" : PySem.Str), ("chosen" : PySem.Str), ("_law_pen" : PySem.Str), ("_law_draw" : PySem.Str), ("_law_pick" : PySem.Str), ("_law_is_whole" : PySem.Str), ("_law_values" : PySem.Str), ("_law_bit" : PySem.Str), ("_law_flip" : PySem.Str), ("_law_longer" : PySem.Str), ("_law_rows" : PySem.Str), ("_law_told_values" : PySem.Str), ("_law_number" : PySem.Str), ("_law_are_literals" : PySem.Str), ("_law_drawn_bits" : PySem.Str), ("_law_some_rows" : PySem.Str), ("_law_literals" : PySem.Str), ("_law_word_of" : PySem.Str), ("_law_rows_right" : PySem.Str), ("_law_three_right" : PySem.Str)]) (d := HandSHeadRun.topDef (OpenLaw.row PySem.Challenge.rw_everycycle_k12_whole_sums_comparisons_pr).prog 48) (kwd := []) E12.ob_eq
    (by kernel_rfl) (fun s => by kernel_rfl) E12.run (by kernel_rfl) (by kernel_rfl) (by kernel_rfl) (by rfl) (by first | assumption | decide +kernel) (by decide +kernel) ⟨rfl, rfl, rfl, rfl, rfl, by decide +kernel⟩ ?hw ?hc
  case hw => w_witness2
  case hc =>
    refine Gd.walk_go (l := PySem.Challenge.rw_everycycle_k12_whole_sums_comparisons_pr) (n := 63) (k := 9) (x := "_law_script") (CX := L2.CX0) rfl (by decide) (by kernel_rfl) ⟨rfl, by decide, by decide⟩ ?F (fun _ _ _ _ z => z)
    intro w mg fa h Y G hmg0
    obtain ⟨K, KX, c⟩ := Y
    have hmg : mg ("law" : PySem.Str) = some (.ref fa) := by
      have e : (HandSHeadRun.topDef (OpenLaw.row PySem.Challenge.rw_everycycle_k12_whole_sums_comparisons_pr).prog 48).name = ("law" : PySem.Str) := by kernel_rfl
      rw [← e]
      exact hmg0
    obtain ⟨fd, hb, hF⟩ := E12.facts (P := (PySem.Challenge.rw_everycycle_k12_whole_sums_comparisons_pr).prog) (w := w) KX G hmg c
    exact ⟨K, fd, Wl.spLaw K, KX, hb, fun H a ns hl _ hS => ⟨a, ns, rfl, hS, hl, fun _ => rfl⟩, hF⟩
