import PyProof.Rows.All
import Wide.All
import OpenK.AllK
import Wide.FinOn
import Lean
import HandS.ForMost
import HandS.Codes
import HandS.Defaults
import HandS.Wide
import HandS.DeepEq
import HandS.Exc
import HandS.ExcInit
import HandS.ExcValue
import HandS.IsInst
import HandS.TupAny
import HandS.OwnEq
import HandS.Star
import HandS.SortInts
import HandS.Conv
import HandS.Style
import HandS.Head0
import HandS.Head1
import HandS.Head2
import HandS.HeadEnd
import HandS.HeadHook1
import HandS.HeadHook2
import HandS.HeadHook3
import HandS.HeadHook4
import HandS.ExcIs
import HandS.ExcField
import KE.KExcIs
import KE.GoesEnum
import HandS.NoneIn
import PySem.Challenge.RW_everycycle_k50_whole_words_and_bits
import KE.GoesMore
import KE.GoesZip
import KE.GoesEnum
import PyProof.SliceList
import PyProof.SliceSyntax
import PyProof.DelItemList
import PyProof.RulesDelMore
import HandS.Flow
import HandS.Deep
import HandS.Walk
import HandS.Small
import HandS.Conv
import HandS.CallLocal
import HandS.More
import HandS.WideBits
import KE.BitLaws
import HandS.Lambda
import HandS.EndTab
import HandS.ExcField
import HandS.ExcInit
import HandS.ExcIs
import HandS.TupMul
set_option Elab.async false
set_option linter.all false
set_option maxRecDepth 100000
set_option maxHeartbeats 4000000
set_option pp.maxSteps 800
namespace Dat
open PySem PySem.Spec PyProof.Rows L2
/-! ## Data of any depth: its kind, and that it stays -/
def isIntD : PyData → Bool
  | .int _ => true
  | .bool _ => true
  | _ => false
def isBoolD : PyData → Bool
  | .bool _ => true
  | _ => false
def isRowD : PyData → Bool
  | .list _ => true
  | .tuple _ => true
  | _ => false
def clsD : PyData → String
  | .none => "NoneType"
  | .bool _ => "bool"
  | .int _ => "int"
  | .str _ => "str"
  | .list _ => "list"
  | .tuple _ => "tuple"
  | .dict _ => "dict"
section
variable {K : PySem.W.Frag} {H H' : Hp} {v : V} {d : PyData}
theorem ty_list {a : Addr} {xs : List V} (h : SqL K H a xs) : TyX K H (.ref a) (.type "list") := by
  rcases h with (h | ⟨o, h⟩) | ⟨o, its, n, h1, h2, _⟩
  · exact .base (.lst h)
  · exact .base (.frz h)
  · exact .kList h1 h2
theorem ty_tup {a : Addr} {xs : List V} (h : SqT K H a xs) : TyX K H (.ref a) (.type "tuple") := by
  rcases h with (h | ⟨o, h⟩) | ⟨o, its, n, h1, h2, _⟩
  · exact .base (.tup h)
  · exact .fTuple h
  · exact .kTuple h1 h2
theorem ty_of (h : Dp K H v d) : TyX K H v (.type (clsD d)) := by
  cases h with
  | non => exact .base .non
  | bl b => exact .base (.bl b)
  | int i => exact .base (.int i)
  | str x => exact .base (.str x)
  | lst hs _ => exact ty_list hs
  | tup hs _ => exact ty_tup hs
theorem kit_int (h : Dp K H v d) : PySem.W.kitOne K (.type (clsD d)) (.type "int") = some (isIntD d) := by
  cases h with
  | non => exact kit_ty (a := "NoneType") (b := "int") (r := false) (by decide +kernel)
  | bl _ => exact kit_ty (a := "bool") (b := "int") (r := true) (by decide +kernel)
  | int _ => exact kit_ty (a := "int") (b := "int") (r := true) (by decide +kernel)
  | str _ => exact kit_ty (a := "str") (b := "int") (r := false) (by decide +kernel)
  | lst _ _ => exact kit_ty (a := "list") (b := "int") (r := false) (by decide +kernel)
  | tup _ _ => exact kit_ty (a := "tuple") (b := "int") (r := false) (by decide +kernel)
theorem kit_bool (h : Dp K H v d) : PySem.W.kitOne K (.type (clsD d)) (.type "bool") = some (isBoolD d) := by
  cases h with
  | non => exact kit_ty (a := "NoneType") (b := "bool") (r := false) (by decide +kernel)
  | bl _ => exact kit_ty (a := "bool") (b := "bool") (r := true) (by decide +kernel)
  | int _ => exact kit_ty (a := "int") (b := "bool") (r := false) (by decide +kernel)
  | str _ => exact kit_ty (a := "str") (b := "bool") (r := false) (by decide +kernel)
  | lst _ _ => exact kit_ty (a := "list") (b := "bool") (r := false) (by decide +kernel)
  | tup _ _ => exact kit_ty (a := "tuple") (b := "bool") (r := false) (by decide +kernel)
theorem kit_row (h : Dp K H v d) : PySem.W.kitAny K (.type (clsD d)) [.type "tuple", .type "list"] = some (isRowD d) := by
  cases h with
  | non => exact kitAny_cons (b := false) (kit_ty (a := "NoneType") (b := "tuple") (r := false) (by decide +kernel)) (fun _ => kitAny_cons (b := false) (kit_ty (a := "NoneType") (b := "list") (r := false) (by decide +kernel)) (fun _ => rfl) (fun z => by cases z)) (fun z => by cases z)
  | bl _ => exact kitAny_cons (b := false) (kit_ty (a := "bool") (b := "tuple") (r := false) (by decide +kernel)) (fun _ => kitAny_cons (b := false) (kit_ty (a := "bool") (b := "list") (r := false) (by decide +kernel)) (fun _ => rfl) (fun z => by cases z)) (fun z => by cases z)
  | int _ => exact kitAny_cons (b := false) (kit_ty (a := "int") (b := "tuple") (r := false) (by decide +kernel)) (fun _ => kitAny_cons (b := false) (kit_ty (a := "int") (b := "list") (r := false) (by decide +kernel)) (fun _ => rfl) (fun z => by cases z)) (fun z => by cases z)
  | str _ => exact kitAny_cons (b := false) (kit_ty (a := "str") (b := "tuple") (r := false) (by decide +kernel)) (fun _ => kitAny_cons (b := false) (kit_ty (a := "str") (b := "list") (r := false) (by decide +kernel)) (fun _ => rfl) (fun z => by cases z)) (fun z => by cases z)
  | lst _ _ => exact kitAny_cons (b := false) (kit_ty (a := "list") (b := "tuple") (r := false) (by decide +kernel)) (fun _ => kitAny_cons (b := true) (kit_ty (a := "list") (b := "list") (r := true) (by decide +kernel)) (fun z => by cases z) (fun _ => rfl)) (fun z => by cases z)
  | tup _ _ => exact kitAny_cons (b := true) (kit_ty (a := "tuple") (b := "tuple") (r := true) (by decide +kernel)) (fun z => by cases z) (fun _ => rfl)
theorem seqT_same {a : Addr} {xs : List V} (s : Same H H') (h : SqT K H a xs) : SqT K H' a xs :=
  h.elim (fun h => .inl (h.elim (fun h => .inl (s _ _ h)) fun ⟨o, h⟩ => .inr ⟨o, s _ _ h⟩)) .inr
mutual
theorem dp_same (s : Same H H') : ∀ {d : PyData} {v : V}, Dp K H v d → Dp K H' v d
  | .none, _, h => by
    cases h
    exact .non
  | .bool b, _, h => by
    cases h
    exact .bl b
  | .int i, _, h => by
    cases h
    exact .int i
  | .str x, _, h => by
    cases h
    exact .str x
  | .list ds, _, h => by
    cases h with
    | lst hs ha => exact .lst (s.seq hs) (dps_same s ha)
  | .tuple ds, _, h => by
    cases h with
    | tup hs ha => exact .tup (seqT_same s hs) (dps_same s ha)
  | .dict _, _, h => by cases h
theorem dps_same (s : Same H H') : ∀ {ds : List PyData} {vs : List V}, DpAll K H vs ds → DpAll K H' vs ds
  | [], _, h => by
    cases h
    exact .nil
  | d :: ds, _, h => by
    cases h with
    | cons h1 h2 => exact .cons (dp_same s h1) (dps_same s h2)
end
theorem dps_len : ∀ {vs : List V} {ds : List PyData}, DpAll K H vs ds → vs.length = ds.length
  | _, [], h => by
    cases h
    rfl
  | _, _ :: _, h => by
    cases h with
    | cons _ h2 => exact congrArg Nat.succ (dps_len h2)
theorem dps_get : ∀ {vs : List V} {ds : List PyData}, DpAll K H vs ds → ∀ {i : Nat} {v : V}, vs[i]? = some v → ∃ d, ds[i]? = some d ∧ Dp K H v d
  | _, [], h, i, v, e => by
    cases h
    simp at e
  | _, d :: ds, h, i, v, e => by
    cases h with
    | cons h1 h2 =>
      cases i with
      | zero =>
        simp at e
        subst e
        exact ⟨d, rfl, h1⟩
      | succ i =>
        simp at e
        obtain ⟨d', q1, q2⟩ := dps_get h2 e
        exact ⟨d', by simpa using q1, q2⟩
end
end Dat
namespace Gd
open PySem PySem.Spec PyProof.Rows L2
/-! ## What a def does where no repr is under way: the promise of FnOk, for such callers alone -/
structure FnG (P : Program) (w : World) (K : PySem.W.Frag) (mg : Str → Option Value) (base : Heap) (CX : CXT) (k : Nat) (f : Addr) (fd : FuncData) (ps : List Str) (sp : Sp) : Prop where
  many : ∀ vs H Q E, sp vs H Q E → vs.length = ps.length
  go : ∀ (A : Around) (fs : List Env) (s : Shared) (H : Hp) (ag : Args) (us : List Value) (vs : List V) (Q : VK) (E : XK), A.guards = some [] → Room k A → Env0 P w K mg base A fs s H →
    BindsTo s fd ag (ps.zip us) → Vals vs us → sp vs H Q E → codeAny (model P w) A (.call (.ref f) ag) (CR CX fs P w H s Q E) s
section
variable {P : Program} {w : World} {K : PySem.W.Frag} {mg : Str → Option Value} {base : Heap} {CX : CXT} {k : Nat} {f : Addr} {fd : FuncData} {ps : List Str} {sp : Sp}
theorem FnG.of (F : FnOk P w K mg base CX k f fd ps sp) : FnG P w K mg base CX k f fd ps sp := ⟨F.len, fun A fs s H ag us vs Q E _ => F.run A fs s H ag us vs Q E⟩
/-- from the def's body -/
theorem FnG.mk_of {x qual : Str} {params : Arguments} {body : List Stmt} {scope : Scope} {dvs : List V} {kws : List (Str × V)} {N : List Str}
    (F : FunD K x qual params body scope dvs kws f fd) (S : FnScope N ps scope) (many : ∀ vs H Q E, sp vs H Q E → vs.length = ps.length)
    (walk : ∀ (cv : Value) (A : Around) (fs : List Env) (s : Shared) (H : Hp) (vs : List V) (Q : VK) (E : XK), A.guards = some [] → Room k (A.deeper (envOfC qual scope s.heap.objs.size f cv)) → sp vs H Q E →
      ∃ t, PSs (cxOf CX P w K mg base N qual scope f cv A fs s H E) body t ∧ t { nx := fun _ H' => Q .non H', rt := Q } (start N vs) H) :
    FnG P w K mg base CX (k + 1) f fd ps sp := by
  obtain ⟨_, _, _, _, _, _, _, cv, _, _, rfl, look, code, _, _⟩ := F.ex
  refine ⟨many, fun A fs s H ag us vs Q E hg room e bind rel prom => ?_⟩
  have kin : K.In s.heap := e.mod.kin.keeps fun b u z => (e.bs b u z).1
  have kinds : ∀ y ∈ ps.zip us, scope.names.lookup y.1 = some .local ∨ (scope.names.lookup y.1 = some .cell ∧ ((cellsFrom (s.heap.objs.size + 1) scope.names []).lookup y.1).isSome = true) := by
    rintro ⟨y, u⟩ hy
    rcases S.par y (List.of_mem_zip hy).1 with q | q
    · exact Or.inl q
    · exact Or.inr ⟨q, PySem.W.cellsFrom_some _ _ _ (Or.inl q)⟩
  refine codeAny_call_function room.depth (kin _ _ look) rfl S.co S.gen rfl (PySem.W.codeRec_of kin code) (bind _ _ _ _ ?_)
  refine wpAny_newFunctionEnv_cells S.kind kinds ?_
  rintro env rfl s1 hs1
  refine ⟨(e.mod.nolimit.keeps fun b u z => (e.bs b u z).1).keeps hs1.toInCall.keep, codeAny_func ?_⟩
  obtain ⟨t, ht, q⟩ := walk cv A fs s H vs Q E hg (room.deeper _) prom
  have I := inv_start (CX := CX) (E := E) S room.hd e (many _ _ _ _ prom) rel hs1
  refine wpAny_mono (ht.run [] s1 (start N vs) H _ I q) (fun fl s2 z => ?_) (fun _ _ z => z)
  match fl, z with
  | .ret u, ⟨v, σ', H', J, rv, q⟩ => exact ⟨v, H', J.os, J.bare, J.base, J.hok, rv, q⟩
  | .next, ⟨σ', H', J, q⟩ => exact ⟨V.non, H', J.os, J.bare, J.base, J.hok, rfl, q⟩
  | .brk, ⟨_, _, _, q⟩ => exact q.elim
  | .cont, ⟨_, _, _, q⟩ => exact q.elim
end
/-- the script's object -/
abbrev scr (vs : List Value) : Obj := { cls := .type "list", data := .seq vs.toArray }
/-- the heap in which the script alone is tracked, if the top did not write it -/
def onlyScr (K : PySem.W.Frag) (a : Addr) (vs : List Value) (ns : List Int) : Hp := fun b => if b = a ∧ (K.lookup a).isNone = true then some (.frz (scr vs) (.lst (ns.map V.int))) else none
theorem onlyScr_get {K : PySem.W.Frag} {a b : Addr} {vs : List Value} {ns : List Int} {o : HO} (h : onlyScr K a vs ns b = some o) : b = a ∧ K.lookup a = none ∧ o = .frz (scr vs) (.lst (ns.map V.int)) := by
  unfold onlyScr at h
  split at h
  · rename_i c
    exact ⟨c.1, Option.isNone_iff_eq_none.mp c.2, (Option.some.inj h).symm⟩
  · cases h
/-- the law is called with its script -/
theorem law_go {P : Program} {w : World} {K : PySem.W.Frag} {mg mb : Str → Option Value} {CX : CXT} {k : Nat} {f a : Addr} {fd : FuncData} {x : Str} {sp : Sp} {s : Shared} {vs : List Value} {ns : List Int}
    (kin : K.In s.heap) (hm : s.heap.Ns mainGlobals mg) (hb : s.heap.Ns builtinsNs mb) (hbb : ∀ y : Str, y ≠ "__name__" → mb y = bootBuiltins y) (lim : s.heap.NoLimit) (hgen : s.gens = #[])
    (ha : s.heap.get? a = some (scr vs)) (hi : IntsAre vs ns) (hl : ns.length ≤ sizeLine) (hr : Room k callerA)
    (F : ∀ base : Heap, K.In base → base.Ns mainGlobals mg → FnG P w K mg base CX k f fd [x] sp) (bind : ∀ (s : Shared) (u : Value), BindsTo s fd ⟨[u], []⟩ [(x, u)])
    (prom : ∀ H : Hp, Only H → SqL K H a (ns.map V.int) → sp [.ref a] H (fun v _ => v = .bl true) fun _ _ _ => False)
    (none_out : ∀ H e s', CX [] H s (fun _ _ _ => False) e s' → False) :
    codeAny (model P w) callerA (.call (.ref f) ⟨[.ref a], []⟩) (fun r s' => r = .ok (.ret (.bool true)) ∧ OldK s.heap s'.heap ∧ s'.os = s.os ∧ AllBare s'.gens) s := by
  have hv := vals_ints hi
  have hlen := hi.length
  let H := onlyScr K a vs ns
  have gone : ∀ {b : Addr} {o : Obj}, K.lookup b = some o → H b = none := fun {b o} q => by
    cases e : H b with
    | none => rfl
    | some u =>
      obtain ⟨rfl, n, _⟩ := onlyScr_get e
      rw [n] at q
      cases q
  have ns_free : ∀ {b : Addr} {o : Obj} {es : Array DictEntry} {ep : Nat}, s.heap.get? b = some o → o.data = .dict es ep → H b = none := fun {b o es ep} q d => by
    cases e : H b with
    | none => rfl
    | some u =>
      obtain ⟨rfl, _, _⟩ := onlyScr_get e
      rw [ha] at q
      cases q
      cases d
  have stays : ∀ {b : Addr} {m : Str → Option Value}, s.heap.Ns b m → (hidT s.heap H).Ns b m := fun ⟨o, es, ep, q, d, r⟩ => ⟨o, es, ep, hidT_get q (ns_free q d), d, r⟩
  have kinT : K.In (hidT s.heap H) := fun b o q => hidT_get (kin b o q) (gone q)
  have hok : HOk P w H s.heap := fun b u q => by
    obtain ⟨rfl, _, rfl⟩ := onlyScr_get q
    exact ⟨ha, by rw [List.length_map]; exact hl, vs, _, hv, ha⟩
  have hO : Only H := fun b => by
    cases e : H b with
    | none => exact Or.inl rfl
    | some u =>
      obtain ⟨_, _, rfl⟩ := onlyScr_get e
      exact Or.inr ⟨_, _, rfl⟩
  have hS : SqL K H a (ns.map V.int) := by
    cases e : K.lookup a with
    | none => exact .inl (.inr ⟨scr vs, if_pos ⟨rfl, by rw [e]; rfl⟩⟩)
    | some o =>
      have q := kin a o e
      rw [ha] at q
      cases q
      exact .inr ⟨_, vs.toArray, _, e, rfl, rfl, rfl, by rw [List.size_toArray, hlen]; exact hl, by simpa using hv⟩
  obtain ⟨mc, l1, l2⟩ := lim
  have e0 : Env0 P w K mg (hidT s.heap H) callerA [] s H := by
    refine ⟨rfl, ⟨kinT, stays hm, ⟨mb, stays hb, hbb⟩, ⟨mc, stays l1, l2⟩⟩, fun b o q => of_hidT q, Nat.le_of_eq (hidT_size _ _), trivial, fun b q => ?_, hok, .of_eq hgen⟩
    cases q
  refine codeAny_mono ((F _ kinT (stays hm)).go callerA [] s H ⟨[.ref a], []⟩ [.ref a] [.ref a] _ _ rfl hr e0 (bind s (.ref a)) (.cons rfl .nil) (prom H hO hS)) fun r s' h => ?_
  match r, h with
  | .error e, h => exact (none_out H e s' h).elim
  | .ok .next, h => exact h.elim
  | .ok .brk, h => exact h.elim
  | .ok .cont, h => exact h.elim
  | .ok (.ret u), ⟨v, H', os, bare, un, hok', rv, q⟩ =>
    have q' : v = .bl true := q
    subst q'
    have hu : u = Value.bool true := rv
    subst hu
    refine ⟨rfl, OldK.of_keep fun b o z => ?_, os, bare⟩
    cases e : H b with
    | none => exact un.keep b o z e (by intro y; cases y) (by simp)
    | some t =>
      obtain ⟨rfl, _, rfl⟩ := onlyScr_get e
      rw [ha] at z
      cases z
      exact (hok' b _ (un.frzs b _ _ e)).1
/-- the end of a law -/
theorem walk_go {l : PySem.W.OpenLaw} {n k : Nat} {q : Program} {loose : List Str} {XP : (Str → Option Value) → Heap → Prop} {YP : World → Heap → Prop} {d : DefRec} {CX : CXT} {x : Str}
    (hn : l.most = some n) (hn2 : n ≤ sizeLine) (hdf : d.params.defaults = []) (hr : Room k callerA)
    (F : ∀ (w : World) (mg : Str → Option Value) (f : Addr) (h : Heap), YP w h → h.Ns mainGlobals mg → mg d.name = some (.ref f) → ∃ (K : PySem.W.Frag) (fd : FuncData) (sp : Sp), K.In h ∧ (∀ (s : Shared) (u : Value), BindsTo s fd ⟨[u], []⟩ [(x, u)]) ∧
      (∀ (H : Hp) (a : Addr) (ns : List Int), ns.length ≤ n → Only H → SqL K H a (ns.map V.int) → sp [.ref a] H (fun v _ => v = .bl true) fun _ _ _ => False) ∧ ∀ base : Heap, K.In base → base.Ns mainGlobals mg → FnG l.prog w K mg base CX k f fd [x] sp)
    (none_out : ∀ (H : Hp) (s : Shared) (e : Value) (s' : Shared), CX [] H s (fun _ _ _ => False) e s' → False) : PySem.W.WalkO q loose XP YP l.row.toRowW d [] (fun f vs => PySem.call f vs) :=
  Att.attach_call hn hdf fun w _ s _ _ f _ _ _ _ a _ ns G Y _ _ _ hmg hobj hints hlen hgen =>
    let ⟨_, _, _, kin, bind, prom, ok⟩ := F w _ f _ Y G.T.g hmg
    law_go kin G.T.g G.T.b G.T.builtins G.T.nolimit hgen hobj hints (Nat.le_trans hlen hn2) hr ok bind (fun H hO hS => prom H a ns hlen hO hS) fun H e s' => none_out H s e s'
/-! ## repr of data -/
section
variable {X : Cx}
/-- repr(x), x data of any depth but dicts -/
def rRepr (K : PySem.W.Frag) : List V → Hp → VK → Prop := fun xs H Q => ∃ (a : Addr) (d : PyData), xs = [.ref a] ∧ Dp K H (.ref a) d ∧ d.showable = true ∧ d.hasDict = false ∧ d.depth ≤ 60 ∧ d.shown.length ≤ sizeLine ∧ Q (.str d.shown) H
theorem call_repr {k : Nat} (hg : X.A.guards = some []) (hr : Room k X.A) : CallR X (.builtin "repr") (rRepr X.K) := by
  intro pins s σ H xs us Q I r h
  obtain ⟨a, d, rfl, hd, h1, h2, h3, h4, q⟩ := h
  obtain ⟨u, rfl, ru⟩ := vals1 r
  obtain ⟨as, rd⟩ := Dp.reads I d _ u hd ru
  have hu : u = Value.ref a := ru
  subst hu
  have room := hr.un
  refine repr_of_reads' rd h1 (fun z => by rw [h2] at z; cases z) hg (by omega) (fun _ _ e => e) (fun h' t tk hk => ?_) h4
  exact ⟨.str d.shown, H, I.kept hk, ⟨t, rfl⟩, q⟩
end
end Gd
namespace Gv
open PySem PySem.Spec PyProof.Rows L2
/-- repr(x), x any data but dicts -/
def rReprV (K : PySem.W.Frag) : List V → Hp → VK → Prop := fun xs H Q => ∃ (v : V) (d : PyData), xs = [v] ∧ Dp K H v d ∧ d.showable = true ∧ d.hasDict = false ∧ d.depth ≤ 60 ∧ d.shown.length ≤ sizeLine ∧ Q (.str d.shown) H
theorem call_reprV {X : Cx} {k : Nat} (hg : X.A.guards = some []) (hr : Room k X.A) : CallR X (.builtin "repr") (rReprV X.K) := by
  intro pins s σ H xs us Q I r h
  obtain ⟨v, d, rfl, hd, h1, h2, h3, h4, q⟩ := h
  cases hd with
  | lst a b => exact Gd.call_repr hg hr pins s σ H _ us Q I r ⟨_, _, rfl, .lst a b, h1, h2, h3, h4, q⟩
  | tup a b => exact Gd.call_repr hg hr pins s σ H _ us Q I r ⟨_, _, rfl, .tup a b, h1, h2, h3, h4, q⟩
  | non =>
    obtain ⟨u, rfl, ru⟩ := vals1 r
    have hu : u = Value.none := ru
    subst hu
    exact PySem.P.repr_of_none ⟨.str "None", H, I.tok _, ⟨_, rfl⟩, q⟩
  | bl b =>
    obtain ⟨u, rfl, ru⟩ := vals1 r
    have hu : u = Value.bool b := ru
    subst hu
    exact PySem.P.repr_of_bool ⟨.str _, H, I.tok _, ⟨_, rfl⟩, q⟩
  | int i =>
    obtain ⟨u, rfl, t, rfl⟩ := vals1 r
    exact PySem.P.repr_of_int (of_decide_eq_true h1) ⟨.str _, H, I.tok _, ⟨_, rfl⟩, q⟩
  | str x =>
    obtain ⟨u, rfl, t, rfl⟩ := vals1 r
    exact PySem.P.repr_of_str ⟨.str _, H, I.tok _, ⟨_, rfl⟩, q⟩ h4
end Gv
namespace Us
open PySem PySem.Spec PyProof.Rows L2
def rListOf (K : PySem.W.Frag) : List V → Hp → VK → Prop := fun xs H Q => ∃ p ys, xs = [V.ref p] ∧ (SqL K H p ys ∨ SqT K H p ys) ∧ ∀ l, H l = none → Q (.ref l) (upd H l (.lst ys))
/-- the block of a comprehension within a comprehension -/
theorem blkOk_in {N : List Str} {sc scopeO scope2 : Scope} {own : List (Str × Nat)} {cl : List (Str × Addr)} {C : Addr} {env : Env} (h : blkC N (relS scopeO sc) scope2 own = true) (e : env.scope = sc) : BlkOk N (compEnvC scopeO cl C env).scope scope2 own := by
  subst e
  exact blkOk_by h
section
variable {X : Cx} {K : PySem.W.Frag} {pos : Pos}
theorem pi_listK {tg l : Expr} {tl : TE} (hK : X.K = K) (hl : PE X l tl) : PI X tg l (iList K tl) := hK ▸ pi_list hl
theorem pi_tupK {tg l : Expr} {tl : TE} (hK : X.K = K) (hl : PE X l tl) : PI X tg l (iTup K tl) := hK ▸ pi_tup hl
theorem pg_tupK {es : List Expr} {k : Nat} {t : TGs} {n : Nat} (hK : X.K = K) (hc : X.calm = true) (h : PGs X es t)
    (hn : (assignEach es X.env).length = n := by rfl) (hst : (assignEach es X.env).findIdx? (·.1) = none := by rfl) : PG X (.Tuple es k pos) (gTup K n t) := hK ▸ pg_tup hc h hn hst
theorem pg_unlK {es : List Expr} {k : Nat} {t : TGs} {n : Nat} (hK : X.K = K) (hc : X.calm = true) (h : PGs X es t)
    (hn : (assignEach es X.env).length = n := by rfl) (hst : (assignEach es X.env).findIdx? (·.1) = none := by rfl) : PG X (.Tuple es k pos) (gUnl K n t) := hK ▸ pg_unl hc h hn hst
theorem pe_fldK {e : Expr} {f : Str} {ta : TE} (hK : X.K = K) (he : PE X e ta) (hb : attributeBase e f X.env (eval e X.env) = eval e X.env) : PE X (.Attribute e f pos) (tFld K ta f) := hK ▸ pe_fld he hb
end
end Us
namespace Pen
open PySem
def top (i : Nat) : Stmt := PySem.Challenge.pw_everycycle_k50_whole_words_and_bits.main.body.getD i (.Pass ⟨0, 0, 0, 0⟩)
abbrev cCyc : Stmt := top 1
abbrev cBadL : Stmt := top 2
abbrev cBadR : Stmt := top 3
abbrev cNoName : Stmt := top 4
abbrev sBetween : Stmt := top 6
abbrev sRow : Stmt := top 7
abbrev sRowB : Stmt := top 8
abbrev sRowsBits : Stmt := top 9
abbrev sWordNumber : Stmt := top 11
abbrev sNumberBits : Stmt := top 12
abbrev sOfKinds : Stmt := top 14
abbrev sGreatest : Stmt := top 15
abbrev sAreWords : Stmt := top 16
abbrev sInputWidths : Stmt := top 17
abbrev sTopItems : Stmt := top 18
abbrev sAreWordRows : Stmt := top 19
abbrev sWidthsOfInputs : Stmt := top 21
abbrev sNeedRows : Stmt := top 22
abbrev sWordsOf : Stmt := top 23
abbrev sWordsIn : Stmt := top 24
abbrev sBitsOf : Stmt := top 25
abbrev sBitsIn : Stmt := top 26
abbrev sFilling : Stmt := top 27
abbrev sPen : Stmt := top 29
abbrev sDraw : Stmt := top 30
abbrev sPick : Stmt := top 31
abbrev sLDrawnExpression : Stmt := top 32
abbrev sLModule : Stmt := top 33
abbrev sWhy : Stmt := top 34
abbrev sLPorts : Stmt := top 35
abbrev sLDrawnInputs : Stmt := top 36
abbrev sLWideModule : Stmt := top 37
abbrev sLDrawnWrite : Stmt := top 38
abbrev sLWideDesign : Stmt := top 39
abbrev sLAsLists : Stmt := top 40
abbrev sLBits : Stmt := top 41
abbrev sLaw : Stmt := top 42
end Pen
namespace Pen
open PySem PySem.Spec PyProof.Rows L2
/-! ## The pen: the source of all draws. Its three defs, once for each law -/
abbrev FnP (K : PySem.W.Frag) (x : Str) (st : Stmt) (f : Addr) (fd : FuncData) : Prop := FunD K x x (defArgs st) (defBody st) (defScope st) [] [] f fd
/-- the pen's pairs: cells, at, digits, count, fold -/
def cols (c : Addr) (a d n f : Int) : List (Key × V) := [(.inr "cells", .ref c), (.inr "at", .int a), (.inr "digits", .int d), (.inr "count", .int n), (.inr "fold", .int f)]
section
variable {c : Addr} {a d n f z : Int}
theorem get_cells : valV (cols c a d n f) (.inr "cells" : Key) = some (.ref c) := by rfl
theorem get_at : valV (cols c a d n f) (.inr "at" : Key) = some (.int a) := by rfl
theorem get_digits : valV (cols c a d n f) (.inr "digits" : Key) = some (.int d) := by rfl
theorem get_count : valV (cols c a d n f) (.inr "count" : Key) = some (.int n) := by rfl
theorem get_fold : valV (cols c a d n f) (.inr "fold" : Key) = some (.int f) := by rfl
theorem put_at : putK (cols c a d n f) (.inr "at" : Key) (.int z) = cols c z d n f := by rfl
theorem put_digits : putK (cols c a d n f) (.inr "digits" : Key) (.int z) = cols c a z n f := by rfl
theorem put_count : putK (cols c a d n f) (.inr "count" : Key) (.int z) = cols c a d z f := by rfl
theorem put_fold : putK (cols c a d n f) (.inr "fold" : Key) (.int z) = cols c a d n z := by rfl
variable {H : Hp} {p : Addr}
theorem dg_cells (h : H p = some (.dK (cols c a d n f))) : DGet H p (.str "cells") (some (.ref c)) := DGet.k (k := .inr "cells") h
theorem dg_at (h : H p = some (.dK (cols c a d n f))) : DGet H p (.str "at") (some (.int a)) := DGet.k (k := .inr "at") h
theorem dg_digits (h : H p = some (.dK (cols c a d n f))) : DGet H p (.str "digits") (some (.int d)) := DGet.k (k := .inr "digits") h
theorem dg_count (h : H p = some (.dK (cols c a d n f))) : DGet H p (.str "count") (some (.int n)) := DGet.k (k := .inr "count") h
theorem dg_fold (h : H p = some (.dK (cols c a d n f))) : DGet H p (.str "fold") (some (.int f)) := DGet.k (k := .inr "fold") h
theorem five : 5 < sizeLine := by decide
theorem dp_at (h : H p = some (.dK (cols c a d n f))) : DPut H p (.str "at") (.int z) (upd H p (.dK (cols c z d n f))) := DPut.k (k := .inr "at") h five
theorem dp_digits (h : H p = some (.dK (cols c a d n f))) : DPut H p (.str "digits") (.int z) (upd H p (.dK (cols c a z n f))) := DPut.k (k := .inr "digits") h five
theorem dp_count (h : H p = some (.dK (cols c a d n f))) : DPut H p (.str "count") (.int z) (upd H p (.dK (cols c a d z f))) := DPut.k (k := .inr "count") h five
theorem dp_fold (h : H p = some (.dK (cols c a d n f))) : DPut H p (.str "fold") (.int z) (upd H p (.dK (cols c a d n z))) := DPut.k (k := .inr "fold") h five
end
/-- a pen stands at p, its cells at c; so many draws were made at most -/
def PenC (H : Hp) (p c : Addr) (m : Nat) : Prop :=
  ∃ (ns : List Int) (a d n f : Int), H p = some (.dK (cols c a d n f)) ∧ H c = some (.lst (ns.map V.int)) ∧ ns.length ≤ 1000 ∧ 0 ≤ a ∧ 0 ≤ n ∧ n ≤ m ∧ 0 ≤ f ∧ f < 2147483648
/-- all but the object at p stands as it stood -/
def But (p : Addr) (H H' : Hp) : Prop := ∀ b o, H b = some o → b ≠ p → H' b = some o
theorem But.upd {p : Addr} {H : Hp} {o : HO} : But p H (upd H p o) := fun b o e h => by
  rw [upd_ne h]
  exact e
theorem But.trans {p : Addr} {H H1 H2 : Hp} (a : But p H H1) (b : But p H1 H2) : But p H H2 := fun c o e h => b c o (a c o e h) h
theorem But.refl {p : Addr} {H : Hp} : But p H H := fun _ _ e _ => e
theorem But.of_same {p : Addr} {H H' : Hp} (s : Same H H') : But p H H' := fun c o e _ => s c o e
theorem PenC.same {H H' : Hp} {p c : Addr} {m : Nat} (h : PenC H p c m) (s : Same H H') : PenC H' p c m := by
  obtain ⟨ns, a, d, n, f, h1, h2, r⟩ := h
  exact ⟨ns, a, d, n, f, s _ _ h1, s _ _ h2, r⟩
theorem PenC.more {H : Hp} {p c : Addr} {m m' : Nat} (h : PenC H p c m) (s : m ≤ m') : PenC H p c m' := by
  obtain ⟨ns, a, d, n, f, h1, h2, h3, ha, h4, h5, r⟩ := h
  exact ⟨ns, a, d, n, f, h1, h2, h3, ha, h4, by omega, r⟩
theorem PenC.upd {H : Hp} {p c q : Addr} {m : Nat} {o : HO} (h : PenC H p c m) (n1 : q ≠ p) (n2 : q ≠ c) : PenC (upd H q o) p c m := by
  obtain ⟨ns, a, d, n, f, h1, h2, r⟩ := h
  exact ⟨ns, a, d, n, f, by rw [upd_ne n1.symm]; exact h1, by rw [upd_ne n2.symm]; exact h2, r⟩
theorem PenC.free {H : Hp} {p c q : Addr} {m : Nat} (h : PenC H p c m) (e : H q = none) : q ≠ p ∧ q ≠ c := by
  obtain ⟨ns, a, d, n, f, h1, h2, r⟩ := h
  refine ⟨fun z => ?_, fun z => ?_⟩
  · rw [z, h1] at e
    cases e
  · rw [z, h2] at e
    cases e
/-- the script, as each def is handed it -/
def spPen (K : PySem.W.Frag) : Sp := fun vs H Q _ => ∃ (a : Addr) (ns : List Int), vs = [.ref a] ∧ SqL K H a (ns.map V.int) ∧ ns.length ≤ 63 ∧
  ∀ (p c : Addr) (H' : Hp), H p = none → Same H H' → PenC H' p c 0 → Q (.ref p) H'
def spDraw : Sp := fun vs H Q _ => ∃ (p c : Addr) (m : Nat) (many : Int), vs = [.ref p, .int many] ∧ PenC H p c m ∧ m ≤ 1000000000000 ∧ 0 < many ∧ many < 1073741824 ∧
  ∀ (r : Int) (H' : Hp), 0 ≤ r → r < many → PenC H' p c (m + 1) → But p H H' → Q (.int r) H'
def spPick (K : PySem.W.Frag) : Sp := fun vs H Q _ => ∃ (p c l : Addr) (m : Nat) (xs : List V), vs = [.ref p, .ref l] ∧ PenC H p c m ∧ m ≤ 1000000000000 ∧ l ≠ p ∧ SqL K H l xs ∧ 0 < xs.length ∧ xs.length ≤ 1000 ∧
  ∀ (v : V) (i : Nat) (H' : Hp), xs[i]? = some v → PenC H' p c (m + 1) → But p H H' → Q v H'
abbrev pN : List Str := ["_law_script", "_law_fold", "_law_cell"]
abbrev dN : List Str := ["_law_pen_here", "_law_many", "_law_cell", "_law_digit", "_law_blend"]
abbrev kN : List Str := ["_law_pen_here", "_law_some"]
theorem int_item {ns : List Int} {i : Nat} {y : V} (h : (ns.map V.int)[i]? = some y) : ∃ z, y = V.int z := by
  rw [List.getElem?_map] at h
  cases e : ns[i]? with
  | none =>
    rw [e] at h
    cases h
  | some u =>
    rw [e] at h
    exact ⟨u, (Option.some.inj h).symm⟩
structure Txt (mg : Str → Option Value) : Prop where
  len : mg "len" = none
  int : mg "int" = none
  list : mg "list" = none
section
variable {P : Program} {w : World} {K : PySem.W.Frag} {mg : Str → Option Value} {base : Heap} {f : Addr} {fd : FuncData}
theorem scPen : FnScope pN ["_law_script"] (defScope sPen) := ⟨rfl, rfl, rfl, by decide +kernel, rfl, by decide +kernel, by decide +kernel⟩
theorem scDraw : FnScope dN ["_law_pen_here", "_law_many"] (defScope sDraw) := ⟨rfl, rfl, rfl, by decide +kernel, rfl, by decide +kernel, by decide +kernel⟩
theorem scPick : FnScope kN ["_law_pen_here", "_law_some"] (defScope sPick) := ⟨rfl, rfl, rfl, by decide +kernel, rfl, by decide +kernel, by decide +kernel⟩
theorem ok_pen {CX : CXT} (F : FnP K "_law_pen" sPen f fd) (T : Txt mg) : FnOk P w K mg base CX 1 f fd ["_law_script"] (spPen K) := by
  refine F.ok scPen (fun vs H Q E h => ?_) (fun cdv A outer s H vs Q E hr h => ?_)
  · obtain ⟨a, ns, rfl, _⟩ := h
    rfl
  · obtain ⟨a, ns, rfl, hS, hl, k⟩ := h
    refine ⟨_, PSs.nox (pss_cons (ps_set (i := 1) scPen.nd rfl (Or.inl rfl) pe_int)
      (pss_cons (ps_for PassesOwn.never rfl (pi_list (pv 0)) (pg_name (i := 2) scPen.nd rfl (Or.inl rfl))
        (pss_one (ps_set (i := 1) scPen.nd rfl (Or.inl rfl) (pe_op op_mod (pe_callTy call_int1 (by rfl) T.int (by decide +kernel) (pa_cons (pe_op op_add (pe_op op_mul (pv 1) pe_int) (pv 2)) pa_nil)) pe_int))))
      (pss_one (ps_ret (pe_disp (pps_cons pe_str (pe_callTy call_list_of (by rfl) T.list (by decide +kernel) (pa_cons (pv 0) pa_nil)) (pps_cons pe_str pe_int (pps_cons pe_str pe_int (pps_cons pe_str pe_int (pps_cons pe_str (pv 1) pps_nil))))) (by rfl) (by rfl) (fun z => by cases z) (by decide)))))), ?_⟩
    refine ⟨_, rfl, a, rfl, ⟨_, hS⟩, for_list (K := K) (a := a) (xs := ns.map V.int) (fun i σ H2 => ∃ (z : Int) (v : Option V), σ = [some (.ref a), some (.int z), v] ∧ H2 = H ∧ 0 ≤ z ∧ z < 1000000007)
      ⟨0, none, rfl, rfl, by decide, by decide⟩ (fun i σ H2 _ ⟨_, _, _, e, _⟩ => by rw [e]; exact hS) ?_ ?_⟩
    · rintro i y σ H2 hi ⟨z, v, rfl, rfl, h0, h1⟩
      obtain ⟨u, rfl⟩ := int_item hi
      refine ⟨_, rfl, _, _, rfl, rfl, .inr ⟨by decide, by decide⟩, _, rfl, _, _, rfl, rfl, .inl ⟨_, rfl, _, _, rfl, rfl, (by show (0 : Int) < 1000000007; decide), ?_⟩⟩
      exact ⟨_, _, rfl, rfl, Int.emod_nonneg _ (by decide), Int.emod_lt_of_pos _ (by decide)⟩
    · rintro σ H2 ⟨z, v, rfl, rfl, h0, h1⟩
      intro p hp
      have sp : Same H2 (upd H2 p (.dK [])) := fun b o e => by
        rw [upd_ne (ne_of_none e hp)]
        exact e
      refine ⟨_, rfl, a, _, rfl, .inl (sp.seq hS), fun l hl0 => ?_⟩
      have npl : p ≠ l := fun q => by
        rw [← q, upd_same] at hl0
        cases hl0
      have hl1 : H2 l = none := by
        rw [upd_ne npl.symm] at hl0
        exact hl0
      refine ⟨_, rfl, by rw [upd_ne npl, upd_same], cols l 0 0 0 z, rfl, (by show 5 ≤ 15; decide), ?_⟩
      refine k p l _ hp (fun b o e => ?_) ⟨ns, 0, 0, 0, z, upd_same, ?_, by omega, by decide, by decide, by decide, h0, by omega⟩
      · rw [upd_ne (ne_of_none e hp), upd_ne (ne_of_none e hl1), upd_ne (ne_of_none e hp)]
        exact e
      · rw [upd_ne npl.symm, upd_same]
theorem ok_draw {CX : CXT} (F : FnP K "_law_draw" sDraw f fd) (T : Txt mg) : FnOk P w K mg base CX 1 f fd ["_law_pen_here", "_law_many"] spDraw := by
  refine F.ok scDraw (fun vs H Q E h => ?_) (fun cdv A outer s H vs Q E hr h => ?_)
  · obtain ⟨p, c, m, many, rfl, _⟩ := h
    rfl
  · obtain ⟨p, c, m, many, rfl, ⟨ns, a, d, n, fo, hp, hc, hz, a0, n0, nm, f0, f1⟩, hm, m0, m1, k⟩ := h
    have hu := hu_of hr
    have ncp : c ≠ p := ne_of hc hp (by intro z; cases z)
    refine ⟨_, PSs.nox (pss_cons (ps_dput hu (pv 0) pe_str (pe_op op_add (pe_dget hu (pv 0) pe_str (fun _ _ => rfl)) pe_int) rfl)
      (C8.pss_cut (ps_if (PW.pt (pw_and (pt_cmpR op_eq (pe_dget hu (pv 0) pe_str (fun _ _ => rfl)) pe_int (nomark _))
          (pw_and1 (pt_cmpR op_lt (pe_dget hu (pv 0) pe_str (fun _ _ => rfl)) (pe_callB call_len_seq (by rfl) T.len PySem.boot_len (pa_cons (pe_dget hu (pv 0) pe_str (fun _ _ => rfl)) pa_nil)) (nomark _)))))
        (pss_cons (ps_set (i := 2) scDraw.nd rfl (Or.inl rfl) (pe_ix ix_list (pe_dget hu (pv 0) pe_str (fun _ _ => rfl)) (pe_dget hu (pv 0) pe_str (fun _ _ => rfl)) (fun _ _ => rfl)))
        (pss_cons (ps_dput hu (pv 0) pe_str (pe_op op_add (pe_dget hu (pv 0) pe_str (fun _ _ => rfl)) pe_int) rfl)
        (pss_one (ps_if (pt_cmpR op_ge (pv 2) (pe_op op_pow pe_int pe_int) (nomark _))
          (pss_one (ps_dput hu (pv 0) pe_str (pe_op op_sub (pv 2) (pe_op op_pow pe_int pe_int)) rfl))
          (pss_one (ps_dput hu (pv 0) pe_str (pe_op op_mod (pe_callTy call_int1 (by rfl) T.int (by decide +kernel) (pa_cons (pe_op op_add (pe_op op_mul (pe_dget hu (pv 0) pe_str (fun _ _ => rfl)) pe_int) (pv 2)) pa_nil)) pe_int) rfl))))))
        pss_nil)
      (pss_cons (ps_if (pt_cmpR op_gt (pe_dget hu (pv 0) pe_str (fun _ _ => rfl)) pe_int (nomark _))
        (pss_cons (ps_set (i := 3) scDraw.nd rfl (Or.inl rfl) (pe_op op_mod (pe_callTy call_int1 (by rfl) T.int (by decide +kernel) (pa_cons (pe_dget hu (pv 0) pe_str (fun _ _ => rfl)) pa_nil)) (pv 1)))
        (pss_cons (ps_dput hu (pv 0) pe_str (pe_op op_fdiv (pe_dget hu (pv 0) pe_str (fun _ _ => rfl)) (pv 1)) rfl)
        (pss_one (ps_ret (pv 3)))))
        pss_nil)
      (pss_cons (ps_set (i := 4) scDraw.nd rfl (Or.inl rfl) (pe_op op_add (pe_op op_add (pe_dget hu (pv 0) pe_str (fun _ _ => rfl)) (pe_op op_mul (pe_dget hu (pv 0) pe_str (fun _ _ => rfl)) pe_int)) pe_int))
      (pss_one (ps_ret (pe_op op_mod (pe_op op_fdiv (pe_callTy call_int1 (by rfl) T.int (by decide +kernel) (pa_cons (pe_op op_mod (pe_op op_pow (pv 4) pe_int) pe_int) pa_nil)) pe_int) (pv 1)))))))), ?_⟩
    -- count
    refine ⟨_, rfl, _, _, rfl, dg_count hp, _, _, rfl, rfl, _, rfl, p, _, rfl, dp_count hp, ?_⟩
    have hp1 : ∀ {o : HO}, upd H p o p = some o := upd_same
    have hc1 : ∀ {o : HO}, upd H p o c = some (.lst (ns.map V.int)) := by
      intro o
      rw [upd_ne ncp]
      exact hc
    refine ⟨fun σ H2 => ∃ (a' d' fo' : Int) (cell : Option V), σ = [some (.ref p), some (.int many), cell, none, none] ∧ H2 = upd H p (.dK (cols c a' d' (n + 1) fo')) ∧ 0 ≤ a' ∧ 0 ≤ fo' ∧ fo' < 2147483648, ?_, ?_⟩
    · refine ⟨_, rfl, _, _, rfl, dg_digits hp1, rfl, _, rfl, ?_⟩
      refine ite2 (fun _ => ?_) (fun _ => ?_)
      · refine ⟨_, rfl, _, _, rfl, dg_at hp1, _, rfl, _, _, rfl, dg_cells hp1, _, _, rfl, .inl (SqL.of hc1), _, _, rfl, rfl, _, rfl, ?_⟩
        refine ite2 (fun hlt => ?_) (fun _ => ?_)
        · have hlt := of_decide_eq_true hlt
          have hj : a.toNat < (ns.map V.int).length := by omega
          obtain ⟨u, hu2⟩ := int_item (List.getElem?_eq_getElem hj)
          have hit : (ns.map V.int)[a.toNat]? = some (V.int u) := by
            rw [List.getElem?_eq_getElem hj, hu2]
          refine ⟨_, rfl, _, _, rfl, dg_cells hp1, _, rfl, _, _, rfl, dg_at hp1, _, _, _, _, rfl, rfl, SqL.of hc1, at_of (j := a.toNat) (by omega) hit, ?_⟩
          refine ⟨_, rfl, _, _, rfl, dg_at hp1, _, _, rfl, rfl, _, rfl, p, _, rfl, dp_at hp1, ?_⟩
          rw [upd_upd]
          refine ⟨_, rfl, _, _, rfl, rfl, ⟨by decide, by decide, by decide⟩, _, _, rfl, rfl, _, rfl, ?_⟩
          refine ite2 (fun _ => ?_) (fun _ => ?_)
          · refine ⟨_, rfl, _, _, rfl, rfl, ⟨by decide, by decide, by decide⟩, _, _, rfl, rfl, _, rfl, p, _, rfl, dp_digits hp1, ?_⟩
            rw [upd_upd]
            exact ⟨_, _, _, _, rfl, rfl, by omega, f0, f1⟩
          · refine ⟨_, rfl, _, _, rfl, dg_fold hp1, _, _, rfl, rfl, .inr ⟨by decide, by decide⟩, _, rfl, _, _, rfl, rfl, .inl ⟨_, rfl, _, _, rfl, rfl, (by show (0 : Int) < 2147483587; decide), ?_⟩⟩
            refine ⟨_, rfl, p, _, rfl, dp_fold hp1, ?_⟩
            rw [upd_upd]
            exact ⟨_, _, _, _, rfl, rfl, by omega, Int.emod_nonneg _ (by decide), Int.lt_trans (Int.emod_lt_of_pos _ (by decide)) (by decide)⟩
        · exact ⟨_, _, _, _, rfl, rfl, a0, f0, f1⟩
      · exact ⟨_, _, _, _, rfl, rfl, a0, f0, f1⟩
    · rintro σ H2 ⟨a', d', fo', cell, rfl, rfl, h0, g0, g1⟩
      refine ⟨_, rfl, _, _, rfl, dg_digits hp1, _, _, rfl, rfl, _, rfl, ?_⟩
      refine ite2 (fun _ => ?_) (fun _ => ?_)
      · refine ⟨_, rfl, _, _, rfl, dg_digits hp1, .inl ⟨_, rfl, _, rfl, _, _, rfl, rfl, m0, ?_⟩⟩
        refine ⟨_, rfl, _, _, rfl, dg_digits hp1, _, rfl, _, _, rfl, rfl, ⟨m0, m1⟩, _, rfl, p, _, rfl, dp_digits hp1, ?_⟩
        rw [upd_upd]
        refine ⟨_, rfl, k _ _ (Int.emod_nonneg _ (by omega)) (Int.emod_lt_of_pos _ m0) ⟨ns, _, _, _, _, hp1, hc1, hz, h0, by omega, by omega, g0, g1⟩ But.upd⟩
      · refine ⟨_, rfl, _, _, rfl, dg_fold hp1, _, rfl, _, _, rfl, dg_count hp1, _, _, rfl, rfl, .inr ⟨by decide, by decide⟩, _, _, rfl, rfl, _, _, rfl, rfl, ?_⟩
        refine ⟨_, rfl, _, _, rfl, rfl, ⟨by decide, by decide, ?_⟩, _, _, rfl, rfl, (by show (0 : Int) < 2305843009213693951; decide), .inl ⟨_, rfl, _, _, rfl, rfl, ⟨by decide, by decide⟩, _, rfl, _, _, rfl, rfl, m0, ?_⟩⟩
        · omega
        · exact k _ _ (Int.emod_nonneg _ (by omega)) (Int.emod_lt_of_pos _ m0) ⟨ns, _, _, _, _, hp1, hc1, hz, h0, by omega, by omega, g0, g1⟩ But.upd
theorem ok_pick {CX : CXT} {fD : Addr} {fdD : FuncData} (F : FnP K "_law_pick" sPick f fd) (T : Txt mg) (FD : FnP K "_law_draw" sDraw fD fdD) (gD : mg "_law_draw" = some (.ref fD)) (hCX : ∀ X, Passes CX X E0 := by exact fun X => pass0) : FnOk P w K mg base CX 2 f fd ["_law_pen_here", "_law_some"] (spPick K) := by
  have GD : FnOk P w K mg base CX0 1 fD fdD ["_law_pen_here", "_law_many"] spDraw := ok_draw FD T
  have bD : Binds K fdD ["_law_pen_here", "_law_many"] [] := FD.bindsN fun _ _ _ _ _ _ us hl => match us, hl with | [_, _], _ => rfl
  refine F.ok scPick (fun vs H Q E h => ?_) (fun cdv A outer s H vs Q E hr h => ?_)
  · obtain ⟨p, c, l, m, xs, rfl, _⟩ := h
    rfl
  · obtain ⟨p, c, l, m, xs, rfl, hP, hm, hlp, hS, h0, h1, k⟩ := h
    refine ⟨_, PSs.nox (pss_one (ps_ret (pe_ix ix_list (pv 1) (pe_call GD hr rfl gD FD.kp bD .nil pass0 (pa_cons (pv 0) (pa_cons (pe_callB call_len_seq (by rfl) T.len PySem.boot_len (pa_cons (pv 1) pa_nil)) pa_nil))) (fun _ _ => rfl)))), ?_⟩
    refine ⟨_, rfl, _, rfl, _, rfl, _, _, rfl, .inl hS, p, c, m, _, rfl, hP, hm, by omega, by omega, fun r H' r0 r1 hP' hB => ?_⟩
    have hj : r.toNat < xs.length := by omega
    have hS' : SqL K H' l xs := by
      rcases hS with (h | ⟨o, h⟩) | h
      · exact .inl (.inl (hB _ _ h hlp))
      · exact .inl (.inr ⟨o, hB _ _ h hlp⟩)
      · exact .inr h
    exact ⟨_, _, _, _, rfl, rfl, hS', at_of (j := r.toNat) (by omega) (List.getElem?_eq_getElem hj), k _ _ _ (List.getElem?_eq_getElem hj) hP' hB⟩
end
end Pen
namespace Ki
open PySem PySem.Spec PyProof.Rows L2 Pen Dat
/-! ## Of which kind a value is -/
structure Tx (mg : Str → Option Value) : Prop where
  isi : mg "isinstance" = none
  int : mg "int" = none
  bool : mg "bool" = none
  tuple : mg "tuple" = none
  list : mg "list" = none
  len : mg "len" = none
  all : mg "all" = none
def betD (d : PyData) (lo hi : Int) : Bool :=
  match d with
  | .int i => decide (lo ≤ i) && decide (i ≤ hi)
  | _ => false
def fromD (d : PyData) (lo : Int) : Bool :=
  match d with
  | .int i => decide (i ≥ lo)
  | _ => false
def rowsD (d : PyData) : List PyData :=
  match d with
  | .list ds => ds
  | .tuple ds => ds
  | _ => []
def rowB (d : PyData) (many lo hi : Int) : Bool := isRowD d && (decide (((rowsD d).length : Int) = many) && (rowsD d).all fun e => betD e lo hi)
def spBetween (K : PySem.W.Frag) : Sp := fun vs H Q _ => ∃ (v : V) (lo hi : Int) (d : PyData), vs = [v, .int lo, .int hi] ∧ Dp K H v d ∧ Q (.bl (betD d lo hi)) H
def spFrom (K : PySem.W.Frag) : Sp := fun vs H Q _ => ∃ (v : V) (lo : Int) (d : PyData), vs = [v, .int lo] ∧ Dp K H v d ∧ Q (.bl (fromD d lo)) H
def spRow (K : PySem.W.Frag) : Sp := fun vs H Q _ => ∃ (v : V) (d : PyData), vs = [v] ∧ Dp K H v d ∧ ∀ H', Same H H' → Q (.bl (isRowD d)) H'
def spRowB (K : PySem.W.Frag) : Sp := fun vs H Q _ => ∃ (v : V) (many lo hi : Int) (d : PyData), vs = [v, .int many, .int lo, .int hi] ∧ Dp K H v d ∧ (rowsD d).length ≤ 1000 ∧ ∀ H', Same H H' → Q (.bl (rowB d many lo hi)) H'
section
variable {P : Program} {w : World} {K : PySem.W.Frag} {mg : Str → Option Value} {base : Heap} {f : Addr} {fd : FuncData}
theorem same_new {H : Hp} {p : Addr} {u : HO} (np : H p = none) : Same H (upd H p u) := fun b o e => by
  rw [upd_ne (ne_of_none e np)]
  exact e
theorem scBetween : FnScope ["value", "least", "most"] ["value", "least", "most"] (defScope sBetween) := ⟨rfl, rfl, rfl, by decide +kernel, rfl, by decide +kernel, by decide +kernel⟩
theorem scRow : FnScope ["value"] ["value"] (defScope sRow) := ⟨rfl, rfl, rfl, by decide +kernel, rfl, by decide +kernel, by decide +kernel⟩
abbrev rbN : List Str := ["value", "many", "least", "most", "part"]
theorem scRowB : FnScope rbN ["value", "many", "least", "most"] (defScope sRowB) := ⟨rfl, rfl, rfl, by decide +kernel, rfl, by decide +kernel, by decide +kernel⟩
theorem ok_between (F : FnP K "is_between" sBetween f fd) (T : Tx mg) : FnOk P w K mg base CX0 1 f fd ["value", "least", "most"] (spBetween K) := by
  refine F.ok scBetween (fun vs H Q E h => ?_) (fun cdv A outer s H vs Q E hr h => ?_)
  · obtain ⟨v, lo, hi, d, rfl, _⟩ := h
    rfl
  · obtain ⟨v, lo, hi, d, rfl, hd, q⟩ := h
    refine ⟨_, PSs.nox (pss_one (ps_ret (pe_and (pe_callB call_isi (by rfl) T.isi (by decide +kernel) (pa_cons (pv 0) (pa_cons (pe_bltn (v := .ty "int") (by rfl) T.int (by decide +kernel) rfl) pa_nil)))
      (pe_and (pe_not (pe_callB call_isi (by rfl) T.isi (by decide +kernel) (pa_cons (pv 0) (pa_cons (pe_bltn (v := .ty "bool") (by rfl) T.bool (by decide +kernel) rfl) pa_nil))))
      (pe_one (pe_chain op_le op_le (pv 1) (pv 0) (pv 2))))))), ?_⟩
    refine ⟨_, rfl, _, _, _, _, _, rfl, .ty _, ty_of hd, kit_int hd, _, rfl, ?_⟩
    have kb := kit_bool hd
    have tb := ty_of hd
    cases hd with
    | non => exact iteF q
    | str x => exact iteF q
    | lst _ _ => exact iteF q
    | tup _ _ => exact iteF q
    | bl b => exact iteT ⟨_, rfl, _, _, _, _, _, rfl, .ty _, tb, kb, _, rfl, _, rfl, iteF q⟩
    | int i =>
      refine iteT ⟨_, rfl, _, _, _, _, _, rfl, .ty _, tb, kb, _, rfl, _, rfl, iteT ?_⟩
      refine ⟨_, rfl, _, rfl, _, _, rfl, rfl, _, rfl, ite2 (fun h1 => ?_) (fun h1 => ?_)⟩
      · refine ⟨_, rfl, _, _, rfl, rfl, ?_⟩
        have e : (decide (lo ≤ i) && decide (i ≤ hi)) = decide (i ≤ hi) := by
          rw [h1]
          rfl
        show Q (V.bl (decide (i ≤ hi))) H
        rw [← e]
        exact q
      · have e : (decide (lo ≤ i) && decide (i ≤ hi)) = false := by
          rw [Bool.eq_false_iff.mpr h1]
          rfl
        show Q (V.bl false) H
        rw [← e]
        exact q
theorem ok_row (F : FnP K "is_row" sRow f fd) (T : Tx mg) : FnOk P w K mg base CX0 1 f fd ["value"] (spRow K) := by
  refine F.ok scRow (fun vs H Q E h => ?_) (fun cdv A outer s H vs Q E hr h => ?_)
  · obtain ⟨v, d, rfl, _⟩ := h
    rfl
  · obtain ⟨v, d, rfl, hd, q⟩ := h
    refine ⟨_, PSs.nox (pss_one (ps_ret (pe_callB call_isiT (by rfl) T.isi (by decide +kernel) (pa_cons (pv 0) (pa_cons (pe_tup (pa_cons (pe_bltn (v := .ty "tuple") (by rfl) T.tuple (by decide +kernel) rfl) (pa_cons (pe_bltn (v := .ty "list") (by rfl) T.list (by decide +kernel) rfl) pa_nil))) pa_nil))))), ?_⟩
    refine ⟨_, rfl, (by show 2 ≤ sizeLine; decide), fun p np => ?_⟩
    exact ⟨_, _, _, _, _, _, rfl, upd_same, .cons (.ty _) (.cons (.ty _) .nil), ty_of (dp_same (same_new np) hd), kit_row hd, q _ (same_new np)⟩
theorem take_more {α : Type} {xs : List α} {i : Nat} {x : α} (h : xs[i]? = some x) : xs.take (i + 1) = xs.take i ++ [x] := by
  rw [List.take_succ, h]
  rfl
theorem yes_of {σ : L2.St} {H : Hp} {A B : Hp → Prop} (h : A H) : tYes σ H fun b H3 => if b = true then A H3 else B H3 := by
  show if true = true then A H else B H
  exact iteT h
theorem ok_rowB {fB fR : Addr} {fdB fdR : FuncData} (F : FnP K "is_row_between" sRowB f fd) (T : Tx mg) (FB : FnP K "is_between" sBetween fB fdB) (gB : mg "is_between" = some (.ref fB)) (FR : FnP K "is_row" sRow fR fdR) (gR : mg "is_row" = some (.ref fR)) :
    FnOk P w K mg base CX0 2 f fd ["value", "many", "least", "most"] (spRowB K) := by
  have GB : FnOk P w K mg base CX0 1 fB fdB ["value", "least", "most"] (spBetween K) := ok_between FB T
  have GR : FnOk P w K mg base CX0 1 fR fdR ["value"] (spRow K) := ok_row FR T
  have bB : Binds K fdB ["value", "least", "most"] [] := FB.bindsN fun _ _ _ _ _ _ us hl => match us, hl with | [_, _, _], _ => rfl
  have bR : Binds K fdR ["value"] [] := FR.bindsN fun _ _ _ _ _ _ us hl => match us, hl with | [_], _ => rfl
  refine F.ok scRowB (fun vs H Q E h => ?_) (fun cdv A outer s H vs Q E hr h => ?_)
  · obtain ⟨v, many, lo, hi, d, rfl, _⟩ := h
    rfl
  · obtain ⟨v, many, lo, hi, d, rfl, hd, hz, q⟩ := h
    cases hd with
    | lst hs ha =>
      rename_i a vs ds
      have hlen := dps_len ha
      have hz' : ds.length ≤ 1000 := hz
      refine ⟨_, PSs.nox (pss_one (ps_ret (pe_and (pe_call GR hr (by rfl) gR FR.kp bR .nil pass0 (pa_cons (pv 0) pa_nil))
        (pe_and (pe_cmpR op_eq (pe_callB call_len_seq (by rfl) T.len PySem.boot_len (pa_cons (pv 0) pa_nil)) (pv 1) (nomark _))
        (pe_one (pe_callB (cr_all rfl) (by rfl) T.all (by decide +kernel) (pa_cons
          (pe_lc (own := [("part", 4)]) (g := gName 4) (tt := tYes) rfl scRowB.nd (pi_list (pv 0)) (blkOk_by (N := rbN) (sc := defScope sRowB) (by decide +kernel)) (fun _ _ _ _ _ => pg_name (i := 4) scRowB.nd rfl (Or.inl rfl)) (fun _ _ _ _ _ => pts_nil)
            (fun _ _ _ _ _ => pe_call GB hr (by rfl) gB FB.kp bB .nil pass0 (pa_cons (pv 4) (pa_cons (pv 2) (pa_cons (pv 3) pa_nil))))) pa_nil))))))), ?_⟩
      refine ⟨_, rfl, _, _, rfl, .lst hs ha, fun H1 s1 => ⟨_, rfl, iteT ?_⟩⟩
      refine ⟨_, rfl, _, _, rfl, .inl (s1.seq hs), _, rfl, rfl, _, rfl, ite2 (fun e1 => ?_) (fun e1 => ?_)⟩
      · have e2 : (ds.length : Int) = many := by
          rw [← hlen]
          exact V.int.inj (of_decide_eq_true e1)
        refine ⟨_, rfl, a, rfl, ⟨_, s1.seq hs⟩, fun D nD => ?_⟩
        have sD : Same H1 (upd H1 D (.lst [])) := same_new nD
        refine lc_list (K := K) (a := a) (xs := vs) (fun i H2 => Same H1 H2 ∧ H2 D = some (.lst ((ds.take i).map fun e => V.bl (betD e lo hi)))) ⟨sD, by rw [upd_same]; rfl⟩ (fun i H2 _ ⟨s2, _⟩ => s2.seq (s1.seq hs)) ?_ ?_
        · rintro i v H2 hi ⟨s2, h2⟩
          obtain ⟨e, he, hv⟩ := dps_get ha hi
          refine ⟨rfl, yes_of ?_⟩
          refine ⟨_, rfl, _, rfl, _, rfl, _, _, _, e, rfl, dp_same (s1.trans s2) hv, _, h2, ?_, fun b o z => ?_, ?_⟩
          · rw [List.length_map, List.length_take]
            exact Nat.lt_of_le_of_lt (Nat.min_le_right _ _) (Nat.lt_of_le_of_lt hz' (by decide))
          · rw [upd_ne (ne_of_none z nD)]
            exact s2 _ _ z
          · rw [upd_same, take_more he, List.map_append]
            rfl
        · rintro H2 ⟨s2, h2⟩
          rw [hlen, List.take_length] at h2
          refine ⟨D, ds.map fun e => betD e lo hi, rfl, SqL.of ?_, ?_⟩
          · rw [h2, List.map_map]
            rfl
          · have e3 : rowB (.list ds) many lo hi = (ds.map fun e => betD e lo hi).all id := by
              show (true && (decide ((ds.length : Int) = many) && ds.all fun e => betD e lo hi)) = _
              rw [decide_eq_true e2, List.all_map]
              rfl
            rw [← e3]
            exact q _ (s1.trans s2)
      · have e2 : ¬ (ds.length : Int) = many := fun z => e1 (decide_eq_true (by rw [hlen, z]))
        have e3 : rowB (.list ds) many lo hi = false := by
          show (true && (decide ((ds.length : Int) = many) && ds.all fun e => betD e lo hi)) = false
          rw [decide_eq_false e2]
          rfl
        rw [← e3]
        exact q _ s1
    | tup hs ha =>
      rename_i a vs ds
      have hlen := dps_len ha
      have hz' : ds.length ≤ 1000 := hz
      refine ⟨_, PSs.nox (pss_one (ps_ret (pe_and (pe_call GR hr (by rfl) gR FR.kp bR .nil pass0 (pa_cons (pv 0) pa_nil))
        (pe_and (pe_cmpR op_eq (pe_callB call_len_seq (by rfl) T.len PySem.boot_len (pa_cons (pv 0) pa_nil)) (pv 1) (nomark _))
        (pe_one (pe_callB (cr_all rfl) (by rfl) T.all (by decide +kernel) (pa_cons
          (pe_lc (own := [("part", 4)]) (g := gName 4) (tt := tYes) rfl scRowB.nd (pi_tup (pv 0)) (blkOk_by (N := rbN) (sc := defScope sRowB) (by decide +kernel)) (fun _ _ _ _ _ => pg_name (i := 4) scRowB.nd rfl (Or.inl rfl)) (fun _ _ _ _ _ => pts_nil)
            (fun _ _ _ _ _ => pe_call GB hr (by rfl) gB FB.kp bB .nil pass0 (pa_cons (pv 4) (pa_cons (pv 2) (pa_cons (pv 3) pa_nil))))) pa_nil))))))), ?_⟩
      refine ⟨_, rfl, _, _, rfl, .tup hs ha, fun H1 s1 => ⟨_, rfl, iteT ?_⟩⟩
      refine ⟨_, rfl, _, _, rfl, .inr (seqT_same s1 hs), _, rfl, rfl, _, rfl, ite2 (fun e1 => ?_) (fun e1 => ?_)⟩
      · have e2 : (ds.length : Int) = many := by
          rw [← hlen]
          exact V.int.inj (of_decide_eq_true e1)
        refine ⟨_, rfl, a, rfl, ⟨_, seqT_same s1 hs⟩, fun D nD => ?_⟩
        have sD : Same H1 (upd H1 D (.lst [])) := same_new nD
        refine lc_tup (K := K) (a := a) (xs := vs) (fun i H2 => Same H1 H2 ∧ H2 D = some (.lst ((ds.take i).map fun e => V.bl (betD e lo hi)))) ⟨sD, by rw [upd_same]; rfl⟩ (fun i H2 _ ⟨s2, _⟩ => seqT_same s2 (seqT_same s1 hs)) ?_ ?_
        · rintro i v H2 hi ⟨s2, h2⟩
          obtain ⟨e, he, hv⟩ := dps_get ha hi
          refine ⟨rfl, yes_of ?_⟩
          refine ⟨_, rfl, _, rfl, _, rfl, _, _, _, e, rfl, dp_same (s1.trans s2) hv, _, h2, ?_, fun b o z => ?_, ?_⟩
          · rw [List.length_map, List.length_take]
            exact Nat.lt_of_le_of_lt (Nat.min_le_right _ _) (Nat.lt_of_le_of_lt hz' (by decide))
          · rw [upd_ne (ne_of_none z nD)]
            exact s2 _ _ z
          · rw [upd_same, take_more he, List.map_append]
            rfl
        · rintro H2 ⟨s2, h2⟩
          rw [hlen, List.take_length] at h2
          refine ⟨D, ds.map fun e => betD e lo hi, rfl, SqL.of ?_, ?_⟩
          · rw [h2, List.map_map]
            rfl
          · have e3 : rowB (.tuple ds) many lo hi = (ds.map fun e => betD e lo hi).all id := by
              show (true && (decide ((ds.length : Int) = many) && ds.all fun e => betD e lo hi)) = _
              rw [decide_eq_true e2, List.all_map]
              rfl
            rw [← e3]
            exact q _ (s1.trans s2)
      · have e2 : ¬ (ds.length : Int) = many := fun z => e1 (decide_eq_true (by rw [hlen, z]))
        have e3 : rowB (.tuple ds) many lo hi = false := by
          show (true && (decide ((ds.length : Int) = many) && ds.all fun e => betD e lo hi)) = false
          rw [decide_eq_false e2]
          rfl
        rw [← e3]
        exact q _ s1
    | non =>
      refine ⟨_, PSs.nox (pss_one (ps_ret (pe_and (pe_call GR hr (by rfl) gR FR.kp bR .nil pass0 (pa_cons (pv 0) pa_nil))
        (pe_and (pe_cmpR op_eq (pe_callB call_len_seq (by rfl) T.len PySem.boot_len (pa_cons (pv 0) pa_nil)) (pv 1) (nomark _))
        (pe_one (pe_callB (cr_all rfl) (by rfl) T.all (by decide +kernel) (pa_cons
          (pe_lc (own := [("part", 4)]) (g := gName 4) (tt := tYes) rfl scRowB.nd (pi_list (pv 0)) (blkOk_by (N := rbN) (sc := defScope sRowB) (by decide +kernel)) (fun _ _ _ _ _ => pg_name (i := 4) scRowB.nd rfl (Or.inl rfl)) (fun _ _ _ _ _ => pts_nil)
            (fun _ _ _ _ _ => pe_call GB hr (by rfl) gB FB.kp bB .nil pass0 (pa_cons (pv 4) (pa_cons (pv 2) (pa_cons (pv 3) pa_nil))))) pa_nil))))))), ?_⟩
      exact ⟨_, rfl, _, _, rfl, .non, fun H1 s1 => ⟨_, rfl, iteF (q _ s1)⟩⟩
    | bl b =>
      refine ⟨_, PSs.nox (pss_one (ps_ret (pe_and (pe_call GR hr (by rfl) gR FR.kp bR .nil pass0 (pa_cons (pv 0) pa_nil))
        (pe_and (pe_cmpR op_eq (pe_callB call_len_seq (by rfl) T.len PySem.boot_len (pa_cons (pv 0) pa_nil)) (pv 1) (nomark _))
        (pe_one (pe_callB (cr_all rfl) (by rfl) T.all (by decide +kernel) (pa_cons
          (pe_lc (own := [("part", 4)]) (g := gName 4) (tt := tYes) rfl scRowB.nd (pi_list (pv 0)) (blkOk_by (N := rbN) (sc := defScope sRowB) (by decide +kernel)) (fun _ _ _ _ _ => pg_name (i := 4) scRowB.nd rfl (Or.inl rfl)) (fun _ _ _ _ _ => pts_nil)
            (fun _ _ _ _ _ => pe_call GB hr (by rfl) gB FB.kp bB .nil pass0 (pa_cons (pv 4) (pa_cons (pv 2) (pa_cons (pv 3) pa_nil))))) pa_nil))))))), ?_⟩
      exact ⟨_, rfl, _, _, rfl, .bl b, fun H1 s1 => ⟨_, rfl, iteF (q _ s1)⟩⟩
    | int i =>
      refine ⟨_, PSs.nox (pss_one (ps_ret (pe_and (pe_call GR hr (by rfl) gR FR.kp bR .nil pass0 (pa_cons (pv 0) pa_nil))
        (pe_and (pe_cmpR op_eq (pe_callB call_len_seq (by rfl) T.len PySem.boot_len (pa_cons (pv 0) pa_nil)) (pv 1) (nomark _))
        (pe_one (pe_callB (cr_all rfl) (by rfl) T.all (by decide +kernel) (pa_cons
          (pe_lc (own := [("part", 4)]) (g := gName 4) (tt := tYes) rfl scRowB.nd (pi_list (pv 0)) (blkOk_by (N := rbN) (sc := defScope sRowB) (by decide +kernel)) (fun _ _ _ _ _ => pg_name (i := 4) scRowB.nd rfl (Or.inl rfl)) (fun _ _ _ _ _ => pts_nil)
            (fun _ _ _ _ _ => pe_call GB hr (by rfl) gB FB.kp bB .nil pass0 (pa_cons (pv 4) (pa_cons (pv 2) (pa_cons (pv 3) pa_nil))))) pa_nil))))))), ?_⟩
      exact ⟨_, rfl, _, _, rfl, .int i, fun H1 s1 => ⟨_, rfl, iteF (q _ s1)⟩⟩
    | str x =>
      refine ⟨_, PSs.nox (pss_one (ps_ret (pe_and (pe_call GR hr (by rfl) gR FR.kp bR .nil pass0 (pa_cons (pv 0) pa_nil))
        (pe_and (pe_cmpR op_eq (pe_callB call_len_seq (by rfl) T.len PySem.boot_len (pa_cons (pv 0) pa_nil)) (pv 1) (nomark _))
        (pe_one (pe_callB (cr_all rfl) (by rfl) T.all (by decide +kernel) (pa_cons
          (pe_lc (own := [("part", 4)]) (g := gName 4) (tt := tYes) rfl scRowB.nd (pi_list (pv 0)) (blkOk_by (N := rbN) (sc := defScope sRowB) (by decide +kernel)) (fun _ _ _ _ _ => pg_name (i := 4) scRowB.nd rfl (Or.inl rfl)) (fun _ _ _ _ _ => pts_nil)
            (fun _ _ _ _ _ => pe_call GB hr (by rfl) gB FB.kp bB .nil pass0 (pa_cons (pv 4) (pa_cons (pv 2) (pa_cons (pv 3) pa_nil))))) pa_nil))))))), ?_⟩
      exact ⟨_, rfl, _, _, rfl, .str x, fun H1 s1 => ⟨_, rfl, iteF (q _ s1)⟩⟩
end
end Ki
namespace Fi
open PySem PySem.Spec PyProof.Rows L2 Pen Dat
/-! ## What never changes: tuples, locked things, instances -/
def firm : HO → Bool
  | .tup _ => true
  | .frz _ _ => true
  | .ins _ _ _ => true
  | _ => false
def Firm (H H' : Hp) : Prop := ∀ b o, H b = some o → firm o = true → H' b = some o
theorem Firm.refl (H : Hp) : Firm H H := fun _ _ e _ => e
theorem Firm.trans {H H1 H2 : Hp} (a : Firm H H1) (b : Firm H1 H2) : Firm H H2 := fun c o e h => b c o (a c o e h) h
theorem Firm.of {H H' : Hp} (s : Same H H') : Firm H H' := fun b o e _ => s b o e
theorem Firm.upd {H : Hp} {a : Addr} {u o : HO} (h : H a = some u) (hu : firm u = false) : Firm H (upd H a o) := fun b z e hz => by
  rw [upd_ne (fun q => by rw [q, h] at e; cases e; rw [hu] at hz; cases hz)]
  exact e
theorem Firm.but {H H' : Hp} {p : Addr} {u : HO} (c : But p H H') (h : H p = some u) (hu : firm u = false) : Firm H H' := fun b z e hz =>
  c b z e fun q => by
    rw [q, h] at e
    cases e
    rw [hu] at hz
    cases hz
theorem Firm.pen {H H' : Hp} {p c : Addr} {m : Nat} (b : But p H H') (h : PenC H p c m) : Firm H H' := by
  obtain ⟨_, _, _, _, _, h1, _⟩ := h
  exact Firm.but b h1 rfl
/-! ### two lists, item by item -/
inductive All2 {α : Type} (R : V → α → Prop) : List V → List α → Prop
  | nil : All2 R [] []
  | cons {v : V} {x : α} {vs : List V} {xs : List α} : R v x → All2 R vs xs → All2 R (v :: vs) (x :: xs)
section
variable {α : Type} {R R' : V → α → Prop}
theorem All2.len : ∀ {vs : List V} {xs : List α}, All2 R vs xs → vs.length = xs.length
  | _, _, .nil => rfl
  | _, _, .cons _ h => congrArg Nat.succ h.len
theorem All2.imp (f : ∀ v x, R v x → R' v x) : ∀ {vs : List V} {xs : List α}, All2 R vs xs → All2 R' vs xs
  | _, _, .nil => .nil
  | _, _, .cons h t => .cons (f _ _ h) (t.imp f)
theorem All2.get : ∀ {vs : List V} {xs : List α}, All2 R vs xs → ∀ {i : Nat} {v : V}, vs[i]? = some v → ∃ x, xs[i]? = some x ∧ R v x
  | _, _, .nil, i, v, e => by simp at e
  | _, _, .cons (v := v0) (x := x0) h t, 0, v, e => by
    simp at e
    subst e
    exact ⟨x0, rfl, h⟩
  | _, _, .cons h t, i + 1, v, e => by
    simp at e
    obtain ⟨x, q1, q2⟩ := t.get e
    exact ⟨x, by simpa using q1, q2⟩
theorem All2.get' : ∀ {vs : List V} {xs : List α}, All2 R vs xs → ∀ {i : Nat} {x : α}, xs[i]? = some x → ∃ v, vs[i]? = some v ∧ R v x
  | _, _, .nil, i, v, e => by simp at e
  | _, _, .cons (v := v0) (x := x0) h t, 0, v, e => by
    simp at e
    subst e
    exact ⟨v0, rfl, h⟩
  | _, _, .cons h t, i + 1, v, e => by
    simp at e
    obtain ⟨x, q1, q2⟩ := t.get' e
    exact ⟨x, by simpa using q1, q2⟩
theorem All2.snoc {v : V} {x : α} (h : R v x) : ∀ {vs : List V} {xs : List α}, All2 R vs xs → All2 R (vs ++ [v]) (xs ++ [x])
  | _, _, .nil => .cons h .nil
  | _, _, .cons h1 t => .cons h1 (t.snoc h)
theorem All2.append : ∀ {vs ws : List V} {xs ys : List α}, All2 R vs xs → All2 R ws ys → All2 R (vs ++ ws) (xs ++ ys)
  | _, _, _, _, .nil, h => h
  | _, _, _, _, .cons h1 t, h => .cons h1 (t.append h)
theorem All2.take : ∀ {vs : List V} {xs : List α} (n : Nat), All2 R vs xs → All2 R (vs.take n) (xs.take n)
  | _, _, 0, _ => by
    rw [List.take_zero, List.take_zero]
    exact .nil
  | _, _, _ + 1, .nil => .nil
  | _, _, n + 1, .cons h t => .cons h (t.take n)
end
/-! ### pairs, rows of pairs, rows of ints -/
def Pt (K : PySem.W.Frag) (H : Hp) (v : V) (p : Int × Int) : Prop := ∃ q, v = .ref q ∧ SqT K H q [.int p.1, .int p.2]
def Pr (K : PySem.W.Frag) (H : Hp) (v : V) (p : Int × Int) : Prop := ∃ q, v = .ref q ∧ (SqL K H q [.int p.1, .int p.2] ∨ SqT K H q [.int p.1, .int p.2])
def Tu (K : PySem.W.Frag) (H : Hp) (v : V) (r : List Int) : Prop := ∃ q, v = .ref q ∧ H q = some (.tup (r.map V.int))
def GT (K : PySem.W.Frag) (H : Hp) (g : Addr) (gs : List (Int × Int)) : Prop := ∃ vs, SqT K H g vs ∧ All2 (Pt K H) vs gs
def RowG (K : PySem.W.Frag) (H : Hp) (v : V) (gs : List (Int × Int)) : Prop := ∃ r vs, v = .ref r ∧ (SqL K H r vs ∨ SqT K H r vs) ∧ All2 (Pr K H) vs gs
section
variable {K : PySem.W.Frag} {H H' : Hp}
theorem firm_seq {a : Addr} {xs : List V} (s : Firm H H') (h : SqT K H a xs) : SqT K H' a xs :=
  h.elim (fun h => .inl (h.elim (fun h => .inl (s _ _ h rfl)) fun ⟨o, h⟩ => .inr ⟨o, s _ _ h rfl⟩)) .inr
theorem Pt.firm {v : V} {p : Int × Int} (s : Firm H H') (h : Pt K H v p) : Pt K H' v p := by
  obtain ⟨q, e, h⟩ := h
  exact ⟨q, e, firm_seq s h⟩
theorem Tu.firm {v : V} {r : List Int} (s : Firm H H') (h : Tu K H v r) : Tu K H' v r := by
  obtain ⟨q, e, h⟩ := h
  exact ⟨q, e, s _ _ h rfl⟩
theorem GT.firm {g : Addr} {gs : List (Int × Int)} (s : Firm H H') (h : GT K H g gs) : GT K H' g gs := by
  obtain ⟨vs, h1, h2⟩ := h
  exact ⟨vs, firm_seq s h1, h2.imp fun _ _ q => q.firm s⟩
theorem Pr.same {v : V} {p : Int × Int} (s : Same H H') (h : Pr K H v p) : Pr K H' v p := by
  obtain ⟨q, e, h⟩ := h
  exact ⟨q, e, h.elim (fun h => .inl (s.seq h)) fun h => .inr (seqT_same s h)⟩
theorem RowG.same {v : V} {gs : List (Int × Int)} (s : Same H H') (h : RowG K H v gs) : RowG K H' v gs := by
  obtain ⟨r, vs, e, h1, h2⟩ := h
  exact ⟨r, vs, e, h1.elim (fun h => .inl (s.seq h)) fun h => .inr (seqT_same s h), h2.imp fun _ _ q => q.same s⟩
theorem Pt.pr {v : V} {p : Int × Int} (h : Pt K H v p) : Pr K H v p := by
  obtain ⟨q, e, h⟩ := h
  exact ⟨q, e, .inr h⟩
theorem GT.row {g : Addr} {gs : List (Int × Int)} (h : GT K H g gs) : RowG K H (.ref g) gs := by
  obtain ⟨vs, h1, h2⟩ := h
  exact ⟨g, vs, rfl, .inr h1, h2.imp fun _ _ q => q.pr⟩
/-- a row of pairs, as data -/
def pD (p : Int × Int) : PyData := .tuple [.int p.1, .int p.2]
def gD (gs : List (Int × Int)) : PyData := .tuple (gs.map pD)
theorem pt_dp {v : V} {p : Int × Int} (h : Pt K H v p) : Dp K H v (pD p) := by
  obtain ⟨q, rfl, h⟩ := h
  exact .tup h (.cons (.int _) (.cons (.int _) .nil))
theorem pts_dp : ∀ {vs : List V} {gs : List (Int × Int)}, All2 (Pt K H) vs gs → DpAll K H vs (gs.map pD)
  | _, _, .nil => .nil
  | _, _, .cons h t => .cons (pt_dp h) (pts_dp t)
theorem GT.dp {g : Addr} {gs : List (Int × Int)} (h : GT K H g gs) : Dp K H (.ref g) (gD gs) := by
  obtain ⟨vs, h1, h2⟩ := h
  exact .tup h1 (pts_dp h2)
theorem ints_dp : ∀ (r : List Int), DpAll K H (r.map V.int) (r.map PyData.int)
  | [] => .nil
  | _ :: r => .cons (.int _) (ints_dp r)
end
end Fi
namespace En
open PySem PySem.Spec PyProof.Rows L2
/-! ## enumerate(t), t a tuple -/
set_option maxHeartbeats 1000000 in
theorem new_meets {v : Value} {o : Obj} {G : Heap → Prop} (B : Begins v o G) :
    Meets (Builtin.«enumerate.__new__» ⟨[.type "enumerate", v], []⟩) (fun _ R s => G s.heap ∧ R (.ok (.ret (.ref (s.heap.push o).objs.size))) { s with heap := (s.heap.push o).push { cls := .type "enumerate", data := .fields #[.none, .bool false, .ref s.heap.objs.size, rawInt 0, .none, .none] } }) :=
  .of_wp fun prog w A R s h => by
    obtain ⟨hp, gs, dr, tk, os⟩ := s
    obtain ⟨hG, hR⟩ := h
    have sub := sub_enumerate
    have it : ∀ {A' : Around} {E Q : Value → Shared → Prop}, Q (.ref hp.objs.size) ⟨hp.push o, gs, dr, tk, os⟩ → wpAny (model prog w) A' (pyIter v) Q E ⟨hp, gs, dr, tk, os⟩ := fun q => B.iter prog w _ _ ⟨hp, gs, dr, tk, os⟩ _ hG q
    wp_walk using it
    refine wpAny_stack_any fun st => wpAny_pure ?_
    split
    · rename_i cl _ _ _ _ _
      cases (cl == Value.type "enumerate")
      all_goals
        wp_walk using it
        exact ⟨_, rfl, hR⟩
    · wp_walk using it
      exact ⟨_, rfl, hR⟩
section
variable {prog : Program} {w : World} {A : Around} {E : Value → Shared → Prop} {s : Shared}
theorem call_new {v : Value} {o : Obj} {G : Heap → Prop} {Q : Value → Shared → Prop} (B : Begins v o G) (hG : G s.heap)
    (h : ∀ h', IsEnum h' (s.heap.objs.size + 1) s.heap.objs.size 0 .none → h'.get? s.heap.objs.size = some o → (∀ b u, s.heap.get? b = some u → h'.get? b = some u) → Q (.ref (s.heap.objs.size + 1)) { s with heap := h' }) :
    wpAny (model prog w) A (call (.type "enumerate") [v]) Q E s := by
  refine callType_new F.called_enumerate (by decide) (F.typeCall_enumerate_1 _) (F.newCall_enumerate_1 _) (fun obj => F.args_object_init_2 obj _) F.entry_enumerate_new (new_meets B) ⟨hG, ?_⟩
  have size : (s.heap.push o).objs.size = s.heap.objs.size + 1 := Heap.size_push ..
  show _ ∧ _
  rw [size]
  have made : IsEnum ((s.heap.push o).push { cls := .type "enumerate", data := .fields #[.none, .bool false, .ref s.heap.objs.size, rawInt 0, .none, .none] }) (s.heap.objs.size + 1) s.heap.objs.size 0 .none := by
    have z := Heap.get?_push_size (s.heap.push o) (o := { cls := .type "enumerate", data := .fields #[.none, .bool false, .ref s.heap.objs.size, rawInt 0, .none, .none] }) rfl
    rw [size] at z
    exact z
  exact ⟨⟨_, made, rfl⟩, h _ made (Heap.get?_push_of_some _ (Heap.get?_push_size _ B.free)) fun b u q => Heap.get?_push_of_some _ (Heap.get?_push_of_some _ q)⟩
end
section
variable {prog : Program} {w : World} {A : Around} {E : Value → Shared → Prop} {s : Shared}
theorem next_end {e it a : Addr} {i : Nat} {c : Int} {items : Array Value} {old : Value} {Q : Option Value → Shared → Prop} (calm : A.handled = none) (he : IsEnum s.heap e it c old) (hi : s.heap.IsTupleIter it a i) (ht : s.heap.IsTuple a items) (none_left : items[i]? = none)
    (h : ∀ h', Heap.ExtBut it s.heap h' → Q none { s with heap := h' }) : wpAny (model prog w) A (pyNext (.ref e)) Q E s := by
  have ty : s.TypeIs (.ref e) "enumerate" := ⟨_, he, rfl⟩
  unfold pyNext
  refine wpAny_bind (wpAny_attempt (wpAny_callSpecial?_slot (name := Str.ofString "__next__") ty F.slot_enumerate_next (wpAny_call_entry F.slot_enumerate_next ty F.entry_enumerate_next ?_ (F.args_enumerate_next_1 _))))
  show wpAny _ _ (field (.ref e) 2 >>= _) _ _ _
  refine wpAny_bind (wpAny_field he rfl (x := .ref it) rfl (wpAny_bind (wpAny_nextOf_tuple_end calm hi ht none_left fun h' x ext stop => ?_)))
  obtain ⟨o, ho, hc⟩ := stop
  exact wpAny_bind (wpAny_isInstance (T := "StopIteration") (b := true) ⟨o, ho, hc⟩ isSubtype_stop (wpAny_pure (h _ ext)))
end
/-- the tuple at a, each item in a new pair with its place -/
def Iet (K : PySem.W.Frag) (a : Addr) : It :=
  ⟨fun i H => ∃ (xs : List V) (x : V), SqT K H a xs ∧ xs[i]? = some x, fun i H v H' => ∃ T x, v = .ref T ∧ H T = none ∧ H' = upd H T (.tup [.int (i : Nat), x]) ∧ ∀ xs, SqT K H a xs → xs[i]? = some x, fun i H => ∃ xs : List V, SqT K H a xs ∧ xs.length ≤ i⟩
theorem apart {s : Shared} {e it a : Addr} {c : Int} {old : Value} {i : Nat} {items : Array Value} (he : IsEnum s.heap e it c old) (hi : s.heap.IsTupleIter it a i) (ht : s.heap.IsTuple a items) : e ≠ it ∧ e ≠ a ∧ a ≠ it := by
  obtain ⟨oi, h1, h2, _⟩ := hi
  obtain ⟨ot, h3, h4, _⟩ := ht
  refine ⟨fun z => ?_, fun z => ?_, fun z => ?_⟩
  · rw [← z, he] at h1
    rw [← Option.some.inj h1] at h2
    exact absurd (Value.type.inj h2) (by decide)
  · rw [← z, he] at h3
    rw [← Option.some.inj h3] at h4
    exact absurd (Value.type.inj h4) (by decide)
  · rw [z, h1] at h3
    rw [← Option.some.inj h3, h2] at h4
    exact absurd (Value.type.inj h4) (by decide)
theorem turn {P : Program} {w : World} {K : PySem.W.Frag} {es : List Expr} {k : Nat} {pos : Pos} (a e it : Addr) :
    Turn P w K (.Tuple es k pos) (Iet K a) [e, it] e (fun i h => (∃ old, IsEnum h e it ((i : Nat) : Int) old) ∧ h.IsTupleIter it a i) where
  mem := List.mem_cons_self
  obj := fun i h st b hb => by
    obtain ⟨⟨old, he⟩, ⟨o, ho, hc, hd⟩⟩ := st
    rcases List.mem_cons.mp hb with rfl | hb
    · exact ⟨_, he, fun v q => nomatch q⟩
    · rw [List.mem_singleton.mp hb]
      exact ⟨o, ho, fun v q => by rw [hd] at q; cases q⟩
  keep := fun i h h' st kp => by
    obtain ⟨⟨old, he⟩, hi⟩ := st
    exact ⟨⟨old, kp e List.mem_cons_self _ he⟩, hi.at fun o q => kp it (List.mem_cons_of_mem _ (List.mem_singleton.mpr rfl)) o q⟩
  item := by
    rintro X rfl rfl rfl calm i pins s σ H E I fp ⟨⟨old, he⟩, hi⟩ ⟨xs, x, hq, hx⟩
    obtain ⟨its, rv, ht, _⟩ := I.tuple hq
    obtain ⟨u, hu, ru⟩ := rv.get hx
    obtain ⟨n1, n2, n3⟩ := apart he hi ht
    have le : e < s.heap.objs.size := Heap.lt_size he
    have li : it < s.heap.objs.size := by
      obtain ⟨_, q, _⟩ := hi
      exact Heap.lt_size q
    have hlt : i < its.toArray.size := by
      have z := (List.getElem?_eq_some_iff.mp hu).1
      simpa using z
    refine wpAny_pyNext_enum_itemD (Draws.tuple (A := X.A.in1) (I.ok.hd calm) it a n3 its.toArray) he ⟨hi, ht⟩ hlt n1 (by simp [n1, n2]) fun y h' tk hy out st made _ same => ?_
    have ey : y = u := by
      have z : its[i]? = some y := by simpa using hy
      rw [hu] at z
      exact (Option.some.inj z).symm
    subst ey
    refine ⟨_, rfl, wpAny_letOwnedTupleGo_enum (s := { s with heap := h', toks := tk + 1 }) out fun h2 he2 sb => ?_⟩
    have made2 : h2.get? s.heap.objs.size = some { cls := .type "tuple", data := .seq #[.int i tk, y] } := (sb.2 _ (Nat.ne_of_gt le)).trans made
    have new : ObjOk X.prog X.w (upd H s.heap.objs.size (.tup [.int (i : Nat), x])) h2 s.heap.objs.size (.tup [.int (i : Nat), x]) := ⟨by show 2 ≤ sizeLine; decide, [.int i tk, y], .cons ⟨_, rfl⟩ (.cons ru .nil), ⟨_, made2, rfl, _, rfl⟩⟩
    have I1 := I.turnedNew (t' := tk + 1) (ch := [e, it]) (fun b ob hb q => (sb.2 b fun z => hb (by simp [z])).trans (same b ob (fun z => hb (by simp [z])) (fun z => hb (by simp [z])) q)) fp (Nat.le_refl _) new
    refine ⟨.ref s.heap.objs.size, _, I1, rfl, ⟨_, x, rfl, I.hok.fresh (Nat.le_refl _), rfl, fun ys hy => by rw [I.tuple_inj hy hq]; exact hx⟩, ⟨⟨y, ?_⟩, st.1.at fun o q => (sb.2 it n1.symm).trans q⟩, fun b hb => ?_⟩
    · rw [show ((i + 1 : Nat) : Int) = (i : Int) + 1 by omega]
      exact he2
    · have hb2 : b < s.heap.objs.size := by
        rcases List.mem_cons.mp hb with rfl | hb
        · exact le
        · rw [List.mem_singleton.mp hb]
          exact li
      rw [upd_ne (Nat.ne_of_lt hb2)]
      exact (fp b hb).1
  done := by
    rintro X rfl rfl rfl calm i pins s σ H E I fp ⟨⟨old, he⟩, hi⟩ ⟨xs, hq, hx⟩
    obtain ⟨its, rv, ht, _⟩ := I.tuple hq
    obtain ⟨n1, n2, n3⟩ := apart he hi ht
    obtain ⟨f0, f1, f2, f3, f4, f5⟩ := fp it (List.mem_cons_of_mem _ (List.mem_singleton.mpr rfl))
    have hl := rv.length
    refine next_end (I.ok.hd calm) he hi ht (by simp; omega) fun h' eb => ⟨rfl, I.turned (t' := s.toks) (fun b o hb q => eb b o hb q) f0 f1 f3 f4 f5⟩
  self := fun A i s Q E st h => let ⟨⟨_, he⟩, _⟩ := st; wpAny_pyIter_enum he h
/-- for i, x in enumerate(t) -/
def iEnT (K : PySem.W.Frag) (ta : TA) : TI := fun σ H R => ta σ H fun vs H1 => ∃ a xs, vs = [.ref a] ∧ SqT K H1 a xs ∧ R (Iet K a) H1
theorem pi_enT {X : Cx} {e : Expr} {ta : TA} {p pos tpos : Pos} {es : List Expr} {k : Nat} (hg : Gl X "enumerate") (hm : X.mg "enumerate" = none) (ha : PA X [e] ta) (hs : starEach [e] X.env = [(false, eval e X.env)] := by rfl) :
    PI X (.Tuple es k tpos) (.Call (.Name "enumerate" p) [e] [] pos) (iEnT X.K ta) := by
  refine ⟨fun pins s σ H R I h => Call_ (ld_blt I hg hm boot_enumerate (PyProof.Rows.callWith_type1 (thn (ha.run pos pins s σ H _ I h) fun us s1 z => ?_) hs rfl))⟩
  obtain ⟨vs, H1, I1, r1, a, xs, rfl, hq, q⟩ := z
  obtain ⟨u, rfl, ru⟩ := vals1 r1
  have hu : u = Value.ref a := ru
  subst hu
  obtain ⟨its, rv, ht, _⟩ := I1.tuple hq
  refine call_new (begins_tuple a its.toArray) ht fun h' he hit same => wpAny_pyIter_enum he ?_
  have I2 := I1.kept (t' := s1.toks) same
  refine ⟨s1.heap.objs.size + 1, [s1.heap.objs.size + 1, s1.heap.objs.size], _, _, H1, rfl, I2, turn a (s1.heap.objs.size + 1) s1.heap.objs.size, ⟨⟨.none, he⟩, ⟨_, hit, rfl, rfl⟩⟩, fun b hb => ?_, q⟩
  have low : s1.heap.objs.size ≤ b := by
    rcases List.mem_cons.mp hb with rfl | hb
    · exact Nat.le_succ _
    · rw [List.mem_singleton.mp hb]
      exact Nat.le_refl _
  exact I1.fpOk low (I1.hok.fresh low)
theorem for_enT {K : PySem.W.Frag} {a : Addr} {xs : List V} {g : TG} {tb : TS} {D : Ends} {σ : L2.St} {H : Hp} (Pv : Nat → L2.St → Hp → Prop) (h0 : Pv 0 σ H) (hl : ∀ i σ H, i ≤ xs.length → Pv i σ H → SqT K H a xs)
    (hs : ∀ i x σ H T, xs[i]? = some x → Pv i σ H → H T = none → g (.ref T) σ (upd H T (.tup [.int (i : Nat), x])) fun σ2 H2 => tb { D with nx := Pv (i + 1), ct := Pv (i + 1), bk := D.nx } σ2 H2) (hd : ∀ σ H, Pv xs.length σ H → D.nx σ H) :
    ∃ W : Nat → Nat → L2.St → Hp → Prop, (∃ m, W 0 m σ H) ∧ ∀ i m σ H, W i m σ H →
      ((Iet K a).stop i H ∧ D.nx σ H) ∨ ((Iet K a).go i H ∧ ∃ N : L2.St → Hp → Prop, (∀ σ' H', N σ' H' → ∃ m', m' < m ∧ W (i + 1) m' σ' H') ∧ ∀ x H', (Iet K a).yld i H x H' → g x σ H' fun σ2 H2 => tb { D with nx := N, ct := N, bk := D.nx } σ2 H2) := by
  refine ⟨fun i m σ H => m = xs.length - i ∧ i ≤ xs.length ∧ Pv i σ H, ⟨_, rfl, Nat.zero_le _, h0⟩, ?_⟩
  rintro i m σ H ⟨rfl, hi, p⟩
  have q := hl i σ H hi p
  rcases Nat.lt_or_ge i xs.length with lt | ge
  · have hx := List.getElem?_eq_getElem lt
    refine .inr ⟨⟨xs, _, q, hx⟩, Pv (i + 1), fun σ' H' p' => ⟨xs.length - (i + 1), by omega, rfl, lt, p'⟩, ?_⟩
    rintro x H' ⟨T, y, rfl, nT, rfl, hy⟩
    exact hs i y σ H T (hy xs q) p nT
  · have e : i = xs.length := Nat.le_antisymm hi ge
    exact .inl ⟨⟨xs, q, ge⟩, hd σ H (e ▸ p)⟩
end En
namespace Zp
open PySem PySem.Spec PyProof.Rows L2
/-! ## zip of two rows, each a list or a tuple -/
/-- a row at a: a list if t, else a tuple -/
def SqB (K : PySem.W.Frag) (t : Bool) (H : Hp) (a : Addr) (xs : List V) : Prop := match t with
  | true => SqL K H a xs
  | false => SqT K H a xs
def IsB (t : Bool) (h : Heap) (a : Addr) (us : Array Value) : Prop := match t with
  | true => h.IsList a us
  | false => h.IsTuple a us
def ItB (t : Bool) (h : Heap) (j a : Addr) (i : Nat) : Prop := match t with
  | true => h.IsListIter j a i
  | false => h.IsTupleIter j a i
def obB (t : Bool) (a : Addr) : Obj := match t with
  | true => { cls := .type "list_iterator", data := .fields #[.ref a, .int 0 0] }
  | false => { cls := .type "tuple_iterator", data := .fields #[.ref a, .int 0 0] }
theorem drawsB {prog : Program} {w : World} {A : Around} (hh : A.handled = none) (t : Bool) (j a : Addr) (ne : a ≠ j) (us : Array Value) :
    Draws prog w A j [j, a] us.size (fun i v => us[i]? = some v) (fun i h => ItB t h j a i ∧ IsB t h a us) := by
  cases t with
  | true => exact Draws.list hh j a ne us
  | false => exact Draws.tuple hh j a ne us
theorem beginsB (t : Bool) (a : Addr) (us : Array Value) : Begins (.ref a) (obB t a) fun h => IsB t h a us := by
  cases t with
  | true => exact begins_list a us
  | false => exact begins_tuple a us
theorem ItB.obj {t : Bool} {h : Heap} {j a : Addr} {i : Nat} (x : ItB t h j a i) : ∃ o, h.get? j = some o ∧ ∀ v, o.data ≠ .cell v := by
  cases t with
  | true =>
    obtain ⟨o, ho, _, hd⟩ := x
    exact ⟨o, ho, fun v q => by rw [hd] at q; cases q⟩
  | false =>
    obtain ⟨o, ho, _, hd⟩ := x
    exact ⟨o, ho, fun v q => by rw [hd] at q; cases q⟩
theorem ItB.to {t : Bool} {h h' : Heap} {j a : Addr} {i : Nat} (x : ItB t h j a i) (k : ∀ o, h.get? j = some o → h'.get? j = some o) : ItB t h' j a i := by
  cases t with
  | true => exact Heap.IsListIter.at x k
  | false => exact Heap.IsTupleIter.at x k
theorem ItB.new {t : Bool} {h : Heap} {j a : Addr} (x : h.get? j = some (obB t a)) : ItB t h j a 0 := by
  cases t with
  | true => exact ⟨_, x, rfl, rfl⟩
  | false => exact ⟨_, x, rfl, rfl⟩
theorem IsB.lt {t : Bool} {h : Heap} {a : Addr} {us : Array Value} (x : IsB t h a us) : a < h.objs.size := by
  cases t with
  | true =>
    obtain ⟨o, ho, _⟩ := x
    exact Heap.lt_size ho
  | false =>
    obtain ⟨o, ho, _⟩ := x
    exact Heap.lt_size ho
section
variable {X : Cx} {pins : List (Addr × Obj)} {σ : L2.St} {H : Hp} {s : Shared} {a : Addr} {t : Bool} {xs ys : List V}
theorem sqB_get (I : Inv X pins σ H s) (h : SqB X.K t H a xs) : ∃ its : List Value, Vals xs its ∧ IsB t s.heap a its.toArray := by
  cases t with
  | true =>
    obtain ⟨its, r, p, _⟩ := I.list h
    exact ⟨its, r, p.isList⟩
  | false =>
    obtain ⟨its, r, p, _⟩ := I.tuple h
    exact ⟨its, r, p⟩
theorem sqB_inj (I : Inv X pins σ H s) (h : SqB X.K t H a xs) (k : SqB X.K t H a ys) : xs = ys := by
  cases t with
  | true => exact I.list_inj h k
  | false => exact I.tuple_inj h k
end
/-- the rows at a and b as they stand at each turn, their items in new pairs -/
def Izb (K : PySem.W.Frag) (t u : Bool) (a b : Addr) : It :=
  ⟨fun i H => ∃ (xs ys : List V) (x y : V), SqB K t H a xs ∧ SqB K u H b ys ∧ xs[i]? = some x ∧ ys[i]? = some y,
   fun i H v H' => ∃ q x y, v = .ref q ∧ H q = none ∧ H' = upd H q (.tup [x, y]) ∧ (∀ xs, SqB K t H a xs → xs[i]? = some x) ∧ ∀ ys, SqB K u H b ys → ys[i]? = some y,
   fun i H => ∃ xs ys : List V, SqB K t H a xs ∧ SqB K u H b ys ∧ i ≤ xs.length ∧ i ≤ ys.length ∧ (i = xs.length ∨ i = ys.length)⟩
abbrev five (N : Nat) : List Addr := [N + 4, N + 2, N + 3, N, N + 1]
theorem five_mem {N : Nat} {c : Addr} (h : c ∈ five N) : c = (N + 4 : Nat) ∨ c = (N + 2 : Nat) ∨ c = (N + 3 : Nat) ∨ c = (N : Nat) ∨ c = (N + 1 : Nat) := by simpa [five] using h
theorem no_five {N : Nat} {c : Addr} (h : c ∉ five N) : c ≠ (N + 4 : Nat) ∧ c ≠ (N + 3 : Nat) ∧ c ≠ (N : Nat) ∧ c ≠ (N + 1 : Nat) :=
  ⟨fun e => h (by rw [e]; simp [five]), fun e => h (by rw [e]; simp [five]), fun e => h (by rw [e]; simp [five]), fun e => h (by rw [e]; simp [five])⟩
abbrev stB (N : Nat) (t u : Bool) (a b : Addr) (i : Nat) (h : Heap) : Prop :=
  IsZip h (N + 4 : Nat) (N + 2 : Nat) (N + 3 : Nat) .none ∧ IsTupOf2 h (N + 2 : Nat) (.ref (N : Nat)) (.ref (N + 1 : Nat)) ∧ (∃ x y, IsTupOf2 h (N + 3 : Nat) x y) ∧ ItB t h (N : Nat) a i ∧ ItB u h (N + 1 : Nat) b i
theorem lt_sep {N : Nat} {a b : Addr} (ha : a < (N : Nat)) (hb : b < (N : Nat)) : ZipSep2 (N + 4 : Nat) (N + 2 : Nat) (N + 3 : Nat) (N : Nat) (N + 1 : Nat) [(N : Nat), a] [(N + 1 : Nat), b] :=
  zip_sep2 (fp1 := [a]) (fp2 := [b]) (fun c h => by rw [List.mem_singleton.mp h]; exact ha) (fun c h => by rw [List.mem_singleton.mp h]; exact hb)
theorem lt_more {N : Nat} {a : Addr} (h : a < (N : Nat)) : a < (N + 1 : Nat) := Nat.lt_succ_of_lt h
theorem turnB {P : Program} {w : World} {K : PySem.W.Frag} {es : List Expr} {k : Nat} {pos : Pos} {N : Nat} {t u : Bool} {a b : Addr} (ha : a < (N : Nat)) (hb : b < (N : Nat)) :
    Turn P w K (.Tuple es k pos) (Izb K t u a b) (five N) (N + 4 : Nat) (stB N t u a b) where
  mem := List.mem_cons_self
  obj := fun i h st c hc => by
    obtain ⟨h1, h2, ⟨x, y, h3⟩, h4, h5⟩ := st
    rcases five_mem hc with rfl | rfl | rfl | rfl | rfl
    · exact ⟨_, h1, fun v q => nomatch q⟩
    · exact ⟨_, h2, fun v q => nomatch q⟩
    · exact ⟨_, h3, fun v q => nomatch q⟩
    · exact h4.obj
    · exact h5.obj
  keep := fun i h h' st kp => by
    obtain ⟨h1, h2, ⟨x, y, h3⟩, h4, h5⟩ := st
    exact ⟨kp _ (by simp [five]) _ h1, kp _ (by simp [five]) _ h2, ⟨x, y, kp _ (by simp [five]) _ h3⟩, h4.to fun o q => kp _ (by simp [five]) o q, h5.to fun o q => kp _ (by simp [five]) o q⟩
  item := by
    rintro X rfl rfl rfl calm i pins s σ H E I fp ⟨h1, h2, ⟨z1, z2, h3⟩, h4, h5⟩ ⟨xs, ys, x, y, qx, qy, ex, ey⟩
    obtain ⟨is1, r1, p1⟩ := sqB_get I qx
    obtain ⟨is2, r2, p2⟩ := sqB_get I qy
    obtain ⟨u1, e1, rx⟩ := r1.get ex
    obtain ⟨u2, e2, ry⟩ := r2.get ey
    have l1 : i < is1.toArray.size := by
      have z := (List.getElem?_eq_some_iff.mp e1).1
      simpa using z
    have l2 : i < is2.toArray.size := by
      have z := (List.getElem?_eq_some_iff.mp e2).1
      simpa using z
    have S := lt_sep ha hb
    have D1 := drawsB (prog := X.prog) (w := X.w) (A := X.A.in1) (I.ok.hd calm) t (N : Nat) a (Nat.ne_of_lt ha) is1.toArray
    have D2 := drawsB (prog := X.prog) (w := X.w) (A := X.A.in1) (I.ok.hd calm) u (N + 1 : Nat) b (Nat.ne_of_lt (lt_more hb)) is2.toArray
    have lz := Heap.lt_size h1
    refine wpAny_pyNext_zipD2_item S D1 D2 h1 h2 h3 ⟨h4, p1⟩ ⟨h5, p2⟩ l1 l2 fun v1 v2 h' tk g1 g2 b1 b2 d1 d2 new _ same => ?_
    have ev1 : v1 = u1 := by
      have z : is1[i]? = some v1 := by simpa using g1
      rw [e1] at z
      exact (Option.some.inj z).symm
    have ev2 : v2 = u2 := by
      have z : is2[i]? = some v2 := by simpa using g2
      rw [e2] at z
      exact (Option.some.inj z).symm
    subst ev1 ev2
    refine ⟨_, rfl, wpAny_letOwnedTupleGo_zip (s := { s with heap := h', toks := tk }) b1 fun h'' hz2 sb => ?_⟩
    have made : h''.get? s.heap.objs.size = some { cls := .type "tuple", data := .seq #[v1, v2] } := (sb.2 _ (Nat.ne_of_gt lz)).trans new
    have ob : ObjOk X.prog X.w (upd H s.heap.objs.size (.tup [x, y])) h'' s.heap.objs.size (.tup [x, y]) := ⟨by show 2 ≤ sizeLine; decide, [v1, v2], .cons rx (.cons ry .nil), ⟨_, made, rfl, _, rfl⟩⟩
    have J := I.turnedNew (t' := tk) (ch := five N) (fun c o hc q => by
      obtain ⟨n1, n2, n3, n4⟩ := no_five hc
      exact (sb.2 c n1).trans (same c o n1 n2 n3 n4 q)) fp (Nat.le_refl _) ob
    refine ⟨.ref s.heap.objs.size, _, J, rfl, ⟨_, x, y, rfl, I.hok.fresh (Nat.le_refl _), rfl, fun l hl => by rw [sqB_inj I hl qx]; exact ex, fun l hl => by rw [sqB_inj I hl qy]; exact ey⟩, ⟨hz2, ?_, ⟨v1, v2, ?_⟩, ?_, ?_⟩, fun c hc => ?_⟩
    · exact (sb.2 _ S.TIz).trans (same _ _ S.TIz S.TITO S.TIi1 S.TIi2 h2)
    · exact (sb.2 _ S.TOz).trans b2
    · exact d1.1.to fun o q => (sb.2 _ S.zi1.symm).trans q
    · exact d2.1.to fun o q => (sb.2 _ S.zi2.symm).trans q
    · have hlt : c < s.heap.objs.size := by
        rcases five_mem hc with rfl | rfl | rfl | rfl | rfl
        · exact lz
        · exact Heap.lt_size h2
        · exact Heap.lt_size h3
        · obtain ⟨o, q, _⟩ := h4.obj
          exact Heap.lt_size q
        · obtain ⟨o, q, _⟩ := h5.obj
          exact Heap.lt_size q
      rw [upd_ne (Nat.ne_of_lt hlt)]
      exact (fp c hc).1
  done := by
    rintro X rfl rfl rfl calm i pins s σ H E I fp ⟨h1, h2, ⟨z1, z2, h3⟩, h4, h5⟩ ⟨xs, ys, qx, qy, lx, ly, le⟩
    obtain ⟨is1, r1, p1⟩ := sqB_get I qx
    obtain ⟨is2, r2, p2⟩ := sqB_get I qy
    have n1 := r1.length
    have n2 := r2.length
    have s1 : is1.toArray.size = is1.length := List.size_toArray
    have s2 : is2.toArray.size = is2.length := List.size_toArray
    have D1 := drawsB (prog := X.prog) (w := X.w) (A := X.A.in1) (I.ok.hd calm) t (N : Nat) a (Nat.ne_of_lt ha) is1.toArray
    have D2 := drawsB (prog := X.prog) (w := X.w) (A := X.A.in1) (I.ok.hd calm) u (N + 1 : Nat) b (Nat.ne_of_lt (lt_more hb)) is2.toArray
    refine wpAny_pyNext_zipD2_end (lt_sep ha hb) D1 D2 h1 h2 h3 ⟨h4, p1⟩ ⟨h5, p2⟩ (by omega) (by omega) (by omega) fun h' tk same => ⟨rfl, I.turnedL (t' := tk) (ch := five N) (fun c o hc q => by
      obtain ⟨n1, n2, n3, n4⟩ := no_five hc
      exact same c o n1 n2 n3 n4 q) fp⟩
  self := fun A i s Q E st q => wpAny_pyIter_zip st.1 q
/-- for x, y in zip(a, b) -/
def iZipB (K : PySem.W.Frag) (ta : TA) : TI := fun σ H R => ta σ H fun vs H1 => ∃ t u a b xs ys, vs = [.ref a, .ref b] ∧ SqB K t H1 a xs ∧ SqB K u H1 b ys ∧ R (Izb K t u a b) H1
theorem pi_zipB {X : Cx} {e e2 : Expr} {ta : TA} {p pos tpos : Pos} {es : List Expr} {k : Nat} (hg : Gl X "zip") (hm : X.mg "zip" = none) (ha : PA X [e, e2] ta)
    (hs : starEach [e, e2] X.env = (false, eval e X.env) :: starEach [e2] X.env := by rfl) (hb : (backTo pos (starEach [e2] X.env)).any (·.1) = false := by rfl) :
    PI X (.Tuple es k tpos) (.Call (.Name "zip" p) [e, e2] [] pos) (iZipB X.K ta) := by
  refine ⟨fun pins s σ H R I h => Call_ (ld_blt I hg hm PyProof.Rows.boot_zip (PyProof.Rows.callWith_type1 (thn (ha.run pos pins s σ H _ I h) fun us s1 z => ?_) hs hb))⟩
  obtain ⟨vs, H1, I1, r, t, u, a, b, xs, ys, rfl, qx, qy, q⟩ := z
  cases r with
  | cons ra rr =>
    cases rr with
    | cons rb rr =>
      cases rr
      cases ra
      cases rb
      obtain ⟨is1, _, p1⟩ := sqB_get I1 qx
      obtain ⟨is2, _, p2⟩ := sqB_get I1 qy
      refine zip_begins2 (beginsB t a is1.toArray) (beginsB u b is2.toArray) p1 p2 fun h' hz hT hO g1 g2 _ same => wpAny_pyIter_zip hz ?_
      have I2 := I1.kept (t' := s1.toks) same
      refine ⟨s1.heap.objs.size + 4, five s1.heap.objs.size, _, _, H1, rfl, I2, turnB p1.lt p2.lt, ⟨hz, hT, ⟨_, _, hO⟩, ItB.new g1, ItB.new g2⟩, fun c hc => ?_, q⟩
      have low : s1.heap.objs.size ≤ c := by
        rcases five_mem hc with rfl | rfl | rfl | rfl | rfl
        · exact Nat.le_add_right _ _
        · exact Nat.le_add_right _ _
        · exact Nat.le_add_right _ _
        · exact Nat.le_refl _
        · exact Nat.le_add_right _ _
      exact I1.fpOk low (I1.hok.fresh low)
section
variable {K : PySem.W.Frag} {t u : Bool} {a b : Addr} {xs ys : List V}
theorem for_zipB {g : TG} {tb : TS} {D : Ends} {σ : L2.St} {H : Hp} (hl : xs.length = ys.length) (Pv : Nat → L2.St → Hp → Prop) (h0 : Pv 0 σ H) (hq : ∀ i σ H, Pv i σ H → SqB K t H a xs ∧ SqB K u H b ys)
    (hs : ∀ (i : Nat) (x y : V) (q : Addr) (σ : L2.St) (H : Hp), xs[i]? = some x → ys[i]? = some y → Pv i σ H → H q = none → g (.ref q) σ (upd H q (.tup [x, y])) fun σ2 H2 => tb { D with nx := Pv (i + 1), ct := Pv (i + 1), bk := D.nx } σ2 H2)
    (hd : ∀ σ H, Pv xs.length σ H → D.nx σ H) :
    ∃ W : Nat → Nat → L2.St → Hp → Prop, (∃ m, W 0 m σ H) ∧ ∀ i m σ H, W i m σ H →
      ((Izb K t u a b).stop i H ∧ D.nx σ H) ∨ ((Izb K t u a b).go i H ∧ ∃ N : L2.St → Hp → Prop, (∀ σ' H', N σ' H' → ∃ m', m' < m ∧ W (i + 1) m' σ' H') ∧ ∀ v H', (Izb K t u a b).yld i H v H' → g v σ H' fun σ2 H2 => tb { D with nx := N, ct := N, bk := D.nx } σ2 H2) := by
  refine ⟨fun i m σ H => m = xs.length - i ∧ i ≤ xs.length ∧ Pv i σ H, ⟨_, rfl, Nat.zero_le _, h0⟩, ?_⟩
  rintro i m σ H ⟨rfl, hi, pv⟩
  obtain ⟨qx, qy⟩ := hq i σ H pv
  rcases Nat.lt_or_ge i xs.length with lt | ge
  · refine .inr ⟨⟨xs, ys, xs[i], ys[i]'(hl ▸ lt), qx, qy, List.getElem?_eq_getElem lt, List.getElem?_eq_getElem _⟩, Pv (i + 1), fun σ' H' p' => ⟨xs.length - (i + 1), by omega, rfl, lt, p'⟩, fun v H' yl => ?_⟩
    obtain ⟨q, x, y, rfl, hq, rfl, f1, f2⟩ := yl
    exact hs i x y q σ H (f1 _ qx) (f2 _ qy) pv hq
  · obtain rfl : i = xs.length := Nat.le_antisymm hi ge
    exact .inl ⟨⟨xs, ys, qx, qy, Nat.le_refl _, Nat.le_of_eq hl, .inl rfl⟩, hd σ H pv⟩
theorem lc_zipB {g : TG} {tt : TT} {te : TE} {vs : List Nat} {σ : L2.St} {H1 : Hp} {D : Addr} {Qd : Hp → Prop} (hl : xs.length = ys.length) (Pv : Nat → Hp → Prop) (h0 : Pv 0 (upd H1 D (.lst []))) (hq : ∀ i H, Pv i H → SqB K t H a xs ∧ SqB K u H b ys)
    (hs : ∀ (i : Nat) (x y : V) (q : Addr) (H : Hp), xs[i]? = some x → ys[i]? = some y → Pv i H → H q = none → g (.ref q) (wipe σ vs) (upd H q (.tup [x, y])) fun σ2 H2 => wipe σ2 vs = wipe σ vs ∧ tt σ2 H2 fun b H3 =>
      if b = true then te σ2 H3 fun z H4 => ∃ acc, H4 D = some (.lst acc) ∧ acc.length < sizeLine ∧ Pv (i + 1) (upd H4 D (.lst (acc ++ [z]))) else Pv (i + 1) H3) (hd : ∀ H, Pv xs.length H → Qd H) :
    ∃ W : Nat → Nat → Hp → Prop, (∃ m, W 0 m (upd H1 D (.lst []))) ∧ ∀ i m H, W i m H →
      ((Izb K t u a b).stop i H ∧ Qd H) ∨ ((Izb K t u a b).go i H ∧ ∃ Nx : Hp → Prop, (∀ H', Nx H' → ∃ m', m' < m ∧ W (i + 1) m' H') ∧ ∀ v H', (Izb K t u a b).yld i H v H' → g v (wipe σ vs) H' fun σ2 H2 => wipe σ2 vs = wipe σ vs ∧ tt σ2 H2 fun b H3 =>
        if b = true then te σ2 H3 fun z H4 => ∃ acc, H4 D = some (.lst acc) ∧ acc.length < sizeLine ∧ Nx (upd H4 D (.lst (acc ++ [z]))) else Nx H3) := by
  refine ⟨fun i m H => m = xs.length - i ∧ i ≤ xs.length ∧ Pv i H, ⟨_, rfl, Nat.zero_le _, h0⟩, ?_⟩
  rintro i m H ⟨rfl, hi, pv⟩
  obtain ⟨qx, qy⟩ := hq i H pv
  rcases Nat.lt_or_ge i xs.length with lt | ge
  · refine .inr ⟨⟨xs, ys, xs[i], ys[i]'(hl ▸ lt), qx, qy, List.getElem?_eq_getElem lt, List.getElem?_eq_getElem _⟩, Pv (i + 1), fun H' p' => ⟨xs.length - (i + 1), by omega, rfl, lt, p'⟩, fun v H' yl => ?_⟩
    obtain ⟨q, x, y, rfl, hq, rfl, f1, f2⟩ := yl
    exact hs i x y q H (f1 _ qx) (f2 _ qy) pv hq
  · obtain rfl : i = xs.length := Nat.le_antisymm hi ge
    exact .inl ⟨⟨xs, ys, qx, qy, Nat.le_refl _, Nat.le_of_eq hl, .inl rfl⟩, hd H pv⟩
end
end Zp
namespace Dl
open PySem PySem.Spec PyProof.Rows L2 PySem.W
/-! ## del xs[i:] of a list; xs.extend of a tuple: any law -/
theorem bounds_from {a n : Nat} (h : a ≤ n) : sliceBounds (some (a : Int)) none none n = ((a : Int), (n : Int), 1) := by
  unfold sliceBounds
  rw [Option.getD_none]
  show ((if (1 : Int) > 0 then max 0 (min (if (a : Int) < 0 then (a : Int) + n else a) (n : Int)) else _), (if (1 : Int) > 0 then (n : Int) else -1), (1 : Int)) = _
  rw [if_neg (by omega : ¬ (a : Int) < 0), if_pos (by decide : (1 : Int) > 0), if_pos (by decide : (1 : Int) > 0)]
  congr 1
  omega
/-- of items with their places, those ahead of a -/
theorem pick_ahead {α : Type} (sel : α × Nat → Bool) (a : Nat) : ∀ (xs : List α) (k : Nat), (∀ x i, k ≤ i → i < k + xs.length → sel (x, i) = decide (a ≤ i)) → ((xs.zipIdx k).filterMap fun p => if sel p = true then none else some p.1) = xs.take (a - k)
  | [], k, _ => by simp
  | x :: xs, k, h => by
    have h0 := h x k (Nat.le_refl k) (by rw [List.length_cons]; omega)
    have ih := pick_ahead sel a xs (k + 1) fun x i h1 h2 => h x i (by omega) (by rw [List.length_cons]; omega)
    rw [List.zipIdx_cons, List.filterMap_cons]
    show (match (if sel (x, k) = true then none else some x) with | none => _ | some b => b :: _) = _
    by_cases c : a ≤ k
    · rw [h0, if_pos (decide_eq_true c)]
      show List.filterMap _ (xs.zipIdx (k + 1)) = _
      rw [ih, show a - (k + 1) = 0 by omega, show a - k = 0 by omega, List.take_zero, List.take_zero]
    · rw [h0, if_neg (by rw [decide_eq_false c]; exact Bool.false_ne_true)]
      show x :: List.filterMap _ (xs.zipIdx (k + 1)) = _
      rw [ih, show a - k = (a - (k + 1)) + 1 by omega, List.take_succ_cons]
section
variable {prog : Program} {w : World} {A : Around} {E : Value → Shared → Prop} {s : Shared}
theorem del_from {l sl : Addr} {items : List Value} {n : Nat} {vl : Value} {a : Nat} {Q : Unit → Shared → Prop} (e : s.heap.get? l = some { cls := .type "list", data := .seq items.toArray n }) (hs : s.heap.IsSliceOf sl vl .none .none) (pl : IsPart vl (some (a : Int))) (ha : a ≤ items.length) (hz : items.length ≤ sizeLine)
    (h : ∀ f : Array Value → Array Value, f items.toArray = (items.take a).toArray → Q () { s with heap := s.heap.update l (Obj.mapSeq f) }) : wpAny (model prog w) A (delItem (.ref l) (.ref sl)) Q E s := by
  have hl : s.heap.IsList l items.toArray := PySem.IsL.isList e
  obtain ⟨os, hos, hcs, hds⟩ := id hs
  have hTs : s.TypeIs (.ref sl) "slice" := ⟨os, hos, hcs⟩
  have nz : ¬ ((rawPart none == rawInt 0) = true) := Bool.false_ne_true
  refine wpAny_delItem_slot hl.typeIs (by decide) F.slot_list_delitem (wpAny_call_entry F.slot_list_delitem hl.typeIs F.entry_list_delitem ?_ (F.args_list_delitem_2 _ _))
  show wpAny _ _ (Builtin.List.listSubscript? (.ref sl) >>= _) _ _ s
  unfold Builtin.List.listSubscript?
  refine wpAny_bind (wpAny_bind (wpAny_specialOf hTs slice_no_index ?_))
  simp only [Option.isNone_none, if_true]; refine wpAny_pure ?_
  show wpAny _ _ (typeOf (.ref sl) >>= _) _ _ s
  refine wpAny_bind (wpAny_typeOf hTs ?_)
  first | rw [if_neg (by decide)] | refine PySem.W.KFB.if_not (by decide) ?_
  rw [listSliceParts_eq]
  refine wpAny_bind (wpAny_bind (wpAny_field hos hds (x := .none) rfl (wpAny_bind (wpAny_listPart (k := none) .none ?_))))
  rw [if_neg nz]
  refine wpAny_bind (wpAny_field hos hds (x := vl) rfl (wpAny_bind (wpAny_listPart pl (wpAny_bind (wpAny_field hos hds (x := .none) rfl (wpAny_bind (wpAny_listPart (k := none) .none (wpAny_pure ?_))))))))
  unfold Builtin.List.listItems
  refine wpAny_bind (wpAny_bind (wpAny_seqItems e rfl (wpAny_pure ?_)))
  refine wpAny_bind (wpAny_of_eq ((sliceIndices_raw (some (a : Int)) none none items.toArray.size (by simp)).trans (congrArg (pure : Int × Int × Int → Sem (Int × Int × Int)) (bounds_from (by rw [List.size_toArray]; exact ha)))) ?_)
  refine wpAny_bind (wpAny_rule ?_)
  have hf : ∀ sel : Value × Nat → Bool, (∀ x i, i < items.length → sel (x, i) = decide (a ≤ i)) → (List.filterMap (fun p => if sel p = true then none else some p.1) items.toArray.toList.zipIdx).toArray = (items.take a).toArray := fun sel hsel => by
    have := pick_ahead sel a items 0 fun x i _ h2 => hsel x i (by omega)
    rw [Nat.sub_zero] at this
    exact congrArg List.toArray this
  have key : ∀ (x : Value) (i : Nat), i < items.length → (if (1 : Int) > 0 then decide ((a : Int) ≤ (i : Nat)) && decide (((i : Nat) : Int) < (items.toArray.size : Nat)) && ((((i : Nat) : Int) - (a : Int)) % 1 == 0) else decide (((items.toArray.size : Nat) : Int) < (i : Nat)) && decide (((i : Nat) : Int) ≤ (a : Int)) && (((a : Int) - (i : Nat)) % (-1) == 0)) = decide (a ≤ i) := fun x i hi => by
    rw [if_pos (by decide), List.size_toArray, decide_eq_true (show ((i : Nat) : Int) < (items.length : Nat) by omega), Int.emod_one, Bool.and_true]
    show (decide ((a : Int) ≤ (i : Nat)) && true) = _
    rw [Bool.and_true]
    exact decide_eq_decide.mpr (by omega)
  refine wpAny_bind (wpAny_updateSeq (hz := by rw [List.size_toArray]; exact hz) (_hz' := ?_) e rfl ?_)
  · refine wpAny_bind (wpAny_letGo ?_)
    refine wpAny_pure ?_
    refine ⟨_, rfl, h _ (hf _ ?_)⟩
    exact fun x i hi => key x i hi
  · refine Nat.le_trans (Nat.le_of_eq (congrArg Array.size (hf _ ?_))) ?_
    · exact fun x i hi => key x i hi
    · rw [List.size_toArray, List.length_take]
      omega
end
section
variable {X : Cx}
/-- del xs[i:] of a list that stands in the heap: 0 ≤ i ≤ length -/
def tDelF (to : TE) (ti : TE) : TS := fun D σ H => to σ H fun x H1 => tPart ti σ H1 fun o H2 => ∃ (l : Addr) (xs : List V) (a : Nat), x = .ref l ∧ o = some ((a : Nat) : Int) ∧ H2 l = some (.lst xs) ∧ a ≤ xs.length ∧ D.nx σ (upd H2 l (.lst (xs.take a)))
theorem ps_delF {o i : Expr} {to ti : TE} {tpos p2 pos : Pos} (ho : PE X o to) (hi : PE X i ti) : PS X (.Delete [.Subscript o (.Slice (some i) none none p2) tpos] pos) (tDelF to ti) := by
  refine ⟨fun pins s σ H D I h => ?_⟩
  refine wpAny_Delete (wpAny_deleteEach_cons (wpAny_delete_Subscript (thn (ho.run pins s σ H _ I h) fun u s1 ⟨x, H1, I1, rx, q1⟩ => wpAny_Slice ?_)))
  refine thn ((po_some hi).run pins s1 σ H1 _ I1 q1) fun vl s2 ⟨o, H2, I2, pl, q2⟩ => ?_
  rw [evalPart_none]
  refine wpAny_pure (wpAny_pure ?_)
  obtain ⟨l, xs, a, rfl, rfl, hH, ha, q⟩ := q2
  cases (show u = Value.ref l from rx)
  have I4 : Inv X pins σ H2 { s2 with heap := s2.heap.push { cls := .type "slice", data := .fields #[vl, .none, .none] } } := I2.kept (t' := s2.toks) fun b ob q => Heap.get?_push_of_some _ q
  obtain ⟨z, its, n, r, hl, e⟩ := I4.lstM hH
  refine del_from e (Heap.IsSliceOf.new ..) pl (by omega) (by omega) fun f hf => ?_
  refine wpAny_deleteEach_nil ⟨σ, _, I4.lset (its' := its.take a) (t' := s2.toks) hH e hf (r.take a) ?_, q⟩
  rw [List.length_take]
  omega
/-- xs.extend(t), t a tuple -/
def rExtT (K : PySem.W.Frag) : V → List V → Hp → VK → Prop := fun x vs H Q => ∃ (l b : Addr) (xs zs : List V), x = .ref l ∧ vs = [.ref b] ∧ H l = some (.lst xs) ∧ SqT K H b zs ∧ xs.length + zs.length ≤ sizeLine ∧ Q .non (upd H l (.lst (xs ++ zs)))
theorem mt_extendT : MtM X "list.extend" (rExtT X.K) := by
  intro pins s σ H x vs v us Q I rx rv h
  obtain ⟨l, b, xs, zs, rfl, rfl, hH, hB, hz, q⟩ := h
  cases rx
  obtain ⟨u, rfl, ru⟩ := rv.one
  cases ru
  obtain ⟨z, its, n, r, hl, e⟩ := I.lstM hH
  obtain ⟨its2, r2, ⟨o, ho, hc, n2, hd⟩, hz2⟩ := I.tuple hB
  have l2 := r2.length
  have fin : EP X pins σ Q .none { s with heap := s.heap.update l (Obj.mapSeq (· ++ its2.toArray)) } := by
    refine ⟨.non, _, I.lset (its' := its ++ its2) (t' := s.toks) hH e (by simp) (r.append r2) ?_, rfl, q⟩
    rw [List.length_append]; omega
  refine wpAny_call_entry F.slot_list_extend ⟨_, e, rfl⟩ F.entry_list_extend ?_ (F.args_list_extend_2 _ _)
  show wpAny _ _ (Builtin.List.listExtendWith (.ref l) (.ref b) .none) _ _ s
  unfold Builtin.List.listExtendWith Builtin.List.listItems
  refine wpAny_bind (wpAny_typeOf ⟨o, ho, hc⟩ ?_)
  rw [show (Builtin.List.listSameRef (.ref l) (.ref b) || Value.type "tuple" == Value.type "list" || Value.type "tuple" == Value.type "tuple") = true by simp]
  rw [if_pos rfl]
  refine wpAny_bind (wpAny_bind (wpAny_seqItems ho hd (wpAny_pure ?_)))
  refine wpAny_bind (wpAny_bind (wpAny_seqItems e rfl (wpAny_pure ?_)))
  have sz : its.toArray.size + its2.toArray.size ≤ sizeLine := by
    rw [List.size_toArray, List.size_toArray]; omega
  have nl : ¬ (!its.toArray.isEmpty && Builtin.List.listTooLong (its.toArray.size + its2.toArray.size)) = true := by
    rw [notLongL sz, Bool.and_false]; exact Bool.false_ne_true
  show wpAny _ _ (if (!its.toArray.isEmpty && Builtin.List.listTooLong (its.toArray.size + its2.toArray.size)) = true then _ else _) _ _ s
  rw [if_neg nl]
  show wpAny _ _ (updateSeq l (· ++ its2.toArray) >>= _) _ _ s
  refine wpAny_bind (wpAny_updateSeq (hz := Nat.le_trans (Nat.le_add_right _ _) sz) (_hz' := ?_) e rfl ?_)
  · exact wpAny_pure ⟨.none, rfl, fin⟩
  · show (its.toArray ++ its2.toArray).size ≤ sizeLine + 1
    rw [Array.size_append]; omega
end
end Dl
namespace Ep
open PySem PySem.Spec PyProof.Rows L2 Pen Dat Ki Fi
/-! ## Expressions: as data, their parts, and the order in which they are told -/
inductive Lf where
  | num (w v : Int) | nam (n : Str) | port (u n : Str)
inductive Op where
  | read (m : Str) | un (k : Str) | sh (k : Str) (n : Int) | slc (h l : Int) | bin (k : Str) | ite | join
inductive Ex where
  | lf (l : Lf) | op (o : Op) (ps : List Ex)
def parts : Ex → List Ex
  | .lf _ => []
  | .op _ ps => ps
def lfD : Lf → PyData
  | .num w v => .tuple [.str "number", .int w, .int v]
  | .nam n => .tuple [.str "name", .str n]
  | .port u n => .tuple [.str "port", .str u, .str n]
def opD : Op → List PyData → PyData
  | .read m, ds => .tuple (.str "read" :: .str m :: ds)
  | .un k, ds => .tuple (.str k :: ds)
  | .sh k n, ds => .tuple (.str k :: (ds ++ [.int n]))
  | .slc h l, ds => .tuple (.str "slice" :: (ds ++ [.int h, .int l]))
  | .bin k, ds => .tuple (.str k :: ds)
  | .ite, ds => .tuple (.str "if" :: ds)
  | .join, ds => .tuple [.str "join", .tuple ds]
mutual
def exD : Ex → PyData
  | .lf l => lfD l
  | .op o ps => opD o (exDs ps)
def exDs : List Ex → List PyData
  | [] => []
  | p :: ps => exD p :: exDs ps
end
mutual
def exZ : Ex → Nat
  | .lf _ => 1
  | .op _ ps => exZs ps + 1
def exZs : List Ex → Nat
  | [] => 0
  | p :: ps => exZ p + exZs ps
end
mutual
def post : Ex → List Ex
  | .lf l => [.lf l]
  | .op o ps => posts ps ++ [.op o ps]
def posts : List Ex → List Ex
  | [] => []
  | p :: ps => post p ++ posts ps
end
/-- which operators have how many parts -/
def opOk : Op → Nat → Prop
  | .read _, n => n = 1
  | .un k, n => n = 1 ∧ (k = "not" ∨ k = "minus")
  | .sh k _, n => n = 1 ∧ (k = "left" ∨ k = "right")
  | .slc _ _, n => n = 1
  | .bin k, n => n = 2 ∧ (k = "and" ∨ k = "or" ∨ k = "xor" ∨ k = "plus" ∨ k = "times" ∨ k = "equal" ∨ k = "below")
  | .ite, n => n = 3
  | .join, _ => True
mutual
def Shp : Ex → Prop
  | .lf _ => True
  | .op o ps => opOk o ps.length ∧ Shps ps
def Shps : List Ex → Prop
  | [] => True
  | p :: ps => Shp p ∧ Shps ps
end
theorem exDs_map : ∀ ps : List Ex, exDs ps = ps.map exD
  | [] => by unfold exDs; rfl
  | p :: ps => by
    unfold exDs
    rw [exDs_map ps]
    rfl
theorem shps_mem : ∀ {ps : List Ex}, Shps ps → ∀ p ∈ ps, Shp p
  | q :: ps, h, p, hp => by
    unfold Shps at h
    rcases List.mem_cons.mp hp with g | g
    · rw [g]
      exact h.1
    · exact shps_mem h.2 p g
theorem shp_parts {e : Ex} (h : Shp e) : ∀ p ∈ parts e, Shp p := by
  cases e with
  | lf l => exact fun p hp => by cases hp
  | op o ps =>
    unfold Shp at h
    exact shps_mem h.2
theorem exZ_parts (e : Ex) : exZ e = exZs (parts e) + 1 := by
  cases e with
  | lf l => unfold exZ parts exZs; rfl
  | op o ps => unfold exZ parts; rfl
theorem exZs_nil : exZs [] = 0 := by rw [exZs]
theorem exZs_cons (p : Ex) (ps : List Ex) : exZs (p :: ps) = exZ p + exZs ps := by rw [exZs]
theorem exZs_app : ∀ as bs : List Ex, exZs (as ++ bs) = exZs as + exZs bs
  | [], bs => by rw [List.nil_append, exZs_nil, Nat.zero_add]
  | a :: as, bs => by rw [List.cons_append, exZs_cons, exZs_cons, exZs_app as bs, Nat.add_assoc]
theorem exZ_pos (e : Ex) : 1 ≤ exZ e := by
  rw [exZ_parts]
  omega
theorem exZs_len : ∀ ps : List Ex, ps.length ≤ exZs ps
  | [] => Nat.zero_le _
  | p :: ps => by
    have := exZs_len ps
    have := exZ_pos p
    unfold exZs
    rw [List.length_cons]
    omega
theorem post_parts (e : Ex) : post e = posts (parts e) ++ [e] := by
  cases e with
  | lf l => unfold post parts posts; rfl
  | op o ps => unfold post parts; rfl
theorem posts_app : ∀ as bs : List Ex, posts (as ++ bs) = posts as ++ posts bs
  | [], bs => by show posts bs = posts [] ++ posts bs; unfold posts; rfl
  | a :: as, bs => by
    show posts (a :: (as ++ bs)) = posts (a :: as) ++ posts bs
    unfold posts
    rw [posts_app as bs, List.append_assoc]
    cases bs <;> rfl
theorem posts_one (e : Ex) : posts [e] = post e := by
  unfold posts posts
  exact List.append_nil _
mutual
theorem post_len : ∀ e : Ex, (post e).length = exZ e
  | .lf l => by unfold post exZ; rfl
  | .op o ps => by
    unfold post exZ
    rw [List.length_append, posts_len ps]
    rfl
theorem posts_len : ∀ ps : List Ex, (posts ps).length = exZs ps
  | [] => by unfold posts exZs; rfl
  | p :: ps => by
    unfold posts exZs
    rw [List.length_append, post_len p, posts_len ps]
end
/-- the values that stand on the pile, told off by their expressions -/
inductive Runs : List Ex → List Ex → List Ex → Prop
  | nil (s : List Ex) : Runs s [] s
  | cons (s r fin : List Ex) (e : Ex) : Runs (s ++ [e]) r fin → Runs (s ++ parts e) (e :: r) fin
mutual
theorem runs_post : ∀ (e : Ex) (s r fin : List Ex), Runs (s ++ [e]) r fin → Runs s (post e ++ r) fin
  | .lf l, s, r, fin, h => by
    unfold post
    have := Runs.cons s r fin (.lf l) h
    rw [show parts (.lf l) = [] from rfl, List.append_nil] at this
    exact this
  | .op o ps, s, r, fin, h => by
    unfold post
    rw [List.append_assoc]
    have h2 : Runs (s ++ parts (.op o ps)) (.op o ps :: r) fin := Runs.cons s r fin (.op o ps) h
    rw [show parts (.op o ps) = ps from rfl] at h2
    exact runs_posts ps s (.op o ps :: r) fin h2
theorem runs_posts : ∀ (ps s r fin : List Ex), Runs (s ++ ps) r fin → Runs s (posts ps ++ r) fin
  | [], s, r, fin, h => by
    unfold posts
    rw [List.append_nil] at h
    exact h
  | p :: ps, s, r, fin, h => by
    unfold posts
    rw [List.append_assoc]
    refine runs_post p s (posts ps ++ r) fin (runs_posts ps (s ++ [p]) r fin ?_)
    rw [List.append_assoc]
    exact h
end
theorem runs_all (e : Ex) : Runs [] (post e) [e] := by
  have := runs_post e [] [] [e] (Runs.nil _)
  rw [List.append_nil] at this
  exact this
/-! ### data without lists -/
mutual
def noL : PyData → Bool
  | .list _ => false
  | .tuple ds => noLs ds
  | .dict _ => false
  | .none => true
  | .bool _ => true
  | .int _ => true
  | .str _ => true
def noLs : List PyData → Bool
  | [] => true
  | d :: ds => noL d && noLs ds
end
theorem noLs_app : ∀ as bs : List PyData, noLs (as ++ bs) = (noLs as && noLs bs)
  | [], bs => by show noLs bs = (noLs [] && noLs bs); unfold noLs; cases bs <;> rfl
  | a :: as, bs => by
    show noLs (a :: (as ++ bs)) = (noLs (a :: as) && noLs bs)
    unfold noLs
    rw [noLs_app as bs, Bool.and_assoc]
    cases bs <;> rfl
section
variable {K : PySem.W.Frag} {H H' : Hp}
mutual
theorem dp_firm (s : Firm H H') : ∀ {d : PyData} {v : V}, noL d = true → Dp K H v d → Dp K H' v d
  | .none, _, _, h => by cases h; exact .non
  | .bool b, _, _, h => by cases h; exact .bl b
  | .int i, _, _, h => by cases h; exact .int i
  | .str x, _, _, h => by cases h; exact .str x
  | .list ds, _, n, _ => by unfold noL at n; cases n
  | .tuple ds, _, n, h => by
    unfold noL at n
    cases h with
    | tup hs ha => exact .tup (firm_seq s hs) (dps_firm s n ha)
  | .dict _, _, _, h => by cases h
theorem dps_firm (s : Firm H H') : ∀ {ds : List PyData} {vs : List V}, noLs ds = true → DpAll K H vs ds → DpAll K H' vs ds
  | [], _, _, h => by cases h; exact .nil
  | d :: ds, _, n, h => by
    unfold noLs at n
    obtain ⟨n1, n2⟩ := (Bool.and_eq_true _ _).mp n
    cases h with
    | cons h1 h2 => exact .cons (dp_firm s n1 h1) (dps_firm s n2 h2)
end
end
theorem opD_noL {o : Op} {ds : List PyData} (h : noLs ds = true) : noL (opD o ds) = true := by
  cases o <;> simp [opD, noL, noLs, noLs_app, h]
mutual
theorem ex_noL : ∀ e : Ex, noL (exD e) = true
  | .lf l => by
    unfold exD
    cases l <;> simp [lfD, noL, noLs]
  | .op o ps => by
    unfold exD
    exact opD_noL (exs_noL ps)
theorem exs_noL : ∀ ps : List Ex, noLs (exDs ps) = true
  | [] => by unfold exDs noLs; rfl
  | p :: ps => by
    unfold exDs noLs
    rw [ex_noL p, exs_noL ps]
    rfl
end
def ExAt (K : PySem.W.Frag) (H : Hp) (v : V) (e : Ex) : Prop := Dp K H v (exD e)
theorem ExAt.firm {K : PySem.W.Frag} {H H' : Hp} {v : V} {e : Ex} (s : Firm H H') (h : ExAt K H v e) : ExAt K H' v e := dp_firm s (ex_noL e) h
theorem exs_all {K : PySem.W.Frag} {H : Hp} : ∀ {vs : List V} {ps : List Ex}, DpAll K H vs (exDs ps) → All2 (ExAt K H) vs ps
  | _, [], h => by
    unfold exDs at h
    cases h
    exact .nil
  | _, p :: ps, h => by
    unfold exDs at h
    cases h with
    | cons a t => exact .cons a (exs_all t)
theorem all_exs {K : PySem.W.Frag} {H : Hp} : ∀ {vs : List V} {ps : List Ex}, All2 (ExAt K H) vs ps → DpAll K H vs (exDs ps)
  | _, [], .nil => by
    unfold exDs
    exact .nil
  | _, p :: ps, .cons a t => by
    unfold exDs
    exact .cons a (all_exs t)
end Ep
namespace Eq
open PySem PySem.Spec PyProof.Rows L2 Pen Dat Ki Fi Ep
theorem goF {b : Bool} {A B : Prop} (h : b = false) (x : B) : if b = true then A else B := by
  rw [h]
  exact iteF x
theorem goT {b : Bool} {A B : Prop} (h : b = true) (x : A) : if b = true then A else B := by
  rw [h]
  exact iteT x
theorem len0 : 0 ≤ sizeLine := by decide
theorem len1 : 1 ≤ sizeLine := by decide
theorem len2 : 2 ≤ sizeLine := by decide
end Eq
namespace Es
open PySem PySem.Spec PyProof.Rows L2 Pen Dat Ki Fi Ep
/-! ## What expressions mean: widths, and words beneath the widths -/
/-- the widths of names, ports, memories (with the width of their places) -/
structure Gam where
  nm : Str → Option Nat
  pt : Str → Str → Option Nat
  mm : Str → Option (Nat × Nat)
structure Vl where
  nm : Str → Nat
  pt : Str → Str → Nat
  mm : Str → Nat → Nat
structure Good (Γ : Gam) (V : Vl) : Prop where
  nm : ∀ n w, Γ.nm n = some w → V.nm n < 2 ^ w
  pt : ∀ u n w, Γ.pt u n = some w → V.pt u n < 2 ^ w
  mm : ∀ m w b, Γ.mm m = some (w, b) → ∀ i, i < 2 ^ b → V.mm m i < 2 ^ w
mutual
inductive Wt (Γ : Gam) : Ex → Nat → Prop
  | num (w v : Nat) : 1 ≤ w → w ≤ 4096 → v < 2 ^ w → Wt Γ (.lf (.num w v)) w
  | nam (n : Str) (w : Nat) : w ≤ 4096 → Γ.nm n = some w → Wt Γ (.lf (.nam n)) w
  | port (u n : Str) (w : Nat) : w ≤ 4096 → Γ.pt u n = some w → Wt Γ (.lf (.port u n)) w
  | read (m : Str) (p : Ex) (w b : Nat) : w ≤ 4096 → Γ.mm m = some (w, b) → Wt Γ p b → Wt Γ (.op (.read m) [p]) w
  | un (k : Str) (p : Ex) (w : Nat) : k = "not" ∨ k = "minus" → w ≤ 4096 → Wt Γ p w → Wt Γ (.op (.un k) [p]) w
  | sh (k : Str) (n : Nat) (p : Ex) (w : Nat) : k = "left" ∨ k = "right" → n ≤ 4096 → w ≤ 4096 → Wt Γ p w → Wt Γ (.op (.sh k n) [p]) w
  | slc (h l : Nat) (p : Ex) (w : Nat) : l ≤ h → h < w → w ≤ 4096 → Wt Γ p w → Wt Γ (.op (.slc h l) [p]) (h - l + 1)
  | bin (k : Str) (p q : Ex) (w : Nat) : k = "and" ∨ k = "or" ∨ k = "xor" ∨ k = "plus" ∨ k = "times" → w ≤ 4096 → Wt Γ p w → Wt Γ q w → Wt Γ (.op (.bin k) [p, q]) w
  | cmp (k : Str) (p q : Ex) (w : Nat) : k = "equal" ∨ k = "below" → w ≤ 4096 → Wt Γ p w → Wt Γ q w → Wt Γ (.op (.bin k) [p, q]) 1
  | ite (c p q : Ex) (w : Nat) : w ≤ 4096 → Wt Γ c 1 → Wt Γ p w → Wt Γ q w → Wt Γ (.op .ite [c, p, q]) w
  | join (ps : List Ex) (ws : List Nat) : Wts Γ ps ws → ws.sum ≤ 4096 → Wt Γ (.op .join ps) ws.sum
inductive Wts (Γ : Gam) : List Ex → List Nat → Prop
  | nil : Wts Γ [] []
  | cons (p : Ex) (ps : List Ex) (w : Nat) (ws : List Nat) : Wt Γ p w → Wts Γ ps ws → Wts Γ (p :: ps) (w :: ws)
end
abbrev WV := Nat × Nat
def joinP (s : WV) (ds : List WV) : WV := ds.foldl (fun s d => (s.1 + d.1, s.2 * 2 ^ d.1 + d.2)) s
def unP (k : Str) (c : WV) : WV := if k = "not" then (c.1, 2 ^ c.1 - 1 - c.2) else (c.1, (2 ^ c.1 - c.2) % 2 ^ c.1)
def shP (k : Str) (n : Nat) (c : WV) : WV := if k = "left" then (c.1, c.2 * 2 ^ n % 2 ^ c.1) else (c.1, c.2 / 2 ^ n)
def binP (k : Str) (a b : WV) : WV :=
  if k = "and" then (a.1, a.2 &&& b.2) else if k = "or" then (a.1, a.2 ||| b.2) else if k = "xor" then (a.1, a.2 ^^^ b.2)
  else if k = "plus" then (a.1, (a.2 + b.2) % 2 ^ a.1) else if k = "times" then (a.1, a.2 * b.2 % 2 ^ a.1)
  else if k = "equal" then (1, if a.2 = b.2 then 1 else 0) else (1, if a.2 < b.2 then 1 else 0)
def opP (Γ : Gam) (V : Vl) : Op → List WV → WV
  | .read m, [c] => (((Γ.mm m).getD (0, 0)).1, V.mm m c.2)
  | .un k, [c] => unP k c
  | .sh k n, [c] => shP k n.toNat c
  | .slc h l, [c] => (h.toNat - l.toNat + 1, c.2 / 2 ^ l.toNat % 2 ^ (h.toNat - l.toNat + 1))
  | .bin k, [a, b] => binP k a b
  | .ite, [c, a, b] => if c.2 = 1 then a else b
  | .join, ds => joinP (0, 0) ds
  | _, _ => (0, 0)
def lfP (Γ : Gam) (V : Vl) : Lf → WV
  | .num w v => (w.toNat, v.toNat)
  | .nam n => ((Γ.nm n).getD 0, V.nm n)
  | .port u n => ((Γ.pt u n).getD 0, V.pt u n)
mutual
def den (Γ : Gam) (V : Vl) : Ex → WV
  | .lf l => lfP Γ V l
  | .op o ps => opP Γ V o (dens Γ V ps)
def dens (Γ : Gam) (V : Vl) : List Ex → List WV
  | [] => []
  | p :: ps => den Γ V p :: dens Γ V ps
end
theorem dens_map (Γ : Gam) (V : Vl) : ∀ ps : List Ex, dens Γ V ps = ps.map (den Γ V)
  | [] => by rw [dens]; rfl
  | p :: ps => by rw [dens, dens_map Γ V ps]; rfl
theorem den_op (Γ : Gam) (V : Vl) (o : Op) (ps : List Ex) : den Γ V (.op o ps) = opP Γ V o (ps.map (den Γ V)) := by rw [den, dens_map]
theorem den_lf (Γ : Gam) (V : Vl) (l : Lf) : den Γ V (.lf l) = lfP Γ V l := by rw [den]
section
variable {Γ : Gam} {V : Vl}
theorem Wt.shp {e : Ex} {w : Nat} (h : Wt Γ e w) : Shp e := by
  refine Wt.rec (motive_1 := fun e _ _ => Shp e) (motive_2 := fun ps _ _ => Shps ps) ?_ ?_ ?_ ?_ ?_ ?_ ?_ ?_ ?_ ?_ ?_ ?_ ?_ h
  · intro w v _ _ _; rw [Shp]; trivial
  · intro n w _ _; rw [Shp]; trivial
  · intro u n w _ _; rw [Shp]; trivial
  · intro m p w b _ _ _ ih; rw [Shp, Shps, Shps]; exact ⟨rfl, ih, trivial⟩
  · intro k p w hk _ _ ih; rw [Shp, Shps, Shps]; exact ⟨⟨rfl, hk⟩, ih, trivial⟩
  · intro k n p w hk _ _ _ ih; rw [Shp, Shps, Shps]; exact ⟨⟨rfl, hk⟩, ih, trivial⟩
  · intro h l p w _ _ _ _ ih; rw [Shp, Shps, Shps]; exact ⟨rfl, ih, trivial⟩
  · intro k p q w hk _ _ _ ih1 ih2; rw [Shp, Shps, Shps, Shps]; exact ⟨⟨rfl, by rcases hk with h | h | h | h | h <;> simp [h]⟩, ih1, ih2, trivial⟩
  · intro k p q w hk _ _ _ ih1 ih2; rw [Shp, Shps, Shps, Shps]; exact ⟨⟨rfl, by rcases hk with h | h <;> simp [h]⟩, ih1, ih2, trivial⟩
  · intro c p q w _ _ _ _ ih1 ih2 ih3; rw [Shp, Shps, Shps, Shps, Shps]; exact ⟨rfl, ih1, ih2, ih3, trivial⟩
  · intro ps ws _ _ ih; rw [Shp]; exact ⟨trivial, ih⟩
  · rw [Shps]; trivial
  · intro p ps w ws _ _ ih1 ih2; rw [Shps]; exact ⟨ih1, ih2⟩
theorem Wt.le {e : Ex} {w : Nat} (h : Wt Γ e w) : w ≤ 4096 := by
  cases h <;> first | assumption | omega
theorem wts_mem : ∀ {ps : List Ex} {ws : List Nat}, Wts Γ ps ws → ∀ p ∈ ps, ∃ w, Wt Γ p w
  | _, _, .nil, _, h => by cases h
  | _, _, .cons p ps w ws h t, q, hq => by
    rcases List.mem_cons.mp hq with g | g
    · exact ⟨w, g ▸ h⟩
    · exact wts_mem t q g
theorem Wt.sub {e : Ex} {w : Nat} (h : Wt Γ e w) : ∀ p ∈ parts e, ∃ w, Wt Γ p w := by
  intro p hp
  cases h with
  | num => cases hp
  | nam => cases hp
  | port => cases hp
  | read m p0 w b _ _ h => rw [List.mem_singleton.mp hp]; exact ⟨_, h⟩
  | un k p0 w _ _ h => rw [List.mem_singleton.mp hp]; exact ⟨_, h⟩
  | sh k n p0 w _ _ _ h => rw [List.mem_singleton.mp hp]; exact ⟨_, h⟩
  | slc hh l p0 w _ _ _ h => rw [List.mem_singleton.mp hp]; exact ⟨_, h⟩
  | bin k p0 q0 w _ _ h1 h2 =>
    have hp' : p ∈ [p0, q0] := hp
    simp only [List.mem_cons, List.not_mem_nil, or_false] at hp'
    rcases hp' with rfl | rfl
    · exact ⟨_, h1⟩
    · exact ⟨_, h2⟩
  | cmp k p0 q0 w _ _ h1 h2 =>
    have hp' : p ∈ [p0, q0] := hp
    simp only [List.mem_cons, List.not_mem_nil, or_false] at hp'
    rcases hp' with rfl | rfl
    · exact ⟨_, h1⟩
    · exact ⟨_, h2⟩
  | ite c p0 q0 w _ h0 h1 h2 =>
    have hp' : p ∈ [c, p0, q0] := hp
    simp only [List.mem_cons, List.not_mem_nil, or_false] at hp'
    rcases hp' with rfl | rfl | rfl
    · exact ⟨_, h0⟩
    · exact ⟨_, h1⟩
    · exact ⟨_, h2⟩
  | join ps ws h _ => exact wts_mem h p hp
theorem one_lt : (0 : Nat) < 2 ^ 1 ∧ (1 : Nat) < 2 ^ 1 := by decide
theorem binP_lt {k : Str} {a b : WV} (hk : k = "and" ∨ k = "or" ∨ k = "xor" ∨ k = "plus" ∨ k = "times") {w : Nat} (ha : a.1 = w ∧ a.2 < 2 ^ w) (hb : b.1 = w ∧ b.2 < 2 ^ w) : (binP k a b).1 = w ∧ (binP k a b).2 < 2 ^ w := by
  have pw : 0 < 2 ^ w := Nat.two_pow_pos w
  unfold binP
  obtain ⟨rfl, ha⟩ := ha
  rcases hk with rfl | rfl | rfl | rfl | rfl
  · rw [if_pos rfl]; exact ⟨rfl, Nat.lt_of_le_of_lt Nat.and_le_left ha⟩
  · rw [if_neg (by decide), if_pos rfl]; exact ⟨rfl, Nat.or_lt_two_pow ha hb.2⟩
  · rw [if_neg (by decide), if_neg (by decide), if_pos rfl]; exact ⟨rfl, Nat.xor_lt_two_pow ha hb.2⟩
  · rw [if_neg (by decide), if_neg (by decide), if_neg (by decide), if_pos rfl]; exact ⟨rfl, Nat.mod_lt _ pw⟩
  · rw [if_neg (by decide), if_neg (by decide), if_neg (by decide), if_neg (by decide), if_pos rfl]; exact ⟨rfl, Nat.mod_lt _ pw⟩
theorem cmpP_lt {k : Str} {a b : WV} (hk : k = "equal" ∨ k = "below") : (binP k a b).1 = 1 ∧ (binP k a b).2 < 2 ^ 1 := by
  unfold binP
  rcases hk with rfl | rfl
  · rw [if_neg (by decide), if_neg (by decide), if_neg (by decide), if_neg (by decide), if_neg (by decide), if_pos rfl]
    refine ⟨rfl, ?_⟩
    show (if a.2 = b.2 then 1 else 0) < 2 ^ 1
    split <;> decide
  · rw [if_neg (by decide), if_neg (by decide), if_neg (by decide), if_neg (by decide), if_neg (by decide), if_neg (by decide)]
    refine ⟨rfl, ?_⟩
    show (if a.2 < b.2 then 1 else 0) < 2 ^ 1
    split <;> decide
theorem joinP_lt : ∀ {ds : List WV} {ws : List Nat} (s : WV), (∀ i : Nat, (ds[i]?).map (fun d : WV => d.1) = ws[i]?) → (∀ d ∈ ds, d.2 < 2 ^ d.1) → s.2 < 2 ^ s.1 → (joinP s ds).1 = s.1 + ws.sum ∧ (joinP s ds).2 < 2 ^ (s.1 + ws.sum)
  | [], ws, s, hw, _, hs => by
    cases ws with
    | nil => exact ⟨rfl, hs⟩
    | cons w ws => have := hw 0; simp at this
  | d :: ds, ws, s, hw, hd, hs => by
    cases ws with
    | nil => have := hw 0; simp at this
    | cons w ws =>
      have h0 := hw 0
      simp at h0
      subst h0
      have hd0 := hd d List.mem_cons_self
      have st : s.2 * 2 ^ d.1 + d.2 < 2 ^ (s.1 + d.1) := by
        rw [Nat.pow_add]
        have h1 : (s.2 + 1) * 2 ^ d.1 ≤ 2 ^ s.1 * 2 ^ d.1 := Nat.mul_le_mul_right _ hs
        rw [Nat.add_mul, Nat.one_mul] at h1
        omega
      have ih := joinP_lt (ds := ds) (ws := ws) (s.1 + d.1, s.2 * 2 ^ d.1 + d.2) (fun i => by have := hw (i + 1); simpa using this) (fun e he => hd e (List.mem_cons_of_mem _ he)) st
      rw [List.sum_cons, ← Nat.add_assoc]
      exact ih
theorem wt_den (g : Good Γ V) {e : Ex} {w : Nat} (h : Wt Γ e w) : (den Γ V e).1 = w ∧ (den Γ V e).2 < 2 ^ w := by
  refine Wt.rec (motive_1 := fun e w _ => (den Γ V e).1 = w ∧ (den Γ V e).2 < 2 ^ w) (motive_2 := fun ps ws _ => (∀ i : Nat, ((dens Γ V ps)[i]?).map (fun d : WV => d.1) = ws[i]?) ∧ ∀ d ∈ dens Γ V ps, d.2 < 2 ^ d.1) ?_ ?_ ?_ ?_ ?_ ?_ ?_ ?_ ?_ ?_ ?_ ?_ ?_ h
  · intro w v _ _ h; rw [den_lf]; exact ⟨Int.toNat_natCast w, by show (v : Int).toNat < _; rw [Int.toNat_natCast]; exact h⟩
  · intro n w _ h; rw [den_lf]; exact ⟨by show (Γ.nm n).getD 0 = w; rw [h]; rfl, g.nm n w h⟩
  · intro u n w _ h; rw [den_lf]; exact ⟨by show (Γ.pt u n).getD 0 = w; rw [h]; rfl, g.pt u n w h⟩
  · intro m p w b _ h _ ih; rw [den_op]; exact ⟨by show ((Γ.mm m).getD (0, 0)).1 = w; rw [h]; rfl, g.mm m w b h _ ih.2⟩
  · intro k p w hk _ _ ih
    rw [den_op]
    show (unP k (den Γ V p)).1 = w ∧ (unP k (den Γ V p)).2 < 2 ^ w
    obtain ⟨e1, e2⟩ := ih
    have pw := Nat.two_pow_pos w
    unfold unP
    rw [e1]
    split
    · exact ⟨rfl, by show 2 ^ w - 1 - _ < _; omega⟩
    · exact ⟨rfl, Nat.mod_lt _ pw⟩
  · intro k n p w hk _ _ _ ih
    rw [den_op]
    show (shP k (n : Int).toNat (den Γ V p)).1 = w ∧ (shP k (n : Int).toNat (den Γ V p)).2 < 2 ^ w
    obtain ⟨e1, e2⟩ := ih
    unfold shP
    rw [e1]
    split
    · exact ⟨rfl, Nat.mod_lt _ (Nat.two_pow_pos w)⟩
    · exact ⟨rfl, Nat.lt_of_le_of_lt (Nat.div_le_self _ _) e2⟩
  · intro h l p w _ _ _ _ _
    rw [den_op]
    show (h : Int).toNat - (l : Int).toNat + 1 = _ ∧ (den Γ V p).2 / 2 ^ (l : Int).toNat % 2 ^ ((h : Int).toNat - (l : Int).toNat + 1) < _
    rw [Int.toNat_natCast, Int.toNat_natCast]
    exact ⟨rfl, Nat.mod_lt _ (Nat.two_pow_pos _)⟩
  · intro k p q w hk _ _ _ ih1 ih2
    rw [den_op]
    exact binP_lt hk ih1 ih2
  · intro k p q w hk _ _ _ _ _
    rw [den_op]
    exact cmpP_lt hk
  · intro c p q w _ _ _ _ _ ih2 ih3
    rw [den_op]
    show (if (den Γ V c).2 = 1 then den Γ V p else den Γ V q).1 = w ∧ (if (den Γ V c).2 = 1 then den Γ V p else den Γ V q).2 < 2 ^ w
    split
    · exact ih2
    · exact ih3
  · intro ps ws _ _ ih
    rw [den]
    have := joinP_lt (0, 0) ih.1 ih.2 (by decide)
    rw [Nat.zero_add] at this
    exact this
  · rw [dens]; exact ⟨fun i => rfl, fun d h => by cases h⟩
  · intro p ps w ws _ _ ih1 ih2
    rw [dens]
    refine ⟨fun i => ?_, fun d hd => ?_⟩
    · cases i with
      | zero => show some (den Γ V p).1 = some w; rw [ih1.1]
      | succ i => exact ih2.1 i
    · rcases List.mem_cons.mp hd with g | g
      · rw [g, ih1.1]; exact ih1.2
      · exact ih2.2 d g
end
/-! ### a word in the heap -/
def WAt (K : PySem.W.Frag) (H : Hp) (v : V) (x : WV) : Prop := Pt K H v ((x.1 : Int), (x.2 : Int))
theorem WAt.firm {K : PySem.W.Frag} {H H' : Hp} {v : V} {x : WV} (s : Firm H H') (h : WAt K H v x) : WAt K H' v x := Pt.firm s h
def opK : Op → Str
  | .read _ => "read"
  | .un k => k
  | .sh k _ => k
  | .slc _ _ => "slice"
  | .bin k => k
  | .ite => "if"
  | .join => "join"
/-- a def of the table: the word of an operator out of the words of its parts -/
def spAct (K : PySem.W.Frag) (kd : Str) : Sp := fun vs H Q _ => ∃ (Γ : Gam) (U : Vl) (v : V) (L : Addr) (o : Op) (ps : List Ex) (w : Nat) (ws : List V), vs = [v, .ref L] ∧ opK o = kd ∧ Wt Γ (.op o ps) w ∧ Good Γ U ∧ ExAt K H v (.op o ps) ∧ H L = some (.lst ws) ∧ All2 (WAt K H) ws (ps.map (den Γ U)) ∧
  ∀ H' r, Same H H' → WAt K H' r (den Γ U (.op o ps)) → Q r H'
end Es
namespace Ev
open PySem PySem.Spec PyProof.Rows L2 Pen Dat Ki Fi Ep Eq Es
/-! ## Drawn expressions: of the width that is asked -/
mutual
def exH : Ex → Nat
  | .lf _ => 0
  | .op _ ps => exHs ps + 1
def exHs : List Ex → Nat
  | [] => 0
  | p :: ps => max (exH p) (exHs ps)
end
theorem exH_lf (l : Lf) : exH (.lf l) = 0 := by rw [exH]
theorem exH_op (o : Op) (ps : List Ex) : exH (.op o ps) = exHs ps + 1 := by rw [exH]
theorem exHs_nil : exHs [] = 0 := by rw [exHs]
theorem exHs_cons (p : Ex) (ps : List Ex) : exHs (p :: ps) = max (exH p) (exHs ps) := by rw [exHs]
theorem exZ_lf (l : Lf) : exZ (.lf l) = 1 := by rw [exZ]
theorem exZ_op (o : Op) (ps : List Ex) : exZ (.op o ps) = exZs ps + 1 := by rw [exZ]
/-- a name of the list: an expression, its width -/
structure NmE (Γ : Gam) (S h0 : Nat) (e : Ex) (w : Nat) : Prop where
  wt : Wt Γ e w
  z : exZ e ≤ S
  h : exH e ≤ h0
  lay : (exD e).canLay0 = true
  dep : (exD e).depth ≤ 20
def NmR (K : PySem.W.Frag) (H : Hp) (Γ : Gam) (S h0 : Nat) (v : V) (r : Ex × Nat) : Prop := ∃ t ev, v = .ref t ∧ SqT K H t [ev, .int (r.2 : Nat)] ∧ ExAt K H ev r.1 ∧ NmE Γ S h0 r.1 r.2
theorem NmR.firm {K : PySem.W.Frag} {H H' : Hp} {Γ : Gam} {S h0 : Nat} {v : V} {r : Ex × Nat} (s : Firm H H') (h : NmR K H Γ S h0 v r) : NmR K H' Γ S h0 v r := by
  obtain ⟨t, ev, e, hs, he, n⟩ := h
  exact ⟨t, ev, e, firm_seq s hs, he.firm s, n⟩
def FitR (K : PySem.W.Frag) (H : Hp) (Γ : Gam) (S h0 w : Nat) (v : V) (e : Ex) : Prop := ExAt K H v e ∧ NmE Γ S h0 e w
theorem fit_dp {K : PySem.W.Frag} {H : Hp} {Γ : Gam} {S h0 w : Nat} : ∀ {vs : List V} {es : List Ex}, All2 (FitR K H Γ S h0 w) vs es → DpAll K H vs (es.map exD) ∧ PyData.canLayAll0 (es.map exD) = true ∧ PyData.depthAll (es.map exD) ≤ 20
  | _, _, .nil => ⟨.nil, rfl, Nat.zero_le _⟩
  | _, _, .cons h t => by
    obtain ⟨a, b, c⟩ := fit_dp t
    refine ⟨.cons h.1 a, ?_, ?_⟩
    · show ((exD _).canLay0 && PyData.canLayAll0 (_)) = true
      rw [h.2.lay, b]
      rfl
    · show max (exD _).depth (PyData.depthAll _) ≤ 20
      exact Nat.max_le.mpr ⟨h.2.dep, c⟩
theorem fit_sh {K : PySem.W.Frag} {H : Hp} {Γ : Gam} {S h0 w : Nat} {vs : List V} {es : List Ex} (h : All2 (FitR K H Γ S h0 w) vs es) : SeqAt.shaped (.list (es.map exD)) = true := by
  obtain ⟨_, b, c⟩ := fit_dp h
  show (PyData.canLayAll0 (es.map exD) && decide (PyData.depthAll (es.map exD) + 1 ≤ 64)) = true
  rw [b, decide_eq_true (by omega)]
  rfl
theorem eqv_nil (ds : List PyData) : PyData.eqv (.list ds) (.list []) = ds.isEmpty := by
  cases ds with
  | nil => rfl
  | cons x r => simp [PyData.eqv, PyData.eqvAll]
theorem ine {a b : Nat} (h : a ≠ b) : decide (V.int (a : Int) = V.int (b : Int)) = false := decide_eq_false fun e => h (by injection e with e; exact Int.ofNat.inj e)
theorem ieq {a b : Nat} (h : a = b) : decide (V.int (a : Int) = V.int (b : Int)) = true := decide_eq_true (by rw [h])
def spDE (K : PySem.W.Frag) (d : Nat) : Sp := fun vs H Q _ => ∃ (Γ : Gam) (S h0 : Nat) (p c nl : Addr) (m w : Nat) (rows : List V) (es : List (Ex × Nat)), vs = [.ref p, .int (w : Nat), .ref nl, .int (d : Nat)] ∧
  PenC H p c m ∧ m + 5 * 4 ^ d ≤ 100000000000 ∧ nl ≠ p ∧ H nl = some (.lst rows) ∧ rows.length ≤ 1000 ∧ All2 (NmR K H Γ S h0) rows es ∧ 1 ≤ S ∧ 1 ≤ w ∧ w + 3 * d ≤ 29 ∧
  ∀ (H' : Hp) (v : V) (e : Ex), PenC H' p c (m + 5 * 4 ^ d) → But p H H' → ExAt K H' v e → Wt Γ e w → exZ e ≤ S * 4 ^ d → exH e ≤ h0 + d → Q v H'
theorem ijn {a b : Int} (h : a ≠ b) : decide (V.int a = V.int b) = false := decide_eq_false fun e => h (by injection e)
theorem ijt {a b : Int} (h : a = b) : decide (V.int a = V.int b) = true := decide_eq_true (by rw [h])
theorem pow_cast (w : Nat) : ((2 ^ w : Nat) : Int) = 2 ^ w := by
  rw [Int.natCast_pow]
  rfl
theorem len3 : 3 ≤ sizeLine := by decide
theorem len4 : 4 ≤ sizeLine := by decide
theorem len5 : 5 ≤ sizeLine := by decide
section
variable {σ : L2.St} {H : Hp} {R : Bool → Hp → Prop} {i j : Nat} {a b : Int}
theorem eqi {k : Int} (hs : σ[i]? = some (some (.int a))) (ht : a = k → R true H) (hf : a ≠ k → R false H) : tTest (tOp rEq (tVar i) (tC (.int k))) σ H R := by
  refine ⟨_, hs, rfl, _, rfl, ?_⟩
  rcases Int.decEq a k with h | h
  · rw [ijn h]; exact hf h
  · rw [ijt h]; exact ht h
theorem lti {k : Int} (hs : σ[i]? = some (some (.int a))) (ht : a < k → R true H) (hf : ¬ a < k → R false H) : tTest (tOp (rI0 fun i j => V.bl (decide (i < j))) (tVar i) (tC (.int k))) σ H R := by
  refine ⟨_, hs, _, _, rfl, rfl, _, rfl, ?_⟩
  by_cases h : a < k
  · rw [decide_eq_true h]; exact ht h
  · rw [decide_eq_false h]; exact hf h
theorem gti {k : Int} (hs : σ[i]? = some (some (.int a))) (ht : k < a → R true H) (hf : ¬ k < a → R false H) : tTest (tOp (rI0 fun i j => V.bl (decide (j < i))) (tVar i) (tC (.int k))) σ H R := by
  refine ⟨_, hs, _, _, rfl, rfl, _, rfl, ?_⟩
  by_cases h : k < a
  · rw [decide_eq_true h]; exact ht h
  · rw [decide_eq_false h]; exact hf h
theorem or12 (hs : σ[i]? = some (some (.int a))) (ht : a = 12 ∨ a = 11 → R true H) (hf : ¬ (a = 12 ∨ a = 11) → R false H) : tOr (tTest (tOp rEq (tVar i) (tC (.int 12)))) (tTest (tOp rEq (tVar i) (tC (.int 11)))) σ H R :=
  eqi hs (fun h => iteT (ht (.inl h))) (fun h => iteF (eqi hs (fun h2 => ht (.inr h2)) (fun h2 => hf (fun g => g.elim h h2))))
theorem and8 (hs : σ[i]? = some (some (.int a))) (hj : σ[j]? = some (some (.int b))) (ht : a = 8 → 1 < b → R true H) (hf : ¬ (a = 8 ∧ 1 < b) → R false H) : tAnd (tTest (tOp rEq (tVar i) (tC (.int 8)))) (tTest (tOp (rI0 fun i j => V.bl (decide (j < i))) (tVar j) (tC (.int 1)))) σ H R :=
  eqi hs (fun h => iteT (gti hj (fun h2 => ht h h2) (fun h2 => hf (fun g => h2 g.2)))) (fun h => iteF (hf (fun g => h g.1)))
theorem or9 (hs : σ[i]? = some (some (.int a))) (hj : σ[j]? = some (some (.int b))) (ht : a = 9 ∨ 1 < b → R true H) (hf : ¬ (a = 9 ∨ 1 < b) → R false H) : tOr (tTest (tOp rEq (tVar i) (tC (.int 9)))) (tTest (tOp (rI0 fun i j => V.bl (decide (j < i))) (tVar j) (tC (.int 1)))) σ H R :=
  eqi hs (fun h => iteT (ht (.inl h))) (fun h => iteF (gti hj (fun h2 => ht (.inr h2)) (fun h2 => hf (fun g => g.elim h h2))))
theorem ifc {k : Int} {x y : V} {Q : VK} (hs : σ[i]? = some (some (.int a))) (h : ∀ z, z = x ∨ z = y → Q z H) : tIf (tTest (tOp (rI0 fun i j => V.bl (decide (i < j))) (tVar i) (tC (.int k)))) (tC x) (tC y) σ H Q :=
  lti hs (fun _ => iteT (h _ (.inl rfl))) (fun _ => iteF (h _ (.inr rfl)))
end
theorem kinds {z : V} {r : Int} (hz : z = V.str "times" ∨ z = V.str "plus") (r0 : 0 ≤ r) (r5 : r < 5) : ∃ k : Str, [V.str "and", V.str "or", V.str "xor", V.str "plus", z][r.toNat]? = some (V.str k) ∧ (k = "and" ∨ k = "or" ∨ k = "xor" ∨ k = "plus" ∨ k = "times") := by
  have c : r = 0 ∨ r = 1 ∨ r = 2 ∨ r = 3 ∨ r = 4 := by omega
  rcases c with rfl | rfl | rfl | rfl | rfl
  · exact ⟨"and", rfl, .inl rfl⟩
  · exact ⟨"or", rfl, .inr (.inl rfl)⟩
  · exact ⟨"xor", rfl, .inr (.inr (.inl rfl))⟩
  · exact ⟨"plus", rfl, .inr (.inr (.inr (.inl rfl)))⟩
  · rcases hz with rfl | rfl
    · exact ⟨"times", rfl, .inr (.inr (.inr (.inr rfl)))⟩
    · exact ⟨"plus", rfl, .inr (.inr (.inr (.inl rfl)))⟩
theorem two_of {a b : Str} {i : Nat} {y : V} (h : [V.str a, V.str b][i]? = some y) : ∃ k, y = V.str k ∧ (k = a ∨ k = b) := by
  match i, h with
  | 0, h => exact ⟨a, (Option.some.inj h).symm, .inl rfl⟩
  | 1, h => exact ⟨b, (Option.some.inj h).symm, .inr rfl⟩
section
variable {K : PySem.W.Frag} {H : Hp} {t : Addr}
theorem at_un {k : Str} {v1 : V} {e1 : Ex} (h : H t = some (.tup [.str k, v1])) (h1 : ExAt K H v1 e1) : ExAt K H (.ref t) (.op (.un k) [e1]) := by
  unfold ExAt exD exDs exDs
  exact .tup (SqT.of h) (.cons (.str _) (.cons h1 .nil))
theorem at_sh {k : Str} {n : Int} {v1 : V} {e1 : Ex} (h : H t = some (.tup [.str k, v1, .int n])) (h1 : ExAt K H v1 e1) : ExAt K H (.ref t) (.op (.sh k n) [e1]) := by
  unfold ExAt exD exDs exDs
  exact .tup (SqT.of h) (.cons (.str _) (.cons h1 (.cons (.int _) .nil)))
theorem at_bin {k : Str} {v1 v2 : V} {e1 e2 : Ex} (h : H t = some (.tup [.str k, v1, v2])) (h1 : ExAt K H v1 e1) (h2 : ExAt K H v2 e2) : ExAt K H (.ref t) (.op (.bin k) [e1, e2]) := by
  unfold ExAt exD exDs exDs exDs
  exact .tup (SqT.of h) (.cons (.str _) (.cons h1 (.cons h2 .nil)))
theorem at_ite {v1 v2 v3 : V} {e1 e2 e3 : Ex} (h : H t = some (.tup [.str "if", v1, v2, v3])) (h1 : ExAt K H v1 e1) (h2 : ExAt K H v2 e2) (h3 : ExAt K H v3 e3) : ExAt K H (.ref t) (.op .ite [e1, e2, e3]) := by
  unfold ExAt exD exDs exDs exDs exDs
  exact .tup (SqT.of h) (.cons (.str _) (.cons h1 (.cons h2 (.cons h3 .nil))))
theorem at_join2 {u : Addr} {v1 v2 : V} {e1 e2 : Ex} (h : H t = some (.tup [.str "join", .ref u])) (hu : H u = some (.tup [v1, v2])) (h1 : ExAt K H v1 e1) (h2 : ExAt K H v2 e2) : ExAt K H (.ref t) (.op .join [e1, e2]) := by
  unfold ExAt exD exDs exDs exDs
  exact .tup (SqT.of h) (.cons (.str _) (.cons (.tup (SqT.of hu) (.cons h1 (.cons h2 .nil))) .nil))
theorem at_slc {hi lo hj : Int} {v1 : V} {e1 : Ex} (h : H t = some (.tup [.str "slice", v1, .int hj, .int lo])) (h1 : ExAt K H v1 e1) (e : hj = hi) : ExAt K H (.ref t) (.op (.slc hi lo) [e1]) := by
  subst e
  unfold ExAt exD exDs exDs
  exact .tup (SqT.of h) (.cons (.str _) (.cons h1 (.cons (.int _) (.cons (.int _) .nil))))
end
section
variable {P : Program} {w : World} {K : PySem.W.Frag} {mg : Str → Option Value} {base : Heap} {f : Addr} {fd : FuncData}
abbrev nDE : List Str := ["_law_pen_here", "_law_width", "_law_names", "_law_deep", "_law_part", "_law_wide", "_law_fit", "_law_way", "_law_kind", "_law_one", "_law_condition", "_law_low"]
theorem scDE : FnScope nDE ["_law_pen_here", "_law_width", "_law_names", "_law_deep"] (defScope sLDrawnExpression) := ⟨rfl, rfl, rfl, by decide +kernel, rfl, by decide +kernel, by decide +kernel⟩
theorem step_de (F : FnP K "_law_drawn_expression" sLDrawnExpression f fd) (d : Nat) (spI : Sp) (hI : ∀ e, d = e + 1 → spI = spDE K e)
    {fDR fPI : Addr} {dDR dPI : FuncData}
    (GDR : FnOk P w K mg base CX0 1 fDR dDR ["_law_pen_here", "_law_many"] (spDraw)) (gDR : mg "_law_draw" = some (.ref fDR)) (kDR : PySem.W.keepIn K (.ref fDR) = true) (bDR : Binds K dDR ["_law_pen_here", "_law_many"] [])
    (GPI : FnOk P w K mg base CX0 2 fPI dPI ["_law_pen_here", "_law_some"] ((spPick K))) (gPI : mg "_law_pick" = some (.ref fPI)) (kPI : PySem.W.keepIn K (.ref fPI) = true) (bPI : Binds K dPI ["_law_pen_here", "_law_some"] [])
    {fDE : Addr} {dDE : FuncData} (GDE : FnOk P w K mg base CX0 (d + 2) fDE dDE ["_law_pen_here", "_law_width", "_law_names", "_law_deep"] spI) (gDE : mg "_law_drawn_expression" = some (.ref fDE)) (kDE : PySem.W.keepIn K (.ref fDE) = true) (bDE : Binds K dDE ["_law_pen_here", "_law_width", "_law_names", "_law_deep"] [])
    : FnOk P w K mg base CX0 (d + 2 + 1) f fd ["_law_pen_here", "_law_width", "_law_names", "_law_deep"] (spDE K d) := by
  refine F.ok scDE (fun vs H Q E h => ?_) (fun cdv A outer s H vs Q E hr h => ?_)
  · obtain ⟨Γ, S, h0, p, c, nl, m, wd, rows, es, rfl, _⟩ := h
    rfl
  · obtain ⟨Γ, S, h0, p, c, nl, m, wd, rows, es, rfl, hP, hm, np, hN, rl, aN, hS, hw, hwd, q⟩ := h
    refine ⟨_, PSs.nox (pss_cons (ps_setLc (i := 6) (own := [("_law_part", 4), ("_law_wide", 5)]) (g := _) (by rfl) scDE.nd rfl rfl (sw_true rfl rfl rfl (by decide +kernel)) (pi_list (pv 2)) (blkOk_by (N := nDE) (sc := defScope sLDrawnExpression) (by decide +kernel)) (fun _ _ _ _ _ => (Us.pg_tupK (K := K) (n := 2) rfl rfl (pgs_cons (pg_name (i := 4) scDE.nd rfl (Or.inl rfl)) (pgs_cons (pg_name (i := 5) scDE.nd rfl (Or.inl rfl)) pgs_nil)))) (fun _ _ _ _ _ => pts_one (pt_cmpR op_eq (pv 5) (pv 1) (nomark _))) (fun _ _ _ _ _ => (pv 4)))
      (C8.pss_cut (ps_set (i := 7) scDE.nd rfl (Or.inl rfl) (pe_ifExp (pt_cmpR op_gt (pv 3) pe_int (nomark _)) (pe_call GDR (hr.mono (by omega)) (by rfl) gDR kDR bDR .nil pass0 (pa_cons (pv 0) (pa_cons pe_int pa_nil))) pe_int))
      (pss_cons (ps_if (PW.pt (pw_or (pt_cmpR op_eq (pv 7) pe_int (nomark _)) (pw_or1 (pt_cmpR op_eq (pv 7) pe_int (nomark _)))))
        (pss_cons (ps_if (PW.pt (pw_and (pt_cmpR (op_neD hr.units) (pv 6) (pe_lst pa_nil) (nomark _)) (pw_and1 (pt_cmpR op_gt (pe_call GDR (hr.mono (by omega)) (by rfl) gDR kDR bDR .nil pass0 (pa_cons (pv 0) (pa_cons pe_int pa_nil))) pe_int (nomark _)))))
          (pss_one (ps_ret (pe_call GPI (hr.mono (by omega)) (by rfl) gPI kPI bPI .nil pass0 (pa_cons (pv 0) (pa_cons (pv 6) pa_nil)))))
          pss_nil)
        (pss_one (ps_ret (pe_tup (pa_cons pe_str (pa_cons (pv 1) (pa_cons (pe_call GDR (hr.mono (by omega)) (by rfl) gDR kDR bDR .nil pass0 (pa_cons (pv 0) (pa_cons (pe_op op_oneShl pe_int (pv 1)) pa_nil))) pa_nil)))))))
        pss_nil)
      (pss_cons (ps_if (pt_cmpR op_lt (pv 7) pe_int (nomark _))
        (pss_cons (ps_set (i := 8) scDE.nd rfl (Or.inl rfl) (pe_ix ix_list (pe_lst (pa_cons pe_str (pa_cons pe_str (pa_cons pe_str (pa_cons pe_str (pa_cons (pe_ifExp (pt_cmpR op_lt (pv 1) pe_int (nomark _)) pe_str pe_str) pa_nil)))))) (pv 7) (fun _ _ => rfl)))
        (pss_cons (ps_set (i := 9) scDE.nd rfl (Or.inl rfl) (pe_call GDE (hr.mono (by omega)) (by rfl) gDE kDE bDE .nil pass0 (pa_cons (pv 0) (pa_cons (pv 1) (pa_cons (pv 2) (pa_cons (pe_op op_sub (pv 3) pe_int) pa_nil))))))
        (pss_one (ps_ret (pe_tup (pa_cons (pv 8) (pa_cons (pv 9) (pa_cons (pe_call GDE (hr.mono (by omega)) (by rfl) gDE kDE bDE .nil pass0 (pa_cons (pv 0) (pa_cons (pv 1) (pa_cons (pv 2) (pa_cons (pe_op op_sub (pv 3) pe_int) pa_nil))))) pa_nil))))))))
        pss_nil)
      (pss_cons (ps_if (pt_cmpR op_eq (pv 7) pe_int (nomark _))
        (pss_one (ps_ret (pe_tup (pa_cons (pe_call GPI (hr.mono (by omega)) (by rfl) gPI kPI bPI .nil pass0 (pa_cons (pv 0) (pa_cons (pe_lst (pa_cons pe_str (pa_cons pe_str pa_nil))) pa_nil))) (pa_cons (pe_call GDE (hr.mono (by omega)) (by rfl) gDE kDE bDE .nil pass0 (pa_cons (pv 0) (pa_cons (pv 1) (pa_cons (pv 2) (pa_cons (pe_op op_sub (pv 3) pe_int) pa_nil))))) pa_nil)))))
        pss_nil)
      (pss_cons (ps_if (pt_cmpR op_eq (pv 7) pe_int (nomark _))
        (pss_cons (ps_set (i := 9) scDE.nd rfl (Or.inl rfl) (pe_call GDE (hr.mono (by omega)) (by rfl) gDE kDE bDE .nil pass0 (pa_cons (pv 0) (pa_cons (pv 1) (pa_cons (pv 2) (pa_cons (pe_op op_sub (pv 3) pe_int) pa_nil))))))
        (pss_one (ps_ret (pe_tup (pa_cons (pe_call GPI (hr.mono (by omega)) (by rfl) gPI kPI bPI .nil pass0 (pa_cons (pv 0) (pa_cons (pe_lst (pa_cons pe_str (pa_cons pe_str pa_nil))) pa_nil))) (pa_cons (pv 9) (pa_cons (pe_call GDR (hr.mono (by omega)) (by rfl) gDR kDR bDR .nil pass0 (pa_cons (pv 0) (pa_cons (pe_op op_add (pv 1) pe_int) pa_nil))) pa_nil)))))))
        pss_nil)
      (pss_cons (ps_if (pt_cmpR op_eq (pv 7) pe_int (nomark _))
        (pss_cons (ps_set (i := 10) scDE.nd rfl (Or.inl rfl) (pe_call GDE (hr.mono (by omega)) (by rfl) gDE kDE bDE .nil pass0 (pa_cons (pv 0) (pa_cons pe_int (pa_cons (pv 2) (pa_cons (pe_op op_sub (pv 3) pe_int) pa_nil))))))
        (pss_cons (ps_set (i := 9) scDE.nd rfl (Or.inl rfl) (pe_call GDE (hr.mono (by omega)) (by rfl) gDE kDE bDE .nil pass0 (pa_cons (pv 0) (pa_cons (pv 1) (pa_cons (pv 2) (pa_cons (pe_op op_sub (pv 3) pe_int) pa_nil))))))
        (pss_one (ps_ret (pe_tup (pa_cons pe_str (pa_cons (pv 10) (pa_cons (pv 9) (pa_cons (pe_call GDE (hr.mono (by omega)) (by rfl) gDE kDE bDE .nil pass0 (pa_cons (pv 0) (pa_cons (pv 1) (pa_cons (pv 2) (pa_cons (pe_op op_sub (pv 3) pe_int) pa_nil))))) pa_nil)))))))))
        pss_nil)
      (pss_cons (ps_if (PW.pt (pw_and (pt_cmpR op_eq (pv 7) pe_int (nomark _)) (pw_and1 (pt_cmpR op_gt (pv 1) pe_int (nomark _)))))
        (pss_cons (ps_set (i := 11) scDE.nd rfl (Or.inl rfl) (pe_op op_add pe_int (pe_call GDR (hr.mono (by omega)) (by rfl) gDR kDR bDR .nil pass0 (pa_cons (pv 0) (pa_cons (pe_op op_sub (pv 1) pe_int) pa_nil)))))
        (pss_cons (ps_set (i := 9) scDE.nd rfl (Or.inl rfl) (pe_call GDE (hr.mono (by omega)) (by rfl) gDE kDE bDE .nil pass0 (pa_cons (pv 0) (pa_cons (pe_op op_sub (pv 1) (pv 11)) (pa_cons (pv 2) (pa_cons (pe_op op_sub (pv 3) pe_int) pa_nil))))))
        (pss_one (ps_ret (pe_tup (pa_cons pe_str (pa_cons (pe_tup (pa_cons (pv 9) (pa_cons (pe_call GDE (hr.mono (by omega)) (by rfl) gDE kDE bDE .nil pass0 (pa_cons (pv 0) (pa_cons (pv 11) (pa_cons (pv 2) (pa_cons (pe_op op_sub (pv 3) pe_int) pa_nil))))) pa_nil))) pa_nil)))))))
        pss_nil)
      (pss_cons (ps_if (PW.pt (pw_or (pt_cmpR op_eq (pv 7) pe_int (nomark _)) (pw_or1 (pt_cmpR op_gt (pv 1) pe_int (nomark _)))))
        (pss_cons (ps_set (i := 11) scDE.nd rfl (Or.inl rfl) (pe_call GDR (hr.mono (by omega)) (by rfl) gDR kDR bDR .nil pass0 (pa_cons (pv 0) (pa_cons pe_int pa_nil))))
        (pss_cons (ps_set (i := 5) scDE.nd rfl (Or.inl rfl) (pe_op op_add (pe_op op_add (pv 1) (pv 11)) (pe_call GDR (hr.mono (by omega)) (by rfl) gDR kDR bDR .nil pass0 (pa_cons (pv 0) (pa_cons pe_int pa_nil)))))
        (pss_one (ps_ret (pe_tup (pa_cons pe_str (pa_cons (pe_call GDE (hr.mono (by omega)) (by rfl) gDE kDE bDE .nil pass0 (pa_cons (pv 0) (pa_cons (pv 5) (pa_cons (pv 2) (pa_cons (pe_op op_sub (pv 3) pe_int) pa_nil))))) (pa_cons (pe_op op_sub (pe_op op_add (pv 1) (pv 11)) pe_int) (pa_cons (pv 11) pa_nil)))))))))
        pss_nil)
      (pss_cons (ps_set (i := 5) scDE.nd rfl (Or.inl rfl) (pe_op op_add pe_int (pe_call GDR (hr.mono (by omega)) (by rfl) gDR kDR bDR .nil pass0 (pa_cons (pv 0) (pa_cons pe_int pa_nil)))))
      (pss_cons (ps_set (i := 9) scDE.nd rfl (Or.inl rfl) (pe_call GDE (hr.mono (by omega)) (by rfl) gDE kDE bDE .nil pass0 (pa_cons (pv 0) (pa_cons (pv 5) (pa_cons (pv 2) (pa_cons (pe_op op_sub (pv 3) pe_int) pa_nil))))))
      (pss_one (ps_ret (pe_tup (pa_cons (pe_call GPI (hr.mono (by omega)) (by rfl) gPI kPI bPI .nil pass0 (pa_cons (pv 0) (pa_cons (pe_lst (pa_cons pe_str (pa_cons pe_str pa_nil))) pa_nil))) (pa_cons (pv 9) (pa_cons (pe_call GDE (hr.mono (by omega)) (by rfl) gDE kDE bDE .nil pass0 (pa_cons (pv 0) (pa_cons (pv 5) (pa_cons (pv 2) (pa_cons (pe_op op_sub (pv 3) pe_int) pa_nil))))) pa_nil))))))))))))))))), ?_⟩
    have T0 : 1 ≤ 4 ^ d := Nat.pow_pos (by decide)
    refine ⟨_, rfl, nl, rfl, ⟨_, SqL.of hN⟩, fun D nD => ?_⟩
    obtain ⟨Dp, Dc⟩ := hP.free nD
    have sD := same_new (u := .lst []) nD
    refine lc_list (K := K) (a := nl) (xs := rows) (fun i H' => Same H H' ∧ ∃ (xs : List V) (fs : List Ex), H' D = some (.lst xs) ∧ xs.length ≤ i ∧ All2 (FitR K H' Γ S h0 wd) xs fs) ⟨sD, [], [], upd_same, Nat.le_refl _, .nil⟩ (fun i H' _ ⟨s, _⟩ => SqL.of (s _ _ hN)) ?_ ?_
    · rintro i y H1 hy ⟨s1, xs, fs, h1, l1, a1⟩
      obtain ⟨⟨e, u⟩, he, t, ev, rfl, ht, hev, ne⟩ := aN.get hy
      have ht1 := seqT_same s1 ht
      have hev1 := hev.firm (Firm.of s1)
      refine ⟨t, _, rfl, ht1, rfl, _, _, rfl, _, _, rfl, rfl, rfl, _, rfl, _, rfl, rfl, _, rfl, ?_⟩
      rcases Nat.decEq u wd with c0 | c0
      · exact goF (ine c0) ⟨s1, xs, fs, h1, by omega, a1⟩
      · subst c0
        refine goT (ieq rfl) ⟨_, rfl, xs, h1, Nat.lt_of_lt_of_le (by have := (List.getElem?_eq_some_iff.mp hy).1; omega : xs.length < 1000) (by decide), fun b o e => ?_, xs ++ [ev], fs ++ [e], upd_same, by rw [List.length_append]; exact Nat.add_le_add_right l1 1, ?_⟩
        · rw [upd_ne (ne_of_none e nD)]
          exact s1 _ _ e
        · have f1 := Firm.upd (o := .lst (xs ++ [ev])) h1 rfl
          exact (a1.imp fun v e h => ⟨h.1.firm f1, h.2⟩).snoc ⟨hev1.firm f1, ne⟩
    rintro H1 ⟨s1, xs, fs, h1, l1, a1⟩
    refine ⟨fun σ H' => ∃ (r : Int), σ = [some (.ref p), some (.int (wd : Nat)), some (.ref nl), some (.int (d : Nat)), none, none, some (.ref D), some (.int r), none, none, none, none] ∧ PenC H' p c (m + 1) ∧ But p H1 H' ∧ 0 ≤ r ∧ r < 13 ∧ (d = 0 → r = 12), ?_, ?_⟩
    · refine ⟨_, rfl, _, _, rfl, rfl, _, rfl, ?_⟩
      rcases Nat.eq_zero_or_pos d with d0 | d0
      · exact goF (decide_eq_false (by omega)) ⟨12, rfl, (hP.same s1).more (by omega), But.refl, by decide, by decide, fun _ => rfl⟩
      · exact goT (decide_eq_true (by omega)) ⟨_, rfl, p, c, m, 13, rfl, hP.same s1, by omega, by decide, by decide, fun r H2 r0 r1 P2 B2 => ⟨r, rfl, P2, B2, r0, r1, fun h => by omega⟩⟩
    rintro σ H2 ⟨r, rfl, P2, B2, r0, r1, rd⟩
    have hN2 := B2 _ _ (s1 _ _ hN) np
    have hD2 := B2 _ _ h1 Dp
    have f12 := Firm.pen B2 (hP.same s1)
    have f02 := (Firm.of s1).trans f12
    have a2 : All2 (FitR K H2 Γ S h0 wd) xs fs := a1.imp fun v e h => ⟨h.1.firm f12, h.2⟩
    have aN2 : All2 (NmR K H2 Γ S h0) rows es := aN.imp fun v e h => h.firm f02
    have B02 : But p H H2 := (But.of_same s1).trans B2
    have xl : xs.length ≤ 1000 := by omega
    clear a1 aN h1 hN s1 B2 f12 f02 nD sD l1
    have pw0 : (0 : Int) < 2 ^ wd := Int.pow_pos (by decide)
    have pw1 : (2 : Int) ^ wd < 1073741824 := by
      rw [← pow_cast]
      have : 2 ^ wd ≤ 2 ^ 29 := Nat.pow_le_pow_right (by decide) (by omega)
      have h2 : (2 : Nat) ^ 29 = 536870912 := by decide
      omega
    refine or12 (i := 7) rfl (fun c0 => iteT ?_) (fun c0 => iteF ?_)
    · clear hI
      refine ⟨_, rfl, len0, fun L nL => ?_⟩
      have sL := same_new (u := .lst []) nL
      have aL : All2 (FitR K (upd H2 L (.lst [])) Γ S h0 wd) xs fs := a2.imp fun v e h => ⟨h.1.firm (Firm.of sL), h.2⟩
      obtain ⟨dpL, _, _⟩ := fit_dp aL
      have hD3 := sL _ _ hD2
      have P3 := P2.same sL
      refine ⟨_, _, .lst (SqL.of hD3) dpL, .lst (SqL.of upd_same) .nil, fit_sh aL, by decide +kernel, _, rfl, ?_⟩
      rw [eqv_nil]
      generalize upd H2 L _ = H3 at sL aL dpL hD3 P3 ⊢
      have B3 : But p H H3 := B02.trans (But.of_same sL)
      rcases List.eq_nil_or_concat fs with fe | fe
      · rw [fe]
        refine goF rfl (iteF ?_)
        refine ⟨_, rfl, _, rfl, _, rfl, wd, rfl, rfl, by omega, p, c, m + 1, _, rfl, P3, by omega, pw0, pw1, fun x H5 x0 x1 P5 B5 => ⟨len3, fun t nt => ?_⟩⟩
        obtain ⟨n, rfl⟩ := Int.eq_ofNat_of_zero_le x0
        have st := same_new (u := .tup [.str "number", .int (wd : Nat), .int (n : Nat)]) nt
        refine q _ _ (.lf (.num (wd : Nat) (n : Nat))) ((P5.same st).more (by omega)) (B3.trans (B5.trans (But.of_same st))) (.tup (SqT.of upd_same) (.cons (.str _) (.cons (.int _) (.cons (.int _) .nil)))) (.num wd n hw (by omega) (by rw [← pow_cast] at x1; exact Int.ofNat_lt.mp x1)) ?_ ?_
        · rw [exZ_lf]
          exact Nat.mul_pos hS T0
        · rw [exH_lf]
          exact Nat.zero_le _
      · have fpos : 0 < fs.length := by
          obtain ⟨a, b, rfl⟩ := fe
          rw [List.concat_eq_append, List.length_append]
          exact Nat.succ_pos _
        have xpos : 0 < xs.length := by rw [aL.len]; exact fpos
        have fb : (!(List.map exD fs).isEmpty) = true := by
          cases fs with
          | nil => cases fpos
          | cons a b => rfl
        refine goT fb ⟨_, rfl, p, c, m + 1, 5, rfl, P3, by omega, by decide, by decide, fun r2 H4 r20 r21 P4 B4 => ⟨_, _, rfl, rfl, _, rfl, ?_⟩⟩
        have hD4 := B4 _ _ hD3 Dp
        have f4 := Firm.pen B4 P3
        have B04 := B3.trans B4
        refine ite2 (fun _ => ?_) (fun _ => ?_)
        · refine ⟨_, rfl, _, rfl, p, c, D, m + 1 + 1, xs, rfl, P4, by omega, Dp, SqL.of hD4, xpos, xl, fun v i H5 hv P5 B5 => ?_⟩
          obtain ⟨e, he, hx⟩ := aL.get hv
          have f5 := f4.trans (Firm.pen B5 P4)
          refine q _ _ e (P5.more (by omega)) (B04.trans B5) (hx.1.firm f5) hx.2.wt (Nat.le_trans hx.2.z ?_) (Nat.le_trans hx.2.h (Nat.le_add_right _ _))
          exact Nat.le_mul_of_pos_right S T0
        · refine ⟨_, rfl, _, rfl, _, rfl, wd, rfl, rfl, by omega, p, c, m + 1 + 1, _, rfl, P4, by omega, pw0, pw1, fun x H5 x0 x1 P5 B5 => ⟨len3, fun t nt => ?_⟩⟩
          obtain ⟨n, rfl⟩ := Int.eq_ofNat_of_zero_le x0
          have st := same_new (u := .tup [.str "number", .int (wd : Nat), .int (n : Nat)]) nt
          refine q _ _ (.lf (.num (wd : Nat) (n : Nat))) ((P5.same st).more (by omega)) (B04.trans (B5.trans (But.of_same st))) (.tup (SqT.of upd_same) (.cons (.str _) (.cons (.int _) (.cons (.int _) .nil)))) (.num wd n hw (by omega) (by rw [← pow_cast] at x1; exact Int.ofNat_lt.mp x1)) ?_ ?_
          · rw [exZ_lf]
            exact Nat.mul_pos hS T0
          · rw [exH_lf]
            exact Nat.zero_le _
    obtain ⟨e, rfl⟩ : ∃ e, d = e + 1 := ⟨d - 1, by
      have : d ≠ 0 := fun h => c0 (.inl (rd h))
      omega⟩
    have hI := hI e rfl
    subst hI
    have T1 : 4 ^ (e + 1) = 4 ^ e * 4 := Nat.pow_succ ..
    have S1 : S * 4 ^ (e + 1) = S * 4 ^ e * 4 := by rw [T1, Nat.mul_assoc]
    have T2 : 1 ≤ 4 ^ e := Nat.pow_pos (by decide)
    have S2 : 1 ≤ S * 4 ^ e := Nat.mul_pos hS T2
    rw [S1] at q
    have rc : ∀ (H1 : Hp) (m1 w1 : Nat) (wi di : Int) (Q1 : VK), wi = (w1 : Nat) → di = (e : Nat) → PenC H1 p c m1 → But p H2 H1 → m1 + 5 * 4 ^ e ≤ 100000000000 → 1 ≤ w1 → w1 + 3 * e ≤ 29 → (∀ H' v ex, PenC H' p c (m1 + 5 * 4 ^ e) → But p H1 H' → ExAt K H' v ex → Wt Γ ex w1 → exZ ex ≤ S * 4 ^ e → exH ex ≤ h0 + e → Q1 v H') → spDE K e [.ref p, .int wi, .ref nl, .int di] H1 Q1 E0 := by
      rintro H1 m1 w1 _ _ Q1 rfl rfl P1 B1 hm1 hw1 hw2 q1
      have f := Firm.pen B1 P2
      exact ⟨Γ, S, h0, p, c, nl, m1, w1, rows, es, rfl, P1, hm1, np, B1 _ _ hN2 np, rl, aN2.imp (fun v r h => h.firm f), hS, hw1, hw2, q1⟩
    clear aN2 hN2 hD2 a2 xl
    refine lti (i := 7) rfl (fun c1 => iteT ?_) (fun c1 => iteF ?_)
    · refine ifc (i := 1) rfl fun z hz => ⟨len5, fun L nL => ?_⟩
      have sL := same_new (u := .lst [.str "and", .str "or", .str "xor", .str "plus", z]) nL
      obtain ⟨k, hk, ok⟩ := kinds hz r0 c1
      have P3 := P2.same sL
      have B3 : But p H2 _ := But.of_same sL
      refine ⟨_, rfl, L, _, r, _, rfl, rfl, SqL.of upd_same, at_of (j := r.toNat) (by omega) hk, ?_⟩
      generalize upd H2 L _ = H3 at sL P3 B3 ⊢
      refine ⟨_, rfl, _, rfl, _, rfl, _, rfl, _, _, rfl, rfl, rc H3 (m + 1) wd _ _ _ rfl (by omega) P3 B3 (by omega) (by omega) (by omega) fun H4 v4 e4 P4 B4 x4 w4 z4 g4 => ?_⟩
      refine ⟨_, rfl, _, rfl, _, rfl, _, rfl, _, rfl, _, rfl, _, _, rfl, rfl, rc H4 (m + 1 + 5 * 4 ^ e) wd _ _ _ rfl (by omega) P4 (B3.trans B4) (by omega) (by omega) (by omega) fun H5 v5 e5 P5 B5 x5 w5 z5 g5 => ⟨len3, fun t nt => ?_⟩⟩
      have st := same_new (u := .tup [.str k, v4, v5]) nt
      have f5 := Firm.pen B5 P4
      have hb : Wt Γ (.op (.bin k) [e4, e5]) wd := .bin k e4 e5 wd ok (by omega) w4 w5
      refine q _ _ _ ((P5.same st).more (by omega)) (B02.trans (B3.trans (B4.trans (B5.trans (But.of_same st))))) (at_bin upd_same ((x4.firm f5).firm (Firm.of st)) (x5.firm (Firm.of st))) hb ?_ ?_
      · rw [exZ_op, exZs_cons, exZs_cons, exZs_nil]
        omega
      · rw [exH_op, exHs_cons, exHs_cons, exHs_nil]
        omega
    refine eqi (i := 7) rfl (fun c2 => iteT ?_) (fun c2 => iteF ?_)
    · refine ⟨_, rfl, len2, fun L nL => ?_⟩
      have sL := same_new (u := .lst [.str "not", .str "minus"]) nL
      refine ⟨p, c, L, m + 1, _, rfl, P2.same sL, by omega, (P2.free nL).1, SqL.of upd_same, (by show 0 < 2; decide), (by show 2 ≤ 1000; decide), fun y i H4 hy P4 B4 => ?_⟩
      obtain ⟨k, rfl, ok⟩ := two_of hy
      have B3 : But p H2 H4 := (But.of_same sL).trans B4
      refine ⟨_, rfl, _, rfl, _, rfl, _, rfl, _, _, rfl, rfl, rc H4 (m + 1 + 1) wd _ _ _ rfl (by omega) P4 B3 (by omega) (by omega) (by omega) fun H5 v5 e5 P5 B5 x5 w5 z5 g5 => ⟨len2, fun t nt => ?_⟩⟩
      have st := same_new (u := .tup [.str k, v5]) nt
      have hb : Wt Γ (.op (.un k) [e5]) wd := .un k e5 wd ok (by omega) w5
      refine q _ _ _ ((P5.same st).more (by omega)) (B02.trans (B3.trans (B5.trans (But.of_same st)))) (at_un upd_same (x5.firm (Firm.of st))) hb ?_ ?_
      · rw [exZ_op, exZs_cons, exZs_nil]
        omega
      · rw [exH_op, exHs_cons, exHs_nil]
        omega
    refine eqi (i := 7) rfl (fun c3 => iteT ?_) (fun c3 => iteF ?_)
    · refine ⟨_, rfl, _, rfl, _, rfl, _, rfl, _, _, rfl, rfl, rc H2 (m + 1) wd _ _ _ rfl (by omega) P2 But.refl (by omega) (by omega) (by omega) fun H4 v4 e4 P4 B4 x4 w4 z4 g4 => ⟨_, rfl, len2, fun L nL => ?_⟩⟩
      have sL := same_new (u := .lst [.str "left", .str "right"]) nL
      refine ⟨p, c, L, m + 1 + 5 * 4 ^ e, _, rfl, P4.same sL, by omega, (P4.free nL).1, SqL.of upd_same, (by show 0 < 2; decide), (by show 2 ≤ 1000; decide), fun y i H5 hy P5 B5 => ?_⟩
      obtain ⟨k, rfl, ok⟩ := two_of hy
      refine ⟨_, rfl, _, rfl, _, rfl, _, _, rfl, rfl, p, c, m + 1 + 5 * 4 ^ e + 1, _, rfl, P5, by omega, by omega, by omega, fun x H6 hx0 hx1 P6 B6 => ⟨len3, fun t nt => ?_⟩⟩
      obtain ⟨n, rfl⟩ := Int.eq_ofNat_of_zero_le hx0
      have st := same_new (u := .tup [.str k, v4, .int (n : Nat)]) nt
      have f4 := ((Firm.of sL).trans (Firm.pen B5 (P4.same sL))).trans ((Firm.pen B6 P5).trans (Firm.of st))
      have hb : Wt Γ (.op (.sh k n) [e4]) wd := .sh k n e4 wd ok (by omega) (by omega) w4
      refine q _ _ _ ((P6.same st).more (by omega)) (B02.trans (B4.trans ((But.of_same sL).trans (B5.trans (B6.trans (But.of_same st)))))) (at_sh upd_same (x4.firm f4)) hb ?_ ?_
      · rw [exZ_op, exZs_cons, exZs_nil]
        omega
      · rw [exH_op, exHs_cons, exHs_nil]
        omega
    refine eqi (i := 7) rfl (fun c4 => iteT ?_) (fun c4 => iteF ?_)
    · refine ⟨_, rfl, _, rfl, _, rfl, _, _, rfl, rfl, rc H2 (m + 1) 1 _ _ _ rfl (by omega) P2 But.refl (by omega) (by omega) (by omega) fun H4 v4 e4 P4 B4 x4 w4 z4 g4 => ?_⟩
      refine ⟨_, rfl, _, rfl, _, rfl, _, rfl, _, _, rfl, rfl, rc H4 (m + 1 + 5 * 4 ^ e) wd _ _ _ rfl (by omega) P4 B4 (by omega) (by omega) (by omega) fun H5 v5 e5 P5 B5 x5 w5 z5 g5 => ?_⟩
      refine ⟨_, rfl, _, rfl, _, rfl, _, rfl, _, rfl, _, rfl, _, _, rfl, rfl, rc H5 (m + 1 + 5 * 4 ^ e + 5 * 4 ^ e) wd _ _ _ rfl (by omega) P5 (B4.trans B5) (by omega) (by omega) (by omega) fun H6 v6 e6 P6 B6 x6 w6 z6 g6 => ⟨len4, fun t nt => ?_⟩⟩
      have st := same_new (u := .tup [.str "if", v4, v5, v6]) nt
      have f6 := (Firm.pen B6 P5).trans (Firm.of st)
      have f5 := (Firm.pen B5 P4).trans f6
      have hb : Wt Γ (.op .ite [e4, e5, e6]) wd := .ite e4 e5 e6 wd (by omega) w4 w5 w6
      refine q _ _ _ ((P6.same st).more (by omega)) (B02.trans (B4.trans (B5.trans (B6.trans (But.of_same st))))) (at_ite upd_same (x4.firm f5) (x5.firm f6) (x6.firm (Firm.of st))) hb ?_ ?_
      · rw [exZ_op, exZs_cons, exZs_cons, exZs_cons, exZs_nil]
        omega
      · rw [exH_op, exHs_cons, exHs_cons, exHs_cons, exHs_nil]
        omega
    refine and8 (i := 7) (j := 1) rfl rfl (fun c5 c6 => iteT ?_) (fun c5 => iteF ?_)
    · refine ⟨_, rfl, _, rfl, _, _, rfl, rfl, p, c, m + 1, _, rfl, P2, by omega, by omega, by omega, fun x H3 hx0 hx1 P3 B3 => ⟨_, _, rfl, rfl, ?_⟩⟩
      obtain ⟨n, rfl⟩ := Int.eq_ofNat_of_zero_le hx0
      refine ⟨_, rfl, _, rfl, _, rfl, _, _, rfl, rfl, _, rfl, _, rfl, _, _, rfl, rfl, rc H3 (m + 1 + 1) (wd - (1 + n)) _ _ _ (by omega) (by omega) P3 B3 (by omega) (by omega) (by omega) fun H4 v4 e4 P4 B4 x4 w4 z4 g4 => ?_⟩
      refine ⟨_, rfl, _, rfl, _, rfl, _, rfl, _, rfl, _, _, rfl, rfl, rc H4 (m + 1 + 1 + 5 * 4 ^ e) (1 + n) _ _ _ (by omega) (by omega) P4 (B3.trans B4) (by omega) (by omega) (by omega) fun H5 v5 e5 P5 B5 x5 w5 z5 g5 => ⟨len2, fun u nu => ⟨len2, fun t nt => ?_⟩⟩⟩
      have su := same_new (u := .tup [v4, v5]) nu
      have hu := upd_same (H := H5) (a := u) (o := .tup [v4, v5])
      generalize upd H5 u _ = H6 at su hu nt ⊢
      have st := same_new (u := .tup [.str "join", .ref u]) nt
      have fs5 := (Firm.of su).trans (Firm.of st)
      have f5 := (Firm.pen B5 P4).trans fs5
      have hb : Wt Γ (.op .join [e4, e5]) wd := by
        have := Wt.join [e4, e5] [wd - (1 + n), 1 + n] (.cons _ _ _ _ w4 (.cons _ _ _ _ w5 .nil)) (by show wd - (1 + n) + (1 + n + 0) ≤ 4096; omega)
        rw [show [wd - (1 + n), 1 + n].sum = wd by show wd - (1 + n) + (1 + n + 0) = wd; omega] at this
        exact this
      refine q _ _ _ ((P5.same (su.trans st)).more (by omega)) (B02.trans (B3.trans (B4.trans (B5.trans (But.of_same (su.trans st)))))) (at_join2 upd_same (st _ _ hu) (x4.firm f5) (x5.firm fs5)) hb ?_ ?_
      · rw [exZ_op, exZs_cons, exZs_cons, exZs_nil]
        omega
      · rw [exH_op, exHs_cons, exHs_cons, exHs_nil]
        omega
    refine or9 (i := 7) (j := 1) rfl rfl (fun _ => iteT ?_) (fun c7 => iteF ?_)
    · refine ⟨_, rfl, p, c, m + 1, 3, rfl, P2, by omega, by decide, by decide, fun x H3 hx0 hx1 P3 B3 => ?_⟩
      obtain ⟨n, rfl⟩ := Int.eq_ofNat_of_zero_le hx0
      refine ⟨_, rfl, _, rfl, _, _, rfl, rfl, _, rfl, p, c, m + 1 + 1, 2, rfl, P3, by omega, by decide, by decide, fun y H4 hy0 hy1 P4 B4 => ⟨_, _, rfl, rfl, ?_⟩⟩
      obtain ⟨n2, rfl⟩ := Int.eq_ofNat_of_zero_le hy0
      refine ⟨_, rfl, _, rfl, _, rfl, _, rfl, _, _, rfl, rfl, rc H4 (m + 1 + 1 + 1) (wd + n + n2) _ _ _ (by omega) (by omega) P4 (B3.trans B4) (by omega) (by omega) (by omega) fun H5 v5 e5 P5 B5 x5 w5 z5 g5 => ?_⟩
      refine ⟨_, rfl, _, rfl, _, _, rfl, rfl, _, _, rfl, rfl, _, rfl, len4, fun t nt => ?_⟩
      have st := same_new (u := .tup [.str "slice", v5, .int ((wd : Int) + (n : Int) - 1), .int (n : Nat)]) nt
      have hb : Wt Γ (.op (.slc ((wd + n - 1 : Nat) : Int) (n : Nat)) [e5]) wd := by
        have := Wt.slc (Γ := Γ) (wd + n - 1) n e5 (wd + n + n2) (by omega) (by omega) (by omega) w5
        rw [show wd + n - 1 - n + 1 = wd by omega] at this
        exact this
      refine q _ _ _ ((P5.same st).more (by omega)) (B02.trans (B3.trans (B4.trans (B5.trans (But.of_same st))))) (at_slc upd_same (x5.firm (Firm.of st)) (by omega)) hb ?_ ?_
      · rw [exZ_op, exZs_cons, exZs_nil]
        omega
      · rw [exH_op, exHs_cons, exHs_nil]
        omega
    refine ⟨_, rfl, p, c, m + 1, 3, rfl, P2, by omega, by decide, by decide, fun x H3 hx0 hx1 P3 B3 => ⟨_, _, rfl, rfl, ?_⟩⟩
    obtain ⟨n, rfl⟩ := Int.eq_ofNat_of_zero_le hx0
    refine ⟨_, rfl, _, rfl, _, rfl, _, rfl, _, _, rfl, rfl, rc H3 (m + 1 + 1) (1 + n) _ _ _ (by omega) (by omega) P3 B3 (by omega) (by omega) (by omega) fun H4 v4 e4 P4 B4 x4 w4 z4 g4 => ⟨_, rfl, len2, fun L nL => ?_⟩⟩
    have sL := same_new (u := .lst [.str "equal", .str "below"]) nL
    refine ⟨p, c, L, m + 1 + 1 + 5 * 4 ^ e, _, rfl, P4.same sL, by omega, (P4.free nL).1, SqL.of upd_same, (by show 0 < 2; decide), (by show 2 ≤ 1000; decide), fun y i H5 hy P5 B5 => ?_⟩
    obtain ⟨k, rfl, ok⟩ := two_of hy
    have B45 := (But.of_same (p := p) sL).trans B5
    refine ⟨_, rfl, _, rfl, _, rfl, _, rfl, _, rfl, _, _, rfl, rfl, rc H5 (m + 1 + 1 + 5 * 4 ^ e + 1) (1 + n) _ _ _ (by omega) (by omega) P5 (B3.trans (B4.trans B45)) (by omega) (by omega) (by omega) fun H6 v6 e6 P6 B6 x6 w6 z6 g6 => ⟨len3, fun t nt => ?_⟩⟩
    have st := same_new (u := .tup [.str k, v4, v6]) nt
    have f4 := ((Firm.of sL).trans (Firm.pen B5 (P4.same sL))).trans ((Firm.pen B6 P5).trans (Firm.of st))
    have w1 : wd = 1 := by omega
    subst w1
    have hb : Wt Γ (.op (.bin k) [e4, e6]) 1 := .cmp k e4 e6 (1 + n) ok (by omega) w4 w6
    refine q _ _ _ ((P6.same st).more (by omega)) (B02.trans (B3.trans (B4.trans (B45.trans (B6.trans (But.of_same st)))))) (at_bin upd_same (x4.firm f4) (x6.firm (Firm.of st))) hb ?_ ?_
    · rw [exZ_op, exZs_cons, exZs_cons, exZs_nil]
      omega
    · rw [exH_op, exHs_cons, exHs_cons, exHs_nil]
      omega
theorem ok_de (F : FnP K "_law_drawn_expression" sLDrawnExpression f fd)
    {fDR fPI : Addr} {dDR dPI : FuncData}
    (GDR : FnOk P w K mg base CX0 1 fDR dDR ["_law_pen_here", "_law_many"] (spDraw)) (gDR : mg "_law_draw" = some (.ref fDR)) (kDR : PySem.W.keepIn K (.ref fDR) = true) (bDR : Binds K dDR ["_law_pen_here", "_law_many"] [])
    (GPI : FnOk P w K mg base CX0 2 fPI dPI ["_law_pen_here", "_law_some"] ((spPick K))) (gPI : mg "_law_pick" = some (.ref fPI)) (kPI : PySem.W.keepIn K (.ref fPI) = true) (bPI : Binds K dPI ["_law_pen_here", "_law_some"] [])
    (gDE : mg "_law_drawn_expression" = some (.ref f)) (kDE : PySem.W.keepIn K (.ref f) = true) (bDE : Binds K fd ["_law_pen_here", "_law_width", "_law_names", "_law_deep"] [])
    : ∀ d : Nat, FnOk P w K mg base CX0 (d + 2 + 1) f fd ["_law_pen_here", "_law_width", "_law_names", "_law_deep"] (spDE K d)
  | 0 => step_de F 0 (fun _ _ _ _ => False) (fun e h => by cases h) GDR gDR kDR bDR GPI gPI kPI bPI (F.ok (k := 1) scDE (fun _ _ _ _ (z : False) => z.elim) (fun _ _ _ _ _ _ _ _ _ (z : False) => z.elim)) gDE kDE bDE
  | d + 1 => step_de F (d + 1) (spDE K d) (fun e he => by injection he with he; rw [he]) GDR gDR kDR bDR GPI gPI kPI bPI (ok_de F GDR gDR kDR bDR GPI gPI kPI bPI gDE kDE bDE d) gDE kDE bDE
end
end Ev
namespace Zp3
open PySem PySem.Spec PyProof.Rows L2 Zp
/-! ## zip of three rows, each a list or a tuple -/
/-- the rows at a, b and c as they stand at each turn, their items in new triples -/
def Izb3 (K : PySem.W.Frag) (t u v : Bool) (a b c : Addr) : It :=
  ⟨fun i H => ∃ (xs ys zs : List V) (x y z : V), SqB K t H a xs ∧ SqB K u H b ys ∧ SqB K v H c zs ∧ xs[i]? = some x ∧ ys[i]? = some y ∧ zs[i]? = some z,
   fun i H w H' => ∃ q x y z, w = .ref q ∧ H q = none ∧ H' = upd H q (.tup [x, y, z]) ∧ (∀ xs, SqB K t H a xs → xs[i]? = some x) ∧ (∀ ys, SqB K u H b ys → ys[i]? = some y) ∧ ∀ zs, SqB K v H c zs → zs[i]? = some z,
   fun i H => ∃ xs ys zs : List V, SqB K t H a xs ∧ SqB K u H b ys ∧ SqB K v H c zs ∧ i ≤ xs.length ∧ i ≤ ys.length ∧ i ≤ zs.length ∧ (i = xs.length ∨ i = ys.length ∨ i = zs.length)⟩
abbrev six (N : Nat) : List Addr := [N + 5, N + 3, N + 4, N, N + 1, N + 2]
theorem six_mem {N : Nat} {c : Addr} (h : c ∈ six N) : c = (N + 5 : Nat) ∨ c = (N + 3 : Nat) ∨ c = (N + 4 : Nat) ∨ c = (N : Nat) ∨ c = (N + 1 : Nat) ∨ c = (N + 2 : Nat) := by simpa [six] using h
theorem no_six {N : Nat} {c : Addr} (h : c ∉ six N) : c ≠ (N + 5 : Nat) ∧ c ≠ (N + 4 : Nat) ∧ c ≠ (N : Nat) ∧ c ≠ (N + 1 : Nat) ∧ c ≠ (N + 2 : Nat) :=
  ⟨fun e => h (by rw [e]; simp [six]), fun e => h (by rw [e]; simp [six]), fun e => h (by rw [e]; simp [six]), fun e => h (by rw [e]; simp [six]), fun e => h (by rw [e]; simp [six])⟩
abbrev stB3 (N : Nat) (t u v : Bool) (a b c : Addr) (i : Nat) (h : Heap) : Prop :=
  IsZip h (N + 5 : Nat) (N + 3 : Nat) (N + 4 : Nat) .none ∧ IsTupOf3 h (N + 3 : Nat) (.ref (N : Nat)) (.ref (N + 1 : Nat)) (.ref (N + 2 : Nat)) ∧ (∃ x y z, IsTupOf3 h (N + 4 : Nat) x y z) ∧ ItB t h (N : Nat) a i ∧ ItB u h (N + 1 : Nat) b i ∧ ItB v h (N + 2 : Nat) c i
theorem lt_sep3 {N : Nat} {a b c : Addr} (ha : a < (N : Nat)) (hb : b < (N : Nat)) (hc : c < (N : Nat)) : ZipSep3 (N + 5 : Nat) (N + 3 : Nat) (N + 4 : Nat) (N : Nat) (N + 1 : Nat) (N + 2 : Nat) [(N : Nat), a] [(N + 1 : Nat), b] [(N + 2 : Nat), c] :=
  zip_sep3 (fp1 := [a]) (fp2 := [b]) (fp3 := [c]) (fun c h => by rw [List.mem_singleton.mp h]; exact ha) (fun c h => by rw [List.mem_singleton.mp h]; exact hb) (fun d h => by rw [List.mem_singleton.mp h]; exact hc)
theorem lt_more2 {N : Nat} {a : Addr} (h : a < (N : Nat)) : a < (N + 2 : Nat) := Nat.lt_trans (lt_more h) (Nat.lt_succ_self _)
theorem turnB3 {P : Program} {w : World} {K : PySem.W.Frag} {es : List Expr} {k : Nat} {pos : Pos} {N : Nat} {t u v : Bool} {a b c : Addr} (ha : a < (N : Nat)) (hb : b < (N : Nat)) (hc : c < (N : Nat)) :
    Turn P w K (.Tuple es k pos) (Izb3 K t u v a b c) (six N) (N + 5 : Nat) (stB3 N t u v a b c) where
  mem := List.mem_cons_self
  obj := fun i h st c hc => by
    obtain ⟨h1, h2, ⟨x, y, z, h3⟩, h4, h5, h6⟩ := st
    rcases six_mem hc with rfl | rfl | rfl | rfl | rfl | rfl
    · exact ⟨_, h1, fun v q => nomatch q⟩
    · exact ⟨_, h2, fun v q => nomatch q⟩
    · exact ⟨_, h3, fun v q => nomatch q⟩
    · exact h4.obj
    · exact h5.obj
    · exact h6.obj
  keep := fun i h h' st kp => by
    obtain ⟨h1, h2, ⟨x, y, z, h3⟩, h4, h5, h6⟩ := st
    exact ⟨kp _ (by simp [six]) _ h1, kp _ (by simp [six]) _ h2, ⟨x, y, z, kp _ (by simp [six]) _ h3⟩, h4.to fun o q => kp _ (by simp [six]) o q, h5.to fun o q => kp _ (by simp [six]) o q, h6.to fun o q => kp _ (by simp [six]) o q⟩
  item := by
    rintro X rfl rfl rfl calm i pins s σ H E I fp ⟨h1, h2, ⟨z1, z2, z3, h3⟩, h4, h5, h6⟩ ⟨xs, ys, zs, x, y, z, qx, qy, qz, ex, ey, ez⟩
    obtain ⟨is1, r1, p1⟩ := sqB_get I qx
    obtain ⟨is2, r2, p2⟩ := sqB_get I qy
    obtain ⟨is3, r3, p3⟩ := sqB_get I qz
    obtain ⟨u1, e1, rx⟩ := r1.get ex
    obtain ⟨u2, e2, ry⟩ := r2.get ey
    obtain ⟨u3, e3, rz⟩ := r3.get ez
    have l1 : i < is1.toArray.size := by
      have z := (List.getElem?_eq_some_iff.mp e1).1
      simpa using z
    have l2 : i < is2.toArray.size := by
      have z := (List.getElem?_eq_some_iff.mp e2).1
      simpa using z
    have l3 : i < is3.toArray.size := by
      have z := (List.getElem?_eq_some_iff.mp e3).1
      simpa using z
    have S := lt_sep3 ha hb hc
    have D1 := drawsB (prog := X.prog) (w := X.w) (A := X.A.in1) (I.ok.hd calm) t (N : Nat) a (Nat.ne_of_lt ha) is1.toArray
    have D2 := drawsB (prog := X.prog) (w := X.w) (A := X.A.in1) (I.ok.hd calm) u (N + 1 : Nat) b (Nat.ne_of_lt (lt_more hb)) is2.toArray
    have D3 := drawsB (prog := X.prog) (w := X.w) (A := X.A.in1) (I.ok.hd calm) v (N + 2 : Nat) c (Nat.ne_of_lt (lt_more2 hc)) is3.toArray
    have lz := Heap.lt_size h1
    refine wpAny_pyNext_zipD3_item S D1 D2 D3 h1 h2 h3 ⟨h4, p1⟩ ⟨h5, p2⟩ ⟨h6, p3⟩ l1 l2 l3 fun v1 v2 v3 h' tk g1 g2 g3 b1 b2 d1 d2 d3 new _ same => ?_
    have ev1 : v1 = u1 := by
      have z : is1[i]? = some v1 := by simpa using g1
      rw [e1] at z
      exact (Option.some.inj z).symm
    have ev2 : v2 = u2 := by
      have z : is2[i]? = some v2 := by simpa using g2
      rw [e2] at z
      exact (Option.some.inj z).symm
    have ev3 : v3 = u3 := by
      have z : is3[i]? = some v3 := by simpa using g3
      rw [e3] at z
      exact (Option.some.inj z).symm
    subst ev1 ev2 ev3
    refine ⟨_, rfl, wpAny_letOwnedTupleGo_zip (s := { s with heap := h', toks := tk }) b1 fun h'' hz2 sb => ?_⟩
    have made : h''.get? s.heap.objs.size = some { cls := .type "tuple", data := .seq #[v1, v2, v3] } := (sb.2 _ (Nat.ne_of_gt lz)).trans new
    have ob : ObjOk X.prog X.w (upd H s.heap.objs.size (.tup [x, y, z])) h'' s.heap.objs.size (.tup [x, y, z]) := ⟨by show 3 ≤ sizeLine; decide, [v1, v2, v3], .cons rx (.cons ry (.cons rz .nil)), ⟨_, made, rfl, _, rfl⟩⟩
    have J := I.turnedNew (t' := tk) (ch := six N) (fun c o hc q => by
      obtain ⟨n1, n2, n3, n4, n5⟩ := no_six hc
      exact (sb.2 c n1).trans (same c o n1 n2 n3 n4 n5 q)) fp (Nat.le_refl _) ob
    refine ⟨.ref s.heap.objs.size, _, J, rfl, ⟨_, x, y, z, rfl, I.hok.fresh (Nat.le_refl _), rfl, (fun l hl => by rw [sqB_inj I hl qx]; exact ex), (fun l hl => by rw [sqB_inj I hl qy]; exact ey), fun l hl => by rw [sqB_inj I hl qz]; exact ez⟩, ⟨hz2, ?_, ⟨v1, v2, v3, ?_⟩, ?_, ?_, ?_⟩, fun c hc => ?_⟩
    · exact (sb.2 _ S.TIz).trans (same _ _ S.TIz S.TITO S.TIi1 S.TIi2 S.TIi3 h2)
    · exact (sb.2 _ S.TOz).trans b2
    · exact d1.1.to fun o q => (sb.2 _ S.zi1.symm).trans q
    · exact d2.1.to fun o q => (sb.2 _ S.zi2.symm).trans q
    · exact d3.1.to fun o q => (sb.2 _ S.zi3.symm).trans q
    · have hlt : c < s.heap.objs.size := by
        rcases six_mem hc with rfl | rfl | rfl | rfl | rfl | rfl
        · exact lz
        · exact Heap.lt_size h2
        · exact Heap.lt_size h3
        · obtain ⟨o, q, _⟩ := h4.obj
          exact Heap.lt_size q
        · obtain ⟨o, q, _⟩ := h5.obj
          exact Heap.lt_size q
        · obtain ⟨o, q, _⟩ := h6.obj
          exact Heap.lt_size q
      rw [upd_ne (Nat.ne_of_lt hlt)]
      exact (fp c hc).1
  done := by
    rintro X rfl rfl rfl calm i pins s σ H E I fp ⟨h1, h2, ⟨z1, z2, z3, h3⟩, h4, h5, h6⟩ ⟨xs, ys, zs, qx, qy, qz, lx, ly, lz, le⟩
    obtain ⟨is1, r1, p1⟩ := sqB_get I qx
    obtain ⟨is2, r2, p2⟩ := sqB_get I qy
    obtain ⟨is3, r3, p3⟩ := sqB_get I qz
    have n1 := r1.length
    have n2 := r2.length
    have n3 := r3.length
    have s1 : is1.toArray.size = is1.length := List.size_toArray
    have s2 : is2.toArray.size = is2.length := List.size_toArray
    have s3 : is3.toArray.size = is3.length := List.size_toArray
    have D1 := drawsB (prog := X.prog) (w := X.w) (A := X.A.in1) (I.ok.hd calm) t (N : Nat) a (Nat.ne_of_lt ha) is1.toArray
    have D2 := drawsB (prog := X.prog) (w := X.w) (A := X.A.in1) (I.ok.hd calm) u (N + 1 : Nat) b (Nat.ne_of_lt (lt_more hb)) is2.toArray
    have D3 := drawsB (prog := X.prog) (w := X.w) (A := X.A.in1) (I.ok.hd calm) v (N + 2 : Nat) c (Nat.ne_of_lt (lt_more2 hc)) is3.toArray
    refine wpAny_pyNext_zipD3_end (lt_sep3 ha hb hc) D1 D2 D3 h1 h2 h3 ⟨h4, p1⟩ ⟨h5, p2⟩ ⟨h6, p3⟩ (by omega) (by omega) (by omega) (by omega) fun h' tk same => ⟨rfl, I.turnedL (t' := tk) (ch := six N) (fun c o hc q => by
      obtain ⟨n1, n2, n3, n4, n5⟩ := no_six hc
      exact same c o n1 n2 n3 n4 n5 q) fp⟩
  self := fun A i s Q E st q => wpAny_pyIter_zip st.1 q
/-- for x, y, z in zip(a, b, c) -/
def iZipB3 (K : PySem.W.Frag) (ta : TA) : TI := fun σ H R => ta σ H fun vs H1 => ∃ t u v a b c xs ys zs, vs = [.ref a, .ref b, .ref c] ∧ SqB K t H1 a xs ∧ SqB K u H1 b ys ∧ SqB K v H1 c zs ∧ R (Izb3 K t u v a b c) H1
theorem pi_zipB3 {X : Cx} {e e2 e3 : Expr} {ta : TA} {p pos tpos : Pos} {es : List Expr} {k : Nat} (hg : Gl X "zip") (hm : X.mg "zip" = none) (ha : PA X [e, e2, e3] ta)
    (hs : starEach [e, e2, e3] X.env = (false, eval e X.env) :: starEach [e2, e3] X.env := by rfl) (hb : (backTo pos (starEach [e2, e3] X.env)).any (·.1) = false := by rfl) :
    PI X (.Tuple es k tpos) (.Call (.Name "zip" p) [e, e2, e3] [] pos) (iZipB3 X.K ta) := by
  refine ⟨fun pins s σ H R I h => Call_ (ld_blt I hg hm PyProof.Rows.boot_zip (PyProof.Rows.callWith_type1 (thn (ha.run pos pins s σ H _ I h) fun us s1 z => ?_) hs hb))⟩
  obtain ⟨vs, H1, I1, r, t, u, v, a, b, c, xs, ys, zs, rfl, qx, qy, qz, q⟩ := z
  cases r with
  | cons ra rr =>
    cases rr with
    | cons rb rr =>
      cases rr with
      | cons rc rr =>
        cases rr
        cases ra
        cases rb
        cases rc
        obtain ⟨is1, _, p1⟩ := sqB_get I1 qx
        obtain ⟨is2, _, p2⟩ := sqB_get I1 qy
        obtain ⟨is3, _, p3⟩ := sqB_get I1 qz
        refine zip_begins3 (beginsB t a is1.toArray) (beginsB u b is2.toArray) (beginsB v c is3.toArray) p1 p2 p3 fun h' hz hT hO g1 g2 g3 _ same => wpAny_pyIter_zip hz ?_
        have I2 := I1.kept (t' := s1.toks) same
        refine ⟨s1.heap.objs.size + 5, six s1.heap.objs.size, _, _, H1, rfl, I2, turnB3 p1.lt p2.lt p3.lt, ⟨hz, hT, ⟨_, _, _, hO⟩, ItB.new g1, ItB.new g2, ItB.new g3⟩, fun c hc => ?_, q⟩
        have low : s1.heap.objs.size ≤ c := by
          rcases six_mem hc with rfl | rfl | rfl | rfl | rfl | rfl
          · exact Nat.le_add_right _ _
          · exact Nat.le_add_right _ _
          · exact Nat.le_add_right _ _
          · exact Nat.le_refl _
          · exact Nat.le_add_right _ _
          · exact Nat.le_add_right _ _
        exact I1.fpOk low (I1.hok.fresh low)
section
variable {K : PySem.W.Frag} {t u v : Bool} {a b c : Addr} {xs ys zs : List V}
theorem for_zipB3 {g : TG} {tb : TS} {D : Ends} {σ : L2.St} {H : Hp} (hl : xs.length = ys.length) (hl2 : xs.length = zs.length) (Pv : Nat → L2.St → Hp → Prop) (h0 : Pv 0 σ H) (hq : ∀ i σ H, Pv i σ H → SqB K t H a xs ∧ SqB K u H b ys ∧ SqB K v H c zs)
    (hs : ∀ (i : Nat) (x y z : V) (q : Addr) (σ : L2.St) (H : Hp), xs[i]? = some x → ys[i]? = some y → zs[i]? = some z → Pv i σ H → H q = none → g (.ref q) σ (upd H q (.tup [x, y, z])) fun σ2 H2 => tb { D with nx := Pv (i + 1), ct := Pv (i + 1), bk := D.nx } σ2 H2)
    (hd : ∀ σ H, Pv xs.length σ H → D.nx σ H) :
    ∃ W : Nat → Nat → L2.St → Hp → Prop, (∃ m, W 0 m σ H) ∧ ∀ i m σ H, W i m σ H →
      ((Izb3 K t u v a b c).stop i H ∧ D.nx σ H) ∨ ((Izb3 K t u v a b c).go i H ∧ ∃ N : L2.St → Hp → Prop, (∀ σ' H', N σ' H' → ∃ m', m' < m ∧ W (i + 1) m' σ' H') ∧ ∀ w H', (Izb3 K t u v a b c).yld i H w H' → g w σ H' fun σ2 H2 => tb { D with nx := N, ct := N, bk := D.nx } σ2 H2) := by
  refine ⟨fun i m σ H => m = xs.length - i ∧ i ≤ xs.length ∧ Pv i σ H, ⟨_, rfl, Nat.zero_le _, h0⟩, ?_⟩
  rintro i m σ H ⟨rfl, hi, pv⟩
  obtain ⟨qx, qy, qz⟩ := hq i σ H pv
  rcases Nat.lt_or_ge i xs.length with lt | ge
  · refine .inr ⟨⟨xs, ys, zs, xs[i], ys[i]'(hl ▸ lt), zs[i]'(hl2 ▸ lt), qx, qy, qz, List.getElem?_eq_getElem lt, List.getElem?_eq_getElem _, List.getElem?_eq_getElem _⟩, Pv (i + 1), fun σ' H' p' => ⟨xs.length - (i + 1), by omega, rfl, lt, p'⟩, fun w H' yl => ?_⟩
    obtain ⟨q, x, y, z, rfl, hq, rfl, f1, f2, f3⟩ := yl
    exact hs i x y z q σ H (f1 _ qx) (f2 _ qy) (f3 _ qz) pv hq
  · obtain rfl : i = xs.length := Nat.le_antisymm hi ge
    exact .inl ⟨⟨xs, ys, zs, qx, qy, qz, Nat.le_refl _, Nat.le_of_eq hl, Nat.le_of_eq hl2, .inl rfl⟩, hd σ H pv⟩
theorem lc_zipB3 {g : TG} {tt : TT} {te : TE} {vs : List Nat} {σ : L2.St} {H1 : Hp} {D : Addr} {Qd : Hp → Prop} (hl : xs.length = ys.length) (hl2 : xs.length = zs.length) (Pv : Nat → Hp → Prop) (h0 : Pv 0 (upd H1 D (.lst []))) (hq : ∀ i H, Pv i H → SqB K t H a xs ∧ SqB K u H b ys ∧ SqB K v H c zs)
    (hs : ∀ (i : Nat) (x y z : V) (q : Addr) (H : Hp), xs[i]? = some x → ys[i]? = some y → zs[i]? = some z → Pv i H → H q = none → g (.ref q) (wipe σ vs) (upd H q (.tup [x, y, z])) fun σ2 H2 => wipe σ2 vs = wipe σ vs ∧ tt σ2 H2 fun b H3 =>
      if b = true then te σ2 H3 fun o H4 => ∃ acc, H4 D = some (.lst acc) ∧ acc.length < sizeLine ∧ Pv (i + 1) (upd H4 D (.lst (acc ++ [o]))) else Pv (i + 1) H3) (hd : ∀ H, Pv xs.length H → Qd H) :
    ∃ W : Nat → Nat → Hp → Prop, (∃ m, W 0 m (upd H1 D (.lst []))) ∧ ∀ i m H, W i m H →
      ((Izb3 K t u v a b c).stop i H ∧ Qd H) ∨ ((Izb3 K t u v a b c).go i H ∧ ∃ Nx : Hp → Prop, (∀ H', Nx H' → ∃ m', m' < m ∧ W (i + 1) m' H') ∧ ∀ w H', (Izb3 K t u v a b c).yld i H w H' → g w (wipe σ vs) H' fun σ2 H2 => wipe σ2 vs = wipe σ vs ∧ tt σ2 H2 fun b H3 =>
        if b = true then te σ2 H3 fun o H4 => ∃ acc, H4 D = some (.lst acc) ∧ acc.length < sizeLine ∧ Nx (upd H4 D (.lst (acc ++ [o]))) else Nx H3) := by
  refine ⟨fun i m H => m = xs.length - i ∧ i ≤ xs.length ∧ Pv i H, ⟨_, rfl, Nat.zero_le _, h0⟩, ?_⟩
  rintro i m H ⟨rfl, hi, pv⟩
  obtain ⟨qx, qy, qz⟩ := hq i H pv
  rcases Nat.lt_or_ge i xs.length with lt | ge
  · refine .inr ⟨⟨xs, ys, zs, xs[i], ys[i]'(hl ▸ lt), zs[i]'(hl2 ▸ lt), qx, qy, qz, List.getElem?_eq_getElem lt, List.getElem?_eq_getElem _, List.getElem?_eq_getElem _⟩, Pv (i + 1), fun H' p' => ⟨xs.length - (i + 1), by omega, rfl, lt, p'⟩, fun w H' yl => ?_⟩
    obtain ⟨q, x, y, z, rfl, hq, rfl, f1, f2, f3⟩ := yl
    exact hs i x y z q H (f1 _ qx) (f2 _ qy) (f3 _ qz) pv hq
  · obtain rfl : i = xs.length := Nat.le_antisymm hi ge
    exact .inl ⟨⟨xs, ys, zs, qx, qy, qz, Nat.le_refl _, Nat.le_of_eq hl, Nat.le_of_eq hl2, .inl rfl⟩, hd H pv⟩
end
end Zp3
namespace Ab
open PySem PySem.Spec PyProof.Rows L2 Zp Dat Ki
/-! ## A row that is a list or a tuple -/
def Itb (K : PySem.W.Frag) (t : Bool) (a : Addr) : It := match t with
  | true => Itl K a
  | false => Itt K a
def iB (K : PySem.W.Frag) (t : Bool) (tl : TE) : TI := fun σ H R => tl σ H fun x H1 => ∃ a, x = .ref a ∧ (∃ xs, SqB K t H1 a xs) ∧ R (Itb K t a) H1
theorem pi_b {X : Cx} {K : PySem.W.Frag} {t : Bool} {tg l : Expr} {tl : TE} (hK : X.K = K) (hl : PE X l tl) : PI X tg l (iB K t tl) := by
  subst hK
  cases t with
  | true => exact pi_list hl
  | false => exact pi_tup hl
theorem lc_b {K : PySem.W.Frag} {t : Bool} {a : Addr} {xs : List V} {g : TG} {tt : TT} {te : TE} {vs : List Nat} {σ : L2.St} {H1 : Hp} {D : Addr} {Qd : Hp → Prop} (Pv : Nat → Hp → Prop) (h0 : Pv 0 (upd H1 D (.lst []))) (hl : ∀ i H, i ≤ xs.length → Pv i H → SqB K t H a xs)
    (hs : ∀ i x H, xs[i]? = some x → Pv i H → g x (wipe σ vs) H fun σ2 H2 => wipe σ2 vs = wipe σ vs ∧ tt σ2 H2 fun b H3 =>
      if b = true then te σ2 H3 fun y H4 => ∃ acc, H4 D = some (.lst acc) ∧ acc.length < sizeLine ∧ Pv (i + 1) (upd H4 D (.lst (acc ++ [y]))) else Pv (i + 1) H3) (hd : ∀ H, Pv xs.length H → Qd H) :
    ∃ W : Nat → Nat → Hp → Prop, (∃ m, W 0 m (upd H1 D (.lst []))) ∧ ∀ i m H, W i m H →
      (((Itb K t a).stop i H ∧ Qd H) ∨ ((Itb K t a).go i H ∧ ∃ Nx : Hp → Prop, (∀ H', Nx H' → ∃ m', m' < m ∧ W (i + 1) m' H') ∧ ∀ x H', (Itb K t a).yld i H x H' → g x (wipe σ vs) H' fun σ2 H2 => wipe σ2 vs = wipe σ vs ∧ tt σ2 H2 fun b H3 =>
        if b = true then te σ2 H3 fun y H4 => ∃ acc, H4 D = some (.lst acc) ∧ acc.length < sizeLine ∧ Nx (upd H4 D (.lst (acc ++ [y]))) else Nx H3)) := by
  cases t with
  | true => exact lc_list Pv h0 hl hs hd
  | false => exact lc_tup Pv h0 hl hs hd
theorem sqB_same {K : PySem.W.Frag} {t : Bool} {H H' : Hp} {a : Addr} {xs : List V} (s : Same H H') (h : SqB K t H a xs) : SqB K t H' a xs := by
  cases t with
  | true => exact s.seq h
  | false => exact seqT_same s h
theorem sqB_or {K : PySem.W.Frag} {t : Bool} {H : Hp} {a : Addr} {xs : List V} (h : SqB K t H a xs) : SqL K H a xs ∨ SqT K H a xs := by
  cases t with
  | true => exact .inl h
  | false => exact .inr h
/-- what is a row, as an object -/
theorem row_at {K : PySem.W.Frag} {H : Hp} {v : V} {d : PyData} (h : Dp K H v d) (r : isRowD d = true) : ∃ t a vs, v = .ref a ∧ SqB K t H a vs ∧ DpAll K H vs (rowsD d) := by
  cases h with
  | lst hs ha => exact ⟨true, _, _, rfl, hs, ha⟩
  | tup hs ha => exact ⟨false, _, _, rfl, hs, ha⟩
  | non => cases r
  | bl _ => cases r
  | int _ => cases r
  | str _ => cases r
def Ieb (K : PySem.W.Frag) (t : Bool) (a : Addr) : It := match t with
  | true => Ite K a
  | false => En.Iet K a
def iEnB (K : PySem.W.Frag) (t : Bool) (ta : TA) : TI := fun σ H R => ta σ H fun vs H1 => ∃ a xs, vs = [.ref a] ∧ SqB K t H1 a xs ∧ R (Ieb K t a) H1
theorem pi_enB {X : Cx} {K : PySem.W.Frag} {t : Bool} {e : Expr} {ta : TA} {p pos tpos : Pos} {es : List Expr} {k : Nat} (hK : X.K = K) (hg : Gl X "enumerate") (hm : X.mg "enumerate" = none) (ha : PA X [e] ta) (hs : starEach [e] X.env = [(false, eval e X.env)] := by rfl) :
    PI X (.Tuple es k tpos) (.Call (.Name "enumerate" p) [e] [] pos) (iEnB K t ta) := by
  subst hK
  cases t with
  | true => exact pi_enum hg hm ha hs
  | false => exact En.pi_enT hg hm ha hs
theorem walk_enB {K : PySem.W.Frag} {t : Bool} {a : Addr} {xs : List V} : Walk (Ieb K t a) xs.length (fun H => SqB K t H a xs) (YPair (fun i => some (.int (i : Nat))) (fun i => xs[i]?)) := by
  cases t with
  | true => exact walk_enum
  | false =>
    refine ⟨fun i _ hi q => ⟨xs, xs[i], q, by simp [hi]⟩, fun _ q => ⟨xs, q, Nat.le_refl _⟩, fun i H v H' _ q y => ?_⟩
    obtain ⟨T, x, a1, a2, a3, a4⟩ := y
    exact ⟨T, _, x, a1, a2, a3, rfl, a4 xs q⟩
def rSlb (K : PySem.W.Frag) (t : Bool) : V → Option Int → Option Int → Hp → VK → Prop := match t with
  | true => rSlL K
  | false => rSlA K
theorem sl_b {X : Cx} {K : PySem.W.Frag} {t : Bool} (hK : X.K = K) : SlR X (rSlb K t) := by
  subst hK
  cases t with
  | true => exact sl_list
  | false => exact sl_tupA
end Ab
namespace Xm
open PySem PySem.Spec PyProof.Rows L2 Pen Dat Ki Fi Ep Es Ev
/-! ## Drawn designs: modules as data, and the names that an item may ask for -/
inductive Item where
  | inp (n : Str) (w : Nat) | reg (n : Str) (w r : Nat) | mem (n : Str) (w b : Nat) | use (n m : Str) (g : List (Str × Ex)) | sig (k n : Str) (w : Nat) (e : Ex) | nxt (n : Str) (e : Ex) | wri (m : Str) (a b c : Ex)
def givD (g : List (Str × Ex)) : List PyData := g.map fun q => .tuple [.str q.1, exD q.2]
def itD : Item → PyData
  | .inp n w => .tuple [.str "input", .str n, .int (w : Nat)]
  | .reg n w r => .tuple [.str "reg", .str n, .int (w : Nat), .int (r : Nat)]
  | .mem n w b => .tuple [.str "memory", .str n, .int (w : Nat), .int (b : Nat)]
  | .use n m g => .tuple [.str "use", .str n, .str m, .tuple (givD g)]
  | .sig k n w e => .tuple [.str k, .str n, .int (w : Nat), exD e]
  | .nxt n e => .tuple [.str "next", .str n, exD e]
  | .wri m a b c => .tuple [.str "write", .str m, exD a, exD b, exD c]
structure Md where
  name : Str
  items : List Item
def mdD (m : Md) : PyData := .tuple [.str "module", .str m.name, .tuple (m.items.map itD)]
def insOf : List Item → List (Str × Nat)
  | [] => []
  | .inp n w :: r => (n, w) :: insOf r
  | _ :: r => insOf r
def outsOf : List Item → List (Str × Nat)
  | [] => []
  | .sig k n w _ :: r => if k = "output" then (n, w) :: outsOf r else outsOf r
  | _ :: r => outsOf r
theorem giv_noL : ∀ g : List (Str × Ex), noLs (givD g) = true
  | [] => rfl
  | q :: g => by
    show (noL (.tuple [.str q.1, exD q.2]) && noLs (givD g)) = true
    rw [giv_noL g]
    show ((true && (noL (exD q.2) && true)) && true) = true
    rw [ex_noL]
    rfl
theorem it_noL (it : Item) : noL (itD it) = true := by
  cases it with
  | inp n w => rfl
  | reg n w r => rfl
  | mem n w b => rfl
  | use n m g =>
    show (true && (true && (true && (noLs (givD g) && true)))) = true
    rw [giv_noL]
    rfl
  | sig k n w e =>
    show (true && (true && (true && (noL (exD e) && true)))) = true
    rw [ex_noL]
    rfl
  | nxt n e =>
    show (true && (true && (noL (exD e) && true))) = true
    rw [ex_noL]
    rfl
  | wri m a b c =>
    show (true && (true && (noL (exD a) && (noL (exD b) && (noL (exD c) && true))))) = true
    rw [ex_noL, ex_noL, ex_noL]
    rfl
theorem its_noL : ∀ its : List Item, noLs (its.map itD) = true
  | [] => rfl
  | it :: its => by
    show (noL (itD it) && noLs (its.map itD)) = true
    rw [it_noL, its_noL its]
    rfl
theorem md_noL (m : Md) : noL (mdD m) = true := by
  show (true && (true && (noLs (m.items.map itD) && true))) = true
  rw [its_noL]
  rfl
/-- what an expression may ask for -/
inductive EnE where
  | nm (n : Str) (w : Nat) | pt (u n : Str) (w : Nat) | mm (m : Str) (w b : Nat)
def nmOf : List EnE → Str → Option Nat
  | [], _ => none
  | .nm n w :: E, x => if n = x then some w else nmOf E x
  | .pt _ _ _ :: E, x => nmOf E x
  | .mm _ _ _ :: E, x => nmOf E x
def ptOf : List EnE → Str → Str → Option Nat
  | [], _, _ => none
  | .pt u n w :: E, y, x => if u = y ∧ n = x then some w else ptOf E y x
  | .nm _ _ :: E, y, x => ptOf E y x
  | .mm _ _ _ :: E, y, x => ptOf E y x
def mmOf : List EnE → Str → Option (Nat × Nat)
  | [], _ => none
  | .mm m w b :: E, x => if m = x then some (w, b) else mmOf E x
  | .nm _ _ :: E, x => mmOf E x
  | .pt _ _ _ :: E, x => mmOf E x
def GmE (E : List EnE) : Gam := ⟨nmOf E, ptOf E, mmOf E⟩
theorem nm_app : ∀ (E F : List EnE) (x : Str), nmOf (E ++ F) x = (nmOf E x).or (nmOf F x)
  | [], F, x => by
    show nmOf F x = (none : Option Nat).or (nmOf F x)
    rfl
  | .nm n w :: E, F, x => by
    show (if n = x then some w else nmOf (E ++ F) x) = (if n = x then some w else nmOf E x).or (nmOf F x)
    by_cases h : n = x
    · rw [if_pos h, if_pos h]
      rfl
    · rw [if_neg h, if_neg h]
      exact nm_app E F x
  | .pt _ _ _ :: E, F, x => nm_app E F x
  | .mm _ _ _ :: E, F, x => nm_app E F x
theorem pt_app : ∀ (E F : List EnE) (y x : Str), ptOf (E ++ F) y x = (ptOf E y x).or (ptOf F y x)
  | [], F, y, x => by
    show ptOf F y x = (none : Option Nat).or (ptOf F y x)
    rfl
  | .pt u n w :: E, F, y, x => by
    show (if u = y ∧ n = x then some w else ptOf (E ++ F) y x) = (if u = y ∧ n = x then some w else ptOf E y x).or (ptOf F y x)
    by_cases h : u = y ∧ n = x
    · rw [if_pos h, if_pos h]
      rfl
    · rw [if_neg h, if_neg h]
      exact pt_app E F y x
  | .nm _ _ :: E, F, y, x => pt_app E F y x
  | .mm _ _ _ :: E, F, y, x => pt_app E F y x
theorem mm_app : ∀ (E F : List EnE) (x : Str), mmOf (E ++ F) x = (mmOf E x).or (mmOf F x)
  | [], F, x => by
    show mmOf F x = (none : Option (Nat × Nat)).or (mmOf F x)
    rfl
  | .mm m w b :: E, F, x => by
    show (if m = x then some (w, b) else mmOf (E ++ F) x) = (if m = x then some (w, b) else mmOf E x).or (mmOf F x)
    by_cases h : m = x
    · rw [if_pos h, if_pos h]
      rfl
    · rw [if_neg h, if_neg h]
      exact mm_app E F x
  | .nm _ _ :: E, F, x => mm_app E F x
  | .pt _ _ _ :: E, F, x => mm_app E F x
structure GmLe (Γ Δ : Gam) : Prop where
  nm : ∀ n w, Γ.nm n = some w → Δ.nm n = some w
  pt : ∀ u n w, Γ.pt u n = some w → Δ.pt u n = some w
  mm : ∀ m w, Γ.mm m = some w → Δ.mm m = some w
theorem gm_le (E F : List EnE) : GmLe (GmE E) (GmE (E ++ F)) := by
  refine ⟨fun n w h => ?_, fun u n w h => ?_, fun m w h => ?_⟩
  · have h : nmOf E n = some w := h
    show nmOf (E ++ F) n = some w
    rw [nm_app, h]
    rfl
  · have h : ptOf E u n = some w := h
    show ptOf (E ++ F) u n = some w
    rw [pt_app, h]
    rfl
  · have h : mmOf E m = some w := h
    show mmOf (E ++ F) m = some w
    rw [mm_app, h]
    rfl
theorem wt_mono {Γ Δ : Gam} (g : GmLe Γ Δ) {e : Ex} {w : Nat} (h : Wt Γ e w) : Wt Δ e w := by
  refine Wt.rec (motive_1 := fun e w _ => Wt Δ e w) (motive_2 := fun ps ws _ => Wts Δ ps ws) ?_ ?_ ?_ ?_ ?_ ?_ ?_ ?_ ?_ ?_ ?_ ?_ ?_ h
  · exact fun w v a b c => .num w v a b c
  · exact fun n w a b => .nam n w a (g.nm _ _ b)
  · exact fun u n w a b => .port u n w a (g.pt _ _ _ b)
  · exact fun m p w b a c _ ih => .read m p w b a (g.mm _ _ c) ih
  · exact fun k p w a b _ ih => .un k p w a b ih
  · exact fun k n p w a b c _ ih => .sh k n p w a b c ih
  · exact fun h l p w a b c _ ih => .slc h l p w a b c ih
  · exact fun k p q w a b _ _ i1 i2 => .bin k p q w a b i1 i2
  · exact fun k p q w a b _ _ i1 i2 => .cmp k p q w a b i1 i2
  · exact fun c p q w a _ _ _ i0 i1 i2 => .ite c p q w a i0 i1 i2
  · exact fun ps ws _ a ih => .join ps ws ih a
  · exact .nil
  · exact fun p ps w ws _ _ i1 i2 => .cons p ps w ws i1 i2
theorem NmE.mono {Γ Δ : Gam} (g : GmLe Γ Δ) {S h0 : Nat} {e : Ex} {w : Nat} (h : NmE Γ S h0 e w) : NmE Δ S h0 e w := ⟨wt_mono g h.wt, h.z, h.h, h.lay, h.dep⟩
theorem NmR.mono {K : PySem.W.Frag} {H : Hp} {Γ Δ : Gam} (g : GmLe Γ Δ) {S h0 : Nat} {v : V} {r : Ex × Nat} (h : NmR K H Γ S h0 v r) : NmR K H Δ S h0 v r := by
  obtain ⟨t, ev, e, hs, he, n⟩ := h
  exact ⟨t, ev, e, hs, he, NmE.mono g n⟩
/-! ### the names that the law gives -/
def nmc (c : Str) (i : Nat) : Str := c ++ (toString (0 + (i : Int)) : Str)
theorem nmc_log : ∀ i : Nat, i < 4 → (0 + (i : Int)).natAbs.log2 < 1920 := by decide
theorem nmc_len : ∀ c ∈ (["i", "r", "m", "u", "w", "a", "b", "c"] : List Str), ∀ i : Nat, i < 4 → c.length + (toString (0 + (i : Int)) : Str).length ≤ sizeLine := by decide +kernel
def nmN : List EnE → List Str
  | [] => []
  | .nm n _ :: E => n :: nmN E
  | _ :: E => nmN E
def mmN : List EnE → List Str
  | [] => []
  | .mm n _ _ :: E => n :: mmN E
  | _ :: E => mmN E
def ptN : List EnE → List Str
  | [] => []
  | .pt u _ _ :: E => u :: ptN E
  | _ :: E => ptN E
theorem nm_none : ∀ {E : List EnE} {x : Str}, x ∉ nmN E → nmOf E x = none
  | [], _, _ => rfl
  | .nm n w :: E, x, h => by
    show (if n = x then some w else nmOf E x) = none
    rw [if_neg (fun e : n = x => h (by rw [← e]; exact List.mem_cons_self))]
    exact nm_none fun z => h (List.mem_cons_of_mem _ z)
  | .pt _ _ _ :: E, x, h => nm_none (E := E) h
  | .mm _ _ _ :: E, x, h => nm_none (E := E) h
theorem mm_none : ∀ {E : List EnE} {x : Str}, x ∉ mmN E → mmOf E x = none
  | [], _, _ => rfl
  | .mm n w b :: E, x, h => by
    show (if n = x then some (w, b) else mmOf E x) = none
    rw [if_neg (fun e : n = x => h (by rw [← e]; exact List.mem_cons_self))]
    exact mm_none fun z => h (List.mem_cons_of_mem _ z)
  | .pt _ _ _ :: E, x, h => mm_none (E := E) h
  | .nm _ _ :: E, x, h => mm_none (E := E) h
theorem pt_none : ∀ {E : List EnE} {y x : Str}, y ∉ ptN E → ptOf E y x = none
  | [], _, _, _ => rfl
  | .pt u n w :: E, y, x, h => by
    show (if u = y ∧ n = x then some w else ptOf E y x) = none
    rw [if_neg (fun e : u = y ∧ n = x => h (by rw [← e.1]; exact List.mem_cons_self))]
    exact pt_none fun z => h (List.mem_cons_of_mem _ z)
  | .mm _ _ _ :: E, y, x, h => pt_none (E := E) h
  | .nm _ _ :: E, y, x, h => pt_none (E := E) h
theorem nmN_app : ∀ E F : List EnE, nmN (E ++ F) = nmN E ++ nmN F
  | [], _ => rfl
  | .nm n _ :: E, F => congrArg (n :: ·) (nmN_app E F)
  | .pt _ _ _ :: E, F => nmN_app E F
  | .mm _ _ _ :: E, F => nmN_app E F
theorem mmN_app : ∀ E F : List EnE, mmN (E ++ F) = mmN E ++ mmN F
  | [], _ => rfl
  | .mm n _ _ :: E, F => congrArg (n :: ·) (mmN_app E F)
  | .pt _ _ _ :: E, F => mmN_app E F
  | .nm _ _ :: E, F => mmN_app E F
theorem ptN_app : ∀ E F : List EnE, ptN (E ++ F) = ptN E ++ ptN F
  | [], _ => rfl
  | .pt n _ _ :: E, F => congrArg (n :: ·) (ptN_app E F)
  | .mm _ _ _ :: E, F => ptN_app E F
  | .nm _ _ :: E, F => ptN_app E F
/-- the ports of a use -/
def ports (u : Str) (os : List (Str × Nat)) : List EnE := os.map fun q => .pt u q.1 q.2
theorem nmN_ports (u : Str) : ∀ os, nmN (ports u os) = []
  | [] => rfl
  | _ :: os => nmN_ports u os
theorem mmN_ports (u : Str) : ∀ os, mmN (ports u os) = []
  | [] => rfl
  | _ :: os => mmN_ports u os
theorem ptN_ports (u : Str) : ∀ os, ∀ y ∈ ptN (ports u os), y = u
  | [], _, h => by cases h
  | _ :: os, y, h => by
    rcases List.mem_cons.mp h with g | g
    · exact g
    · exact ptN_ports u os y g
theorem pt_ports {u : Str} : ∀ {os : List (Str × Nat)}, (os.map (·.1)).Nodup → ∀ {n : Str} {w : Nat}, (n, w) ∈ os → ptOf (ports u os) u n = some w
  | [], _, _, _, h => by cases h
  | q :: os, nd, n, w, h => by
    rw [List.map_cons, List.nodup_cons] at nd
    show (if u = u ∧ q.1 = n then some q.2 else ptOf (ports u os) u n) = some w
    rcases List.mem_cons.mp h with g | g
    · subst g
      rw [if_pos ⟨rfl, rfl⟩]
    · rw [if_neg (fun e : u = u ∧ q.1 = n => nd.1 (by rw [e.2]; exact List.mem_map.mpr ⟨_, g, rfl⟩))]
      exact pt_ports nd.2 g
/-- a module's items, one after another: each asks for what stands ahead of it -/
inductive Laid (A : List Md) : List Item → List EnE → Prop
  | nil : Laid A [] []
  | inp (its : List Item) (E : List EnE) (n : Str) (w : Nat) : Laid A its E → n ∉ nmN E → 1 ≤ w → w ≤ 8 → Laid A (its ++ [.inp n w]) (E ++ [.nm n w])
  | reg (its : List Item) (E : List EnE) (n : Str) (w r : Nat) : Laid A its E → n ∉ nmN E → 1 ≤ w → w ≤ 8 → r < 2 ^ w → Laid A (its ++ [.reg n w r]) (E ++ [.nm n w])
  | mem (its : List Item) (E : List EnE) (n : Str) (w b : Nat) : Laid A its E → n ∉ mmN E → 1 ≤ w → w ≤ 5 → 1 ≤ b → b ≤ 3 → Laid A (its ++ [.mem n w b]) (E ++ [.mm n w b])
  | use (its : List Item) (E : List EnE) (n : Str) (m : Md) (g : List (Str × Ex)) : Laid A its E → n ∉ ptN E → m ∈ A → g.map (·.1) = (insOf m.items).map (·.1) → (∀ (i : Nat) (q : Str × Ex) (p : Str × Nat), g[i]? = some q → (insOf m.items)[i]? = some p → Wt (GmE E) q.2 p.2) → Laid A (its ++ [.use n m.name g]) (E ++ ports n (outsOf m.items))
  | sig (its : List Item) (E : List EnE) (k n : Str) (w : Nat) (e : Ex) : Laid A its E → k = "wire" ∨ k = "output" → n ∉ nmN E → 1 ≤ w → w ≤ 8 → Wt (GmE E) e w → Laid A (its ++ [.sig k n w e]) (E ++ [.nm n w])
  | nxt (its : List Item) (E : List EnE) (n : Str) (w : Nat) (e : Ex) : Laid A its E → nmOf E n = some w → Wt (GmE E) e w → Laid A (its ++ [.nxt n e]) E
  | wri (its : List Item) (E : List EnE) (m : Str) (w b : Nat) (a e1 e2 : Ex) : Laid A its E → mmOf E m = some (w, b) → Wt (GmE E) a 1 → Wt (GmE E) e1 b → Wt (GmE E) e2 w → Laid A (its ++ [.wri m a e1 e2]) E
end Xm
namespace Xn
open PySem PySem.Spec PyProof.Rows L2 Pen Dat Ki Fi Ep Es Ev Xm
/-! ## What stands while a module is drawn -/
theorem lay_app : ∀ as bs : List PyData, PyData.canLayAll0 as = true → PyData.canLayAll0 bs = true → PyData.canLayAll0 (as ++ bs) = true
  | [], bs, _, h => h
  | a :: as, bs, h1, h2 => by
    obtain ⟨x, y⟩ := Bool.and_eq_true_iff.mp (show (a.canLay0 && PyData.canLayAll0 as) = true from h1)
    show (a.canLay0 && PyData.canLayAll0 (as ++ bs)) = true
    rw [x, lay_app as bs y h2]
    rfl
theorem lay_cons {a : PyData} {as : List PyData} (h1 : a.canLay0 = true) (h2 : PyData.canLayAll0 as = true) : PyData.canLayAll0 (a :: as) = true := by
  show (a.canLay0 && PyData.canLayAll0 as) = true
  rw [h1, h2]
  rfl
structure NamesOk (Γ : Gam) : Prop where
  nm : ∀ n w, Γ.nm n = some w → (PyData.str n).canLay0 = true
  pt : ∀ u n w, Γ.pt u n = some w → (PyData.str u).canLay0 = true ∧ (PyData.str n).canLay0 = true
  mm : ∀ m w, Γ.mm m = some w → (PyData.str m).canLay0 = true
theorem lay_wt {Γ : Gam} (ok : NamesOk Γ) {e : Ex} {w : Nat} (h : Wt Γ e w) : (exD e).canLay0 = true := by
  have nil : PyData.canLayAll0 (exDs []) = true := by rw [exDs]; rfl
  have cons : ∀ (p : Ex) (ps : List Ex), (exD p).canLay0 = true → PyData.canLayAll0 (exDs ps) = true → PyData.canLayAll0 (exDs (p :: ps)) = true := fun p ps h1 h2 => by rw [exDs]; exact lay_cons h1 h2
  refine Wt.rec (motive_1 := fun e _ _ => (exD e).canLay0 = true) (motive_2 := fun ps _ _ => PyData.canLayAll0 (exDs ps) = true) ?_ ?_ ?_ ?_ ?_ ?_ ?_ ?_ ?_ ?_ ?_ ?_ ?_ h
  · intro w v _ _ _; rw [exD]; exact lay_cons (by decide +kernel) rfl
  · intro n w _ h; rw [exD]; exact lay_cons (by decide +kernel) (lay_cons (ok.nm n w h) rfl)
  · intro u n w _ h; rw [exD]; exact lay_cons (by decide +kernel) (lay_cons (ok.pt u n w h).1 (lay_cons (ok.pt u n w h).2 rfl))
  · intro m p w b _ h _ ih; rw [exD]; exact lay_cons (by decide +kernel) (lay_cons (ok.mm m _ h) (cons p [] ih nil))
  · intro k p w hk _ _ ih; rw [exD]; exact lay_cons (by rcases hk with rfl | rfl <;> decide +kernel) (cons p [] ih nil)
  · intro k n p w hk _ _ _ ih; rw [exD]; exact lay_cons (by rcases hk with rfl | rfl <;> decide +kernel) (lay_app _ _ (cons p [] ih nil) rfl)
  · intro h l p w _ _ _ _ ih; rw [exD]; exact lay_cons (by decide +kernel) (lay_app _ _ (cons p [] ih nil) rfl)
  · intro k p q w hk _ _ _ ih1 ih2; rw [exD]; exact lay_cons (by rcases hk with rfl | rfl | rfl | rfl | rfl <;> decide +kernel) (cons p _ ih1 (cons q [] ih2 nil))
  · intro k p q w hk _ _ _ ih1 ih2; rw [exD]; exact lay_cons (by rcases hk with rfl | rfl <;> decide +kernel) (cons p _ ih1 (cons q [] ih2 nil))
  · intro c p q w _ _ _ _ ih1 ih2 ih3; rw [exD]; exact lay_cons (by decide +kernel) (cons c _ ih1 (cons p _ ih2 (cons q [] ih3 nil)))
  · intro ps ws _ _ ih; rw [exD]; exact lay_cons (by decide +kernel) (lay_cons ih rfl)
  · exact nil
  · intro p ps w ws _ _ ih1 ih2; exact cons p ps ih1 ih2
theorem dep_app : ∀ as bs : List PyData, PyData.depthAll (as ++ bs) = max (PyData.depthAll as) (PyData.depthAll bs)
  | [], bs => (Nat.zero_max _).symm
  | a :: as, bs => by
    show max a.depth (PyData.depthAll (as ++ bs)) = max (max a.depth (PyData.depthAll as)) _
    rw [dep_app as bs, Nat.max_assoc]
theorem dep_all : ∀ n : Nat, (∀ e : Ex, exZ e ≤ n → (exD e).depth ≤ 2 * exH e + 1) ∧ ∀ ps : List Ex, exZs ps ≤ n → PyData.depthAll (exDs ps) ≤ 2 * exHs ps + 1 := by
  intro n
  induction n with
  | zero =>
    refine ⟨fun e h => by have := exZ_pos e; omega, fun ps h => ?_⟩
    cases ps with
    | nil => rw [exDs]; exact Nat.zero_le _
    | cons p ps => rw [exZs_cons] at h; have := exZ_pos p; omega
  | succ n ih =>
    have he : ∀ e : Ex, exZ e ≤ n + 1 → (exD e).depth ≤ 2 * exH e + 1 := by
      intro e h
      cases e with
      | lf l => rw [exD, exH_lf]; cases l <;> exact Nat.le_refl _
      | op o ps =>
        rw [exZ_op] at h
        have := ih.2 ps (by omega)
        rw [exD, exH_op]
        have z : ∀ k : Nat, max 0 k = k := Nat.zero_max
        cases o with
        | read m => show max 0 (max 0 (PyData.depthAll (exDs ps))) + 1 ≤ _; rw [z, z]; omega
        | un k => show max 0 (PyData.depthAll (exDs ps)) + 1 ≤ _; rw [z]; omega
        | sh k i => show max 0 (PyData.depthAll (exDs ps ++ [.int i])) + 1 ≤ _; rw [z, dep_app]; show max _ 0 + 1 ≤ _; rw [Nat.max_zero]; omega
        | slc a b => show max 0 (PyData.depthAll (exDs ps ++ [.int a, .int b])) + 1 ≤ _; rw [z, dep_app]; show max _ 0 + 1 ≤ _; rw [Nat.max_zero]; omega
        | bin k => show max 0 (PyData.depthAll (exDs ps)) + 1 ≤ _; rw [z]; omega
        | ite => show max 0 (PyData.depthAll (exDs ps)) + 1 ≤ _; rw [z]; omega
        | join => show max 0 (max (PyData.depthAll (exDs ps) + 1) 0) + 1 ≤ _; rw [z, Nat.max_zero]; omega
    refine ⟨he, fun ps h => ?_⟩
    induction ps with
    | nil => rw [exDs]; exact Nat.zero_le _
    | cons p ps ih2 =>
      rw [exZs_cons] at h
      rw [exDs, exHs_cons]
      show max (exD p).depth (PyData.depthAll (exDs ps)) ≤ _
      have h1 := he p (by omega)
      have h2 := ih2 (by omega)
      omega
theorem nm_of {Γ : Gam} {S h0 : Nat} {e : Ex} {w : Nat} (ok : NamesOk Γ) (wt : Wt Γ e w) (z : exZ e ≤ S) (h : exH e ≤ h0) (hh : h0 ≤ 9) : NmE Γ S h0 e w :=
  ⟨wt, z, h, lay_wt ok wt, by have := (dep_all _).1 e (Nat.le_refl _); omega⟩
theorem get_snoc {α : Type} {xs : List α} {x y : α} {j : Nat} (h : (xs ++ [x])[j]? = some y) : (xs[j]? = some y) ∨ (j = xs.length ∧ y = x) := by
  rcases Nat.lt_or_ge j xs.length with l | l
  · rw [List.getElem?_append_left l] at h
    exact .inl h
  · rw [List.getElem?_append_right l] at h
    rcases Nat.eq_zero_or_pos (j - xs.length) with z | z
    · rw [z] at h
      exact .inr ⟨by omega, (Option.some.inj h).symm⟩
    · rw [List.getElem?_eq_none (by show 1 ≤ _; omega)] at h
      cases h
theorem get_old {α : Type} {xs : List α} {x y : α} {j : Nat} (h : xs[j]? = some y) : (xs ++ [x])[j]? = some y := by
  rw [List.getElem?_append_left (List.getElem?_eq_some_iff.mp h).1]
  exact h
theorem get_end {α : Type} {xs : List α} {x : α} {j : Nat} (h : j = xs.length) : (xs ++ [x])[j]? = some x := by
  subst h
  rw [List.getElem?_append_right (Nat.le_refl _), Nat.sub_self]
  rfl

/-! ### lists of one's own, and the pen -/
structure Fr (H : Hp) (p c : Addr) (m : Nat) (ls : List (Addr × List V)) : Prop where
  pen : PenC H p c m
  at_ : ∀ q ∈ ls, H q.1 = some (.lst q.2) ∧ q.1 ≠ p ∧ q.1 ≠ c
  nd : (ls.map (·.1)).Nodup
section
variable {H H' : Hp} {p c : Addr} {m m' : Nat} {ls : List (Addr × List V)}
theorem Fr.get (F : Fr H p c m ls) (i : Nat) {q : Addr × List V} (h : ls[i]? = some q) : H q.1 = some (.lst q.2) := (F.at_ q (List.mem_of_getElem? h)).1
theorem Fr.np (F : Fr H p c m ls) (i : Nat) {q : Addr × List V} (h : ls[i]? = some q) : q.1 ≠ p := (F.at_ q (List.mem_of_getElem? h)).2.1
theorem Fr.same (F : Fr H p c m ls) (s : Same H H') : Fr H' p c m ls := ⟨F.pen.same s, fun q h => ⟨s _ _ (F.at_ q h).1, (F.at_ q h).2⟩, F.nd⟩
theorem Fr.but (F : Fr H p c m ls) (P : PenC H' p c m') (B : But p H H') : Fr H' p c m' ls := ⟨P, fun q h => ⟨B _ _ (F.at_ q h).1 (F.at_ q h).2.1, (F.at_ q h).2⟩, F.nd⟩
theorem Fr.more (F : Fr H p c m ls) (h : m ≤ m') : Fr H p c m' ls := ⟨F.pen.more h, F.at_, F.nd⟩
theorem Fr.new (F : Fr H p c m ls) {a : Addr} (n : H a = none) (xs : List V) : Fr (upd H a (.lst xs)) p c m (ls ++ [(a, xs)]) := by
  obtain ⟨n1, n2⟩ := F.pen.free n
  refine ⟨F.pen.same (same_new n), fun q h => ?_, ?_⟩
  · rcases List.mem_append.mp h with g | g
    · exact ⟨same_new n _ _ (F.at_ q g).1, (F.at_ q g).2⟩
    · rw [List.mem_singleton.mp g]
      exact ⟨upd_same, n1, n2⟩
  · rw [List.map_append]
    refine List.nodup_append.mpr ⟨F.nd, by simp, fun x hx y hy e => ?_⟩
    obtain ⟨q, hq, rfl⟩ := List.mem_map.mp hx
    have ey := List.mem_singleton.mp hy
    subst ey
    exact ne_of_none (F.at_ q hq).1 n e
theorem nodup_get {α β : Type} : ∀ {xs : List (α × β)}, (xs.map (·.1)).Nodup → ∀ {i j : Nat} {x y : α × β}, xs[i]? = some x → xs[j]? = some y → x.1 = y.1 → i = j
  | [], _, _, _, _, _, h, _, _ => by cases h
  | z :: xs, nd, i, j, x, y, hi, hj, e => by
    rw [List.map_cons, List.nodup_cons] at nd
    match i, j, hi, hj with
    | 0, 0, _, _ => rfl
    | 0, j + 1, hi, hj =>
      injection hi with hi
      exact (nd.1 (by rw [hi, e]; exact List.mem_map.mpr ⟨y, List.mem_of_getElem? hj, rfl⟩)).elim
    | i + 1, 0, hi, hj =>
      injection hj with hj
      exact (nd.1 (by rw [hj, ← e]; exact List.mem_map.mpr ⟨x, List.mem_of_getElem? hi, rfl⟩)).elim
    | i + 1, j + 1, hi, hj => exact congrArg (· + 1) (nodup_get nd.2 hi hj e)
theorem Fr.set (F : Fr H p c m ls) (i : Nat) {a : Addr} {xs : List V} (h : ls[i]? = some (a, xs)) (ys : List V) : Fr (upd H a (.lst ys)) p c m (ls.set i (a, ys)) := by
  have lt := (List.getElem?_eq_some_iff.mp h).1
  have fa := F.at_ (a, xs) (List.mem_of_getElem? h)
  refine ⟨F.pen.upd fa.2.1 fa.2.2, fun q hq => ?_, ?_⟩
  · obtain ⟨j, lj, ej⟩ := List.mem_iff_getElem.mp hq
    rw [List.getElem_set] at ej
    by_cases ij : i = j
    · rw [if_pos ij] at ej
      subst ej
      exact ⟨upd_same, fa.2⟩
    · rw [if_neg ij] at ej
      rw [List.length_set] at lj
      have gj : ls[j]? = some q := by rw [← ej]; exact List.getElem?_eq_getElem lj
      have fq := F.at_ q (List.mem_of_getElem? gj)
      refine ⟨?_, fq.2⟩
      rw [upd_ne fun e => ij (nodup_get F.nd h gj e.symm)]
      exact fq.1
  · have : (ls.set i (a, ys)).map (·.1) = ls.map (·.1) := by
      rw [List.map_set]
      refine List.ext_getElem? fun j => ?_
      rw [List.getElem?_set]
      by_cases ij : i = j
      · subst ij
        rw [if_pos rfl, List.length_map, if_pos lt, List.getElem?_map, h]
        rfl
      · rw [if_neg ij]
    rw [this]
    exact F.nd
end
/-! ### what the lists hold -/
structure Sem (K : PySem.W.Frag) (H : Hp) (A : List Md) (avs : List V) (its : List Item) (E : List EnE) (ivs rows : List V) (es : List (Ex × Nat)) : Prop where
  aa : All2 (fun v m => Dp K H v (mdD m)) avs A
  ia : All2 (fun v it => Dp K H v (itD it)) ivs its
  na : All2 (NmR K H (GmE E) 5 2) rows es
  kn : ∀ q ∈ es, (∃ l, q.1 = .lf l) ∨ ∃ m x, q.1 = .op (.read m) [x]
  laid : Laid A its E
  lay : ∀ it ∈ its, (itD it).canLay0 = true ∧ (itD it).depth ≤ 20
  ok : NamesOk (GmE E)
section
variable {K : PySem.W.Frag} {H H' : Hp} {A : List Md} {avs : List V} {its : List Item} {E F : List EnE} {ivs rows : List V} {es : List (Ex × Nat)}
theorem Sem.firm (f : Firm H H') (h : Sem K H A avs its E ivs rows es) : Sem K H' A avs its E ivs rows es :=
  ⟨h.aa.imp fun _ m x => dp_firm f (md_noL m) x, h.ia.imp fun _ it x => dp_firm f (it_noL it) x, h.na.imp fun _ _ x => x.firm f, h.kn, h.laid, h.lay, h.ok⟩
theorem Sem.item {v : V} {it : Item} (h : Sem K H A avs its E ivs rows es) (hv : Dp K H v (itD it)) (l : Laid A (its ++ [it]) (E ++ F)) (y : (itD it).canLay0 = true ∧ (itD it).depth ≤ 20) (ok : NamesOk (GmE (E ++ F))) : Sem K H A avs (its ++ [it]) (E ++ F) (ivs ++ [v]) rows es := by
  refine ⟨h.aa, h.ia.append (.cons hv .nil), h.na.imp fun _ _ x => NmR.mono (gm_le E F) x, h.kn, l, fun z hz => ?_, ok⟩
  rcases List.mem_append.mp hz with g | g
  · exact h.lay z g
  · rw [List.mem_singleton.mp g]
    exact y
theorem Sem.row {y : V} {q : Ex × Nat} (h : Sem K H A avs its E ivs rows es) (hy : NmR K H (GmE E) 5 2 y q) (k : (∃ l, q.1 = .lf l) ∨ ∃ m x, q.1 = .op (.read m) [x]) : Sem K H A avs its E ivs (rows ++ [y]) (es ++ [q]) := by
  refine ⟨h.aa, h.ia, h.na.append (.cons hy .nil), fun z hz => ?_, h.laid, h.lay, h.ok⟩
  rcases List.mem_append.mp hz with g | g
  · exact h.kn z g
  · rw [List.mem_singleton.mp g]
    exact k
theorem ok_nil : NamesOk (GmE []) := ⟨fun _ _ h => (by cases h), fun _ _ _ h => (by cases h), fun _ _ h => (by cases h)⟩
theorem or_some {α : Type} {a b : Option α} {x : α} (h : a.or b = some x) : a = some x ∨ b = some x := by
  cases a with
  | none => exact .inr h
  | some y => exact .inl h
theorem ok_nm {n : Str} {w : Nat} (h : NamesOk (GmE E)) (l : (PyData.str n).canLay0 = true) : NamesOk (GmE (E ++ [.nm n w])) := by
  refine ⟨fun x u e => ?_, fun y x u e => ?_, fun x u e => ?_⟩
  · have e : nmOf (E ++ [.nm n w]) x = some u := e
    rw [nm_app] at e
    rcases or_some e with e | e
    · exact h.nm x u e
    · have e : (if n = x then some w else none) = some u := e
      by_cases z : n = x
      · rw [← z]
        exact l
      · rw [if_neg z] at e
        cases e
  · have e : ptOf (E ++ [.nm n w]) y x = some u := e
    rw [pt_app] at e
    rcases or_some e with e | e
    · exact h.pt y x u e
    · cases e
  · have e : mmOf (E ++ [.nm n w]) x = some u := e
    rw [mm_app] at e
    rcases or_some e with e | e
    · exact h.mm x u e
    · cases e
theorem ok_mm {n : Str} {w b : Nat} (h : NamesOk (GmE E)) (l : (PyData.str n).canLay0 = true) : NamesOk (GmE (E ++ [.mm n w b])) := by
  refine ⟨fun x u e => ?_, fun y x u e => ?_, fun x u e => ?_⟩
  · have e : nmOf (E ++ [.mm n w b]) x = some u := e
    rw [nm_app] at e
    rcases or_some e with e | e
    · exact h.nm x u e
    · cases e
  · have e : ptOf (E ++ [.mm n w b]) y x = some u := e
    rw [pt_app] at e
    rcases or_some e with e | e
    · exact h.pt y x u e
    · cases e
  · have e : mmOf (E ++ [.mm n w b]) x = some u := e
    rw [mm_app] at e
    rcases or_some e with e | e
    · exact h.mm x u e
    · have e : (if n = x then some (w, b) else none) = some u := e
      by_cases z : n = x
      · rw [← z]
        exact l
      · rw [if_neg z] at e
        cases e
theorem ok_ports {u : Str} {os : List (Str × Nat)} (h : NamesOk (GmE E)) (l : (PyData.str u).canLay0 = true) (lo : ∀ q ∈ os, (PyData.str q.1).canLay0 = true) : NamesOk (GmE (E ++ ports u os)) := by
  have key : ∀ os : List (Str × Nat), (∀ q ∈ os, (PyData.str q.1).canLay0 = true) → (∀ x, nmOf (ports u os) x = none) ∧ (∀ x, mmOf (ports u os) x = none) ∧ ∀ y x w, ptOf (ports u os) y x = some w → (PyData.str y).canLay0 = true ∧ (PyData.str x).canLay0 = true := by
    intro os
    induction os with
    | nil => exact fun _ => ⟨fun _ => rfl, fun _ => rfl, fun _ _ _ h => by cases h⟩
    | cons q os ih =>
      intro lo
      obtain ⟨a, b, c⟩ := ih fun z hz => lo z (List.mem_cons_of_mem _ hz)
      refine ⟨a, b, fun y x w e => ?_⟩
      have e : (if u = y ∧ q.1 = x then some q.2 else ptOf (ports u os) y x) = some w := e
      by_cases z : u = y ∧ q.1 = x
      · rw [← z.1, ← z.2]
        exact ⟨l, lo q List.mem_cons_self⟩
      · rw [if_neg z] at e
        exact c y x w e
  obtain ⟨a, b, c⟩ := key os lo
  refine ⟨fun x w e => ?_, fun y x w e => ?_, fun x w e => ?_⟩
  · have e : nmOf (E ++ ports u os) x = some w := e
    rw [nm_app] at e
    rcases or_some e with e | e
    · exact h.nm x w e
    · rw [a] at e
      cases e
  · have e : ptOf (E ++ ports u os) y x = some w := e
    rw [pt_app] at e
    rcases or_some e with e | e
    · exact h.pt y x w e
    · exact c y x w e
  · have e : mmOf (E ++ ports u os) x = some w := e
    rw [mm_app] at e
    rcases or_some e with e | e
    · exact h.mm x w e
    · rw [b] at e
      cases e
theorem nmc_lay : ∀ c ∈ (["i", "r", "m", "u", "w", "a", "b", "c"] : List Str), ∀ i : Nat, i < 4 → (PyData.str (nmc c i)).canLay0 = true := by decide +kernel
/-- a name's row in the list -/
theorem nm_row {n : Str} {w : Nat} {t tq : Addr} (ok : NamesOk (GmE E)) (hn : nmOf E n = some w) (hw : w ≤ 8) (ht : SqT K H t [.ref tq, .int (w : Nat)]) (hq : SqT K H tq [.str "name", .str n]) : NmR K H (GmE E) 5 2 (.ref t) (.lf (.nam n), w) := by
  refine ⟨t, .ref tq, rfl, ht, ?_, nm_of ok (.nam n w (by omega) hn) (by rw [exZ_lf]; omega) (by rw [exH_lf]; omega) (by omega)⟩
  unfold ExAt exD
  exact .tup hq (.cons (.str _) (.cons (.str _) .nil))
theorem nm_new {n : Str} {w : Nat} (h : n ∉ nmN E) : nmOf (E ++ [.nm n w]) n = some w := by
  rw [nm_app, nm_none h]
  show (if n = n then some w else none) = _
  rw [if_pos rfl]
theorem mm_new {n : Str} {w b : Nat} (h : n ∉ mmN E) : mmOf (E ++ [.mm n w b]) n = some (w, b) := by
  rw [mm_app, mm_none h]
  show (if n = n then some (w, b) else none) = _
  rw [if_pos rfl]
end
end Xn
namespace Xd
open PySem PySem.Spec PyProof.Rows L2 Pen Dat Ki Fi Ep Eq Es Ev Xm Xn
/-! ## A drawn write -/
def spDW (K : PySem.W.Frag) : Sp := fun vs H Q _ => ∃ (Γ : Gam) (p c nl tm : Addr) (m w b : Nat) (n : Str) (rows : List V) (es : List (Ex × Nat)), vs = [.ref p, .ref tm, .ref nl] ∧ SqT K H tm [.str n, .int (w : Nat), .int (b : Nat)] ∧ PenC H p c m ∧ m ≤ 1000000000 ∧ nl ≠ p ∧ H nl = some (.lst rows) ∧ rows.length ≤ 1000 ∧ All2 (NmR K H Γ 5 2) rows es ∧ 1 ≤ w ∧ w ≤ 8 ∧ 1 ≤ b ∧ b ≤ 8 ∧
  ∀ (H' : Hp) (v : V) (a e1 e2 : Ex), PenC H' p c (m + 61) → But p H H' → Dp K H' v (itD (.wri n a e1 e2)) → Wt Γ a 1 → Wt Γ e1 b → Wt Γ e2 w → exH a ≤ 3 → exH e1 ≤ 3 → exH e2 ≤ 3 → Q v H'
section
variable {P : Program} {w : World} {K : PySem.W.Frag} {mg : Str → Option Value} {base : Heap} {f : Addr} {fd : FuncData}
abbrev nDW : List Str := ["_law_pen_here", "_law_memory", "_law_names", "_law_when", "_law_where"]
theorem scDW : FnScope nDW ["_law_pen_here", "_law_memory", "_law_names"] (defScope sLDrawnWrite) := ⟨rfl, rfl, rfl, by decide +kernel, rfl, by decide +kernel, by decide +kernel⟩
theorem ok_dw (F : FnP K "_law_drawn_write" sLDrawnWrite f fd)
    {fDE fDR : Addr} {dDE dDR : FuncData}
    (GDE : FnOk P w K mg base CX0 4 fDE dDE ["_law_pen_here", "_law_width", "_law_names", "_law_deep"] ((spDE K 1))) (gDE : mg "_law_drawn_expression" = some (.ref fDE)) (kDE : PySem.W.keepIn K (.ref fDE) = true) (bDE : Binds K dDE ["_law_pen_here", "_law_width", "_law_names", "_law_deep"] [])
    (GDR : FnOk P w K mg base CX0 1 fDR dDR ["_law_pen_here", "_law_many"] (spDraw)) (gDR : mg "_law_draw" = some (.ref fDR)) (kDR : PySem.W.keepIn K (.ref fDR) = true) (bDR : Binds K dDR ["_law_pen_here", "_law_many"] [])
    : FnOk P w K mg base CX0 5 f fd ["_law_pen_here", "_law_memory", "_law_names"] (spDW K) := by
  refine F.ok scDW (fun vs H Q E h => ?_) (fun cdv A outer s H vs Q E hr h => ?_)
  · obtain ⟨Γ, p, c, nl, tm, m, wd, b, n, rows, es, rfl, _⟩ := h
    rfl
  · obtain ⟨Γ, p, c, nl, tm, m, wd, b, n, rows, es, rfl, htm, hP, hm, np, hN, rl, aN, w1, w8, b1, b8, q⟩ := h
    refine ⟨_, PSs.nox (pss_cons (ps_set (i := 3) scDW.nd rfl (Or.inl rfl) (pe_call GDE (hr.mono (by decide)) (by rfl) gDE kDE bDE .nil pass0 (pa_cons (pv 0) (pa_cons pe_int (pa_cons (pv 2) (pa_cons pe_int pa_nil))))))
      (C8.pss_cut (ps_if (pt_cmpR op_gt (pe_call GDR (hr.mono (by decide)) (by rfl) gDR kDR bDR .nil pass0 (pa_cons (pv 0) (pa_cons pe_int pa_nil))) pe_int (nomark _))
        (pss_one (ps_set (i := 3) scDW.nd rfl (Or.inl rfl) (pe_tup (pa_cons pe_str (pa_cons pe_int (pa_cons pe_int pa_nil))))))
        pss_nil)
      (pss_cons (ps_set (i := 4) scDW.nd rfl (Or.inl rfl) (pe_call GDE (hr.mono (by decide)) (by rfl) gDE kDE bDE .nil pass0 (pa_cons (pv 0) (pa_cons (pe_ix (r := L2.rIxT K) (by exact ix_tup) (pv 1) pe_int (fun _ _ => rfl)) (pa_cons (pv 2) (pa_cons pe_int pa_nil))))))
      (pss_one (ps_ret (pe_tup (pa_cons pe_str (pa_cons (pe_ix (r := L2.rIxT K) (by exact ix_tup) (pv 1) pe_int (fun _ _ => rfl)) (pa_cons (pv 3) (pa_cons (pv 4) (pa_cons (pe_call GDE (hr.mono (by decide)) (by rfl) gDE kDE bDE .nil pass0 (pa_cons (pv 0) (pa_cons (pe_ix (r := L2.rIxT K) (by exact ix_tup) (pv 1) pe_int (fun _ _ => rfl)) (pa_cons (pv 2) (pa_cons pe_int pa_nil))))) pa_nil))))))))))), ?_⟩
    refine ⟨_, rfl, _, rfl, Γ, 5, 2, p, c, nl, m, 1, rows, es, rfl, hP, by omega, np, hN, rl, aN, by omega, by omega, by omega, fun H1 v1 e1 P1 B1 x1 t1 z1 h1 => ?_⟩
    refine ⟨fun σ H' => ∃ (v : V) (a : Ex), σ = [some (.ref p), some (.ref tm), some (.ref nl), some v, none] ∧ PenC H' p c (m + 21) ∧ But p H H' ∧ ExAt K H' v a ∧ Wt Γ a 1 ∧ exH a ≤ 3, ?_, ?_⟩
    · refine ⟨_, rfl, p, c, _, 3, rfl, P1, by omega, by decide, by decide, fun r H2 r0 r1 P2 B2 => ⟨_, _, rfl, rfl, _, rfl, ?_⟩⟩
      by_cases hr0 : 0 < r
      · refine goT (decide_eq_true hr0) ⟨(by show 3 ≤ sizeLine; decide), fun t nt => ?_⟩
        have sn := same_new (u := .tup [.str "number", .int 1, .int 1]) nt
        refine ⟨.ref t, .lf (.num 1 1), rfl, P2.same sn, (B1.trans B2).trans (But.of_same sn), ?_, .num 1 1 (by decide) (by decide) (by decide), by rw [exH_lf]; omega⟩
        unfold ExAt exD
        exact .tup (SqT.of upd_same) (.cons (.str _) (.cons (.int _) (.cons (.int _) .nil)))
      · exact goF (decide_eq_false hr0) ⟨v1, e1, rfl, P2, B1.trans B2, x1.firm (Firm.pen B2 P1), t1, h1⟩
    clear x1 t1 z1 h1 B1 P1
    rintro σ H2 ⟨v, a, rfl, P2, B2, xa, ta, ha⟩
    have f2 := Firm.pen B2 hP
    have htm2 := firm_seq f2 htm
    have hN2 := B2 _ _ hN np
    have aN2 := aN.imp fun _ _ x => NmR.firm f2 x
    refine ⟨_, rfl, _, rfl, tm, _, 2, _, rfl, rfl, htm2, at_of (j := 2) rfl rfl, _, rfl, Γ, 5, 2, p, c, nl, _, b, rows, es, rfl, P2, by omega, np, hN2, rl, aN2, by omega, by omega, by omega, fun H3 v3 e3 P3 B3 x3 t3 z3 h3 => ?_⟩
    have f3 := Firm.pen B3 P2
    have htm3 := firm_seq f3 htm2
    have hN3 := B3 _ _ hN2 np
    have aN3 := aN2.imp fun _ _ x => NmR.firm f3 x
    refine ⟨_, rfl, tm, _, 0, _, rfl, rfl, htm3, at_of (j := 0) rfl rfl, _, rfl, _, rfl, _, rfl, _, rfl, tm, _, 1, _, rfl, rfl, htm3, at_of (j := 1) rfl rfl, _, rfl, Γ, 5, 2, p, c, nl, _, wd, rows, es, rfl, P3, by omega, np, hN3, rl, aN3, by omega, by omega, by omega, fun H4 v4 e4 P4 B4 x4 t4 z4 h4 => ⟨(by show 5 ≤ sizeLine; decide), fun t nt => ?_⟩⟩
    have f4 := Firm.pen B4 P3
    have sn := same_new (u := .tup [.str "write", .str n, v, v3, v4]) nt
    have fn := Firm.of sn
    refine q _ (.ref t) a e3 e4 (P4.same sn) (((B2.trans B3).trans B4).trans (But.of_same sn)) ?_ ta t3 t4 ha (by omega) (by omega)
    exact .tup (SqT.of upd_same) (.cons (.str _) (.cons (.str _) (.cons (xa.firm ((f3.trans f4).trans fn)) (.cons (x3.firm (f4.trans fn)) (.cons (x4.firm fn) .nil)))))
end
end Xd
namespace Xw
open PySem PySem.Spec PyProof.Rows L2 Pen Dat Ki Fi Ep Eq Es Ev Xm Xn Xd
/-! ## A drawn module -/
theorem none_back {H H' : Hp} (s : Same H H') {a : Addr} (n : H' a = none) : H a = none := by
  cases e : H a with
  | none => rfl
  | some o =>
    rw [s _ _ e] at n
    cases n
section
variable {K : PySem.W.Frag} {H H0 : Hp} {p c : Addr} {m : Nat} {ls : List (Addr × List V)} {A : List Md} {avs : List V} {its : List Item} {E G : List EnE} {ivs rows : List V} {es : List (Ex × Nat)}
theorem but_push {H' : Hp} (B : But p H0 H) {a : Addr} (n0 : H0 a = none) (s : Same H H') (o : HO) : But p H0 (upd H' a o) := fun b u e nb => by
  rw [upd_ne (ne_of_none e n0)]
  exact s _ _ (B b u e nb)
/-- a new item -/
theorem put_item (F : Fr H p c m ls) (i : Nat) {li : Addr} (hi : ls[i]? = some (li, ivs)) (S : Sem K H A avs its E ivs rows es) (B : But p H0 H) (n0 : H0 li = none) {t : Addr} (nt : H t = none) {xs : List V} {it : Item}
    (hx : ∀ H', Firm H H' → H' t = some (.tup xs) → Dp K H' (.ref t) (itD it)) (l : Laid A (its ++ [it]) (E ++ G)) (y : (itD it).canLay0 = true ∧ (itD it).depth ≤ 20) (ok : NamesOk (GmE (E ++ G))) :
    Fr (upd (upd H t (.tup xs)) li (.lst (ivs ++ [.ref t]))) p c m (ls.set i (li, ivs ++ [.ref t])) ∧ But p H0 (upd (upd H t (.tup xs)) li (.lst (ivs ++ [.ref t]))) ∧ Sem K (upd (upd H t (.tup xs)) li (.lst (ivs ++ [.ref t]))) A avs (its ++ [it]) (E ++ G) (ivs ++ [.ref t]) rows es ∧
      Firm H (upd (upd H t (.tup xs)) li (.lst (ivs ++ [.ref t]))) := by
  have s1 := same_new (u := .tup xs) nt
  have F1 := F.same s1
  have f2 := Firm.upd (o := .lst (ivs ++ [.ref t])) (F1.get i hi) rfl
  have f := (Firm.of s1).trans f2
  refine ⟨F1.set i hi _, but_push B n0 s1 _, (S.firm f).item (hx _ f (f2 _ _ upd_same rfl)) l y ok, f⟩
/-- an item told by a call -/
theorem put_item1 (F : Fr H p c m ls) (i : Nat) {li : Addr} (hi : ls[i]? = some (li, ivs)) (S : Sem K H A avs its E ivs rows es) (B : But p H0 H) (n0 : H0 li = none) {v : V} {it : Item}
    (hx : Dp K H v (itD it)) (l : Laid A (its ++ [it]) (E ++ G)) (y : (itD it).canLay0 = true ∧ (itD it).depth ≤ 20) (ok : NamesOk (GmE (E ++ G))) :
    Fr (upd H li (.lst (ivs ++ [v]))) p c m (ls.set i (li, ivs ++ [v])) ∧ But p H0 (upd H li (.lst (ivs ++ [v]))) ∧ Sem K (upd H li (.lst (ivs ++ [v]))) A avs (its ++ [it]) (E ++ G) (ivs ++ [v]) rows es ∧ Firm H (upd H li (.lst (ivs ++ [v]))) := by
  have f := Firm.upd (o := .lst (ivs ++ [v])) (F.get i hi) rfl
  exact ⟨F.set i hi _, but_push B n0 (fun _ _ e => e) _, (S.firm f).item (dp_firm f (it_noL it) hx) l y ok, f⟩
/-- a new row of the list of names -/
theorem put_row (F : Fr H p c m ls) (i : Nat) {ln : Addr} (hi : ls[i]? = some (ln, rows)) (S : Sem K H A avs its E ivs rows es) (B : But p H0 H) (n0 : H0 ln = none) {tq tr : Addr} {xs : List V} {w : Nat} {e : Ex} (nq : H tq = none) (nr : upd H tq (.tup xs) tr = none)
    (hx : ∀ H', Firm H H' → H' tq = some (.tup xs) → ExAt K H' (.ref tq) e) (ne : NmE (GmE E) 5 2 e w) (k : (∃ l, e = .lf l) ∨ ∃ m x, e = .op (.read m) [x]) :
    Fr (upd (upd (upd H tq (.tup xs)) tr (.tup [.ref tq, .int (w : Nat)])) ln (.lst (rows ++ [.ref tr]))) p c m (ls.set i (ln, rows ++ [.ref tr])) ∧ But p H0 (upd (upd (upd H tq (.tup xs)) tr (.tup [.ref tq, .int (w : Nat)])) ln (.lst (rows ++ [.ref tr]))) ∧
      Sem K (upd (upd (upd H tq (.tup xs)) tr (.tup [.ref tq, .int (w : Nat)])) ln (.lst (rows ++ [.ref tr]))) A avs its E ivs (rows ++ [.ref tr]) (es ++ [(e, w)]) ∧ Firm H (upd (upd (upd H tq (.tup xs)) tr (.tup [.ref tq, .int (w : Nat)])) ln (.lst (rows ++ [.ref tr]))) := by
  have s1 := same_new (u := .tup xs) nq
  have s2 := same_new (u := .tup [.ref tq, .int (w : Nat)]) nr
  have s := s1.trans s2
  have F1 := F.same s
  have f2 := Firm.upd (o := .lst (rows ++ [.ref tr])) (F1.get i hi) rfl
  have f := (Firm.of s).trans f2
  refine ⟨F1.set i hi _, but_push B n0 s _, (S.firm f).row ⟨tr, .ref tq, rfl, SqT.of (f2 _ _ upd_same rfl), hx _ f (f2 _ _ (s2 _ _ upd_same) rfl), ne⟩ k, f⟩
end
theorem nm_ne {Γ : Gam} {n : Str} {w : Nat} (ok : NamesOk Γ) (h : Γ.nm n = some w) (hw : w ≤ 8) : NmE Γ 5 2 (.lf (.nam n)) w := nm_of ok (.nam n w (by omega) h) (by rw [exZ_lf]; omega) (by rw [exH_lf]; omega) (by omega)
theorem at_nm {K : PySem.W.Frag} {H : Hp} {t : Addr} {n : Str} (h : H t = some (.tup [.str "name", .str n])) : ExAt K H (.ref t) (.lf (.nam n)) := by
  unfold ExAt exD
  exact .tup (SqT.of h) (.cons (.str _) (.cons (.str _) .nil))
theorem lay_s {k : Str} (hk : k ∈ (["input", "reg", "memory", "use", "wire", "output", "next", "write"] : List Str)) : (PyData.str k).canLay0 = true := by
  have t : ∀ k ∈ (["input", "reg", "memory", "use", "wire", "output", "next", "write"] : List Str), (PyData.str k).canLay0 = true := by decide +kernel
  exact t k hk
theorem lay_inp {n : Str} {w : Nat} (h : (PyData.str n).canLay0 = true) : (itD (.inp n w)).canLay0 = true ∧ (itD (.inp n w)).depth ≤ 20 := ⟨lay_cons (lay_s (by simp)) (lay_cons h rfl), by show 0 + 1 ≤ 20; decide⟩
theorem lay_reg {n : Str} {w r : Nat} (h : (PyData.str n).canLay0 = true) : (itD (.reg n w r)).canLay0 = true ∧ (itD (.reg n w r)).depth ≤ 20 := ⟨lay_cons (lay_s (by simp)) (lay_cons h rfl), by show 0 + 1 ≤ 20; decide⟩
theorem lay_mem {n : Str} {w b : Nat} (h : (PyData.str n).canLay0 = true) : (itD (.mem n w b)).canLay0 = true ∧ (itD (.mem n w b)).depth ≤ 20 := ⟨lay_cons (lay_s (by simp)) (lay_cons h rfl), by show 0 + 1 ≤ 20; decide⟩
/-- the names that are taken: inputs, registers, wires -/
def taken (a b d : Nat) : List Str := (List.range a).map (nmc "i") ++ (List.range b).map (nmc "r") ++ (List.range d).map (nmc "w")
theorem new_i : ∀ a : Nat, a < 3 → nmc "i" a ∉ taken a 0 0 := by decide +kernel
theorem new_r : ∀ a : Nat, a < 3 → ∀ b : Nat, b < 3 → nmc "r" b ∉ taken a b 0 := by decide +kernel
theorem new_w : ∀ a : Nat, a < 3 → ∀ b : Nat, b < 3 → ∀ d : Nat, d < 3 → nmc "w" d ∉ taken a b d := by decide +kernel
theorem new_y : ∀ a : Nat, a < 3 → ∀ b : Nat, b < 3 → ∀ d : Nat, d < 3 → ("y" : Str) ∉ taken a b d := by decide +kernel
theorem new_m : ∀ a : Nat, a < 3 → nmc "m" a ∉ (List.range a).map (nmc "m") := by decide +kernel
theorem new_u : ∀ a : Nat, a < 3 → ∀ b : Nat, b < a → nmc "u" a ≠ nmc "u" b := by decide +kernel
theorem taken_i (a : Nat) : taken a 0 0 ++ [nmc "i" a] = taken (a + 1) 0 0 := by
  unfold taken
  rw [List.range_succ, List.map_append]
  simp
theorem taken_r (a b : Nat) : taken a b 0 ++ [nmc "r" b] = taken a (b + 1) 0 := by
  unfold taken
  rw [List.range_succ (n := b), List.map_append]
  simp
theorem taken_w (a b d : Nat) : taken a b d ++ [nmc "w" d] = taken a b (d + 1) := by
  unfold taken
  rw [List.range_succ (n := d), List.map_append]
  simp
def rTupOf (K : PySem.W.Frag) : List V → Hp → VK → Prop := fun xs H Q => ∃ p ys, xs = [V.ref p] ∧ ((SqL K H p ys ∧ ∀ t, H t = none → Q (.ref t) (upd H t (.tup ys))) ∨ (SqT K H p ys ∧ Q (.ref p) H))
/-! ### the registers and memories, as the law keeps them -/
structure RgOk (K : PySem.W.Frag) (H : Hp) (E : List EnE) (rgs : List V) (rq : List (Str × Nat)) : Prop where
  at_ : All2 (fun v q => ∃ t, v = V.ref t ∧ SqT K H t [.str q.1, .int (q.2 : Nat)]) rgs rq
  ok : ∀ q ∈ rq, nmOf E q.1 = some q.2 ∧ 1 ≤ q.2 ∧ q.2 ≤ 8 ∧ (PyData.str q.1).canLay0 = true
structure MeOk (K : PySem.W.Frag) (H : Hp) (E : List EnE) (mes : List V) (mq : List (Str × Nat × Nat)) : Prop where
  at_ : All2 (fun v q => ∃ t, v = V.ref t ∧ SqT K H t [.str q.1, .int (q.2.1 : Nat), .int (q.2.2 : Nat)]) mes mq
  ok : ∀ q ∈ mq, mmOf E q.1 = some q.2 ∧ 1 ≤ q.2.1 ∧ q.2.1 ≤ 8 ∧ 1 ≤ q.2.2 ∧ q.2.2 ≤ 3 ∧ (PyData.str q.1).canLay0 = true
section
variable {K : PySem.W.Frag} {H H' : Hp} {E G : List EnE} {rgs mes : List V} {rq : List (Str × Nat)} {mq : List (Str × Nat × Nat)}
theorem RgOk.firm (f : Firm H H') (h : RgOk K H E rgs rq) : RgOk K H' E rgs rq := ⟨h.at_.imp fun _ _ ⟨t, e, s⟩ => ⟨t, e, firm_seq f s⟩, h.ok⟩
theorem MeOk.firm (f : Firm H H') (h : MeOk K H E mes mq) : MeOk K H' E mes mq := ⟨h.at_.imp fun _ _ ⟨t, e, s⟩ => ⟨t, e, firm_seq f s⟩, h.ok⟩
theorem RgOk.ext (h : RgOk K H E rgs rq) (G : List EnE) : RgOk K H (E ++ G) rgs rq := ⟨h.at_, fun q hq => ⟨(gm_le E G).nm _ _ (h.ok q hq).1, (h.ok q hq).2⟩⟩
theorem MeOk.ext (h : MeOk K H E mes mq) (G : List EnE) : MeOk K H (E ++ G) mes mq := ⟨h.at_, fun q hq => ⟨(gm_le E G).mm _ _ (h.ok q hq).1, (h.ok q hq).2⟩⟩
theorem RgOk.nil : RgOk K H E [] [] := ⟨.nil, fun _ h => by cases h⟩
theorem MeOk.nil : MeOk K H E [] [] := ⟨.nil, fun _ h => by cases h⟩
theorem RgOk.push {t : Addr} {q : Str × Nat} (h : RgOk K H E rgs rq) (ht : SqT K H t [.str q.1, .int (q.2 : Nat)]) (k : nmOf E q.1 = some q.2 ∧ 1 ≤ q.2 ∧ q.2 ≤ 8 ∧ (PyData.str q.1).canLay0 = true) : RgOk K H E (rgs ++ [.ref t]) (rq ++ [q]) := by
  refine ⟨h.at_.append (.cons ⟨t, rfl, ht⟩ .nil), fun z hz => ?_⟩
  rcases List.mem_append.mp hz with g | g
  · exact h.ok z g
  · rw [List.mem_singleton.mp g]
    exact k
theorem MeOk.push {t : Addr} {q : Str × Nat × Nat} (h : MeOk K H E mes mq) (ht : SqT K H t [.str q.1, .int (q.2.1 : Nat), .int (q.2.2 : Nat)]) (k : mmOf E q.1 = some q.2 ∧ 1 ≤ q.2.1 ∧ q.2.1 ≤ 8 ∧ 1 ≤ q.2.2 ∧ q.2.2 ≤ 3 ∧ (PyData.str q.1).canLay0 = true) : MeOk K H E (mes ++ [.ref t]) (mq ++ [q]) := by
  refine ⟨h.at_.append (.cons ⟨t, rfl, ht⟩ .nil), fun z hz => ?_⟩
  rcases List.mem_append.mp hz with g | g
  · exact h.ok z g
  · rw [List.mem_singleton.mp g]
    exact k
end
theorem ins_snoc : ∀ (a : List Item) (it : Item), insOf (a ++ [it]) = insOf a ++ insOf [it]
  | [], _ => rfl
  | .inp n w :: r, it => congrArg ((n, w) :: ·) (ins_snoc r it)
  | .reg _ _ _ :: r, it => ins_snoc r it
  | .mem _ _ _ :: r, it => ins_snoc r it
  | .use _ _ _ :: r, it => ins_snoc r it
  | .sig _ _ _ _ :: r, it => ins_snoc r it
  | .nxt _ _ :: r, it => ins_snoc r it
  | .wri _ _ _ _ :: r, it => ins_snoc r it
theorem taken_ne (a b d : Nat) : taken (1 + a) b d ≠ [] := fun z => by
  have l := congrArg List.length z
  unfold taken at l
  rw [List.length_append, List.length_append, List.length_map, List.length_range] at l
  have : ([] : List Str).length = 0 := rfl
  omega
theorem put_ins {ns ns' : List Str} {its : List Item} {it : Item} {G : List EnE} (g : ns = [] ∨ insOf its ≠ []) (e1 : ns ++ nmN G = ns') (e0 : ns = [] → nmN G = [] ∨ insOf [it] ≠ []) : ns' = [] ∨ insOf (its ++ [it]) ≠ [] := by
  rw [ins_snoc]
  rcases g with g | g
  · rcases e0 g with k | k
    · exact .inl (by rw [← e1, g, k]; rfl)
    · exact .inr fun z => k (List.append_eq_nil_iff.mp z).2
  · exact .inr fun z => g (List.append_eq_nil_iff.mp z).1
/-- what stands at each time -/
structure Ws (K : PySem.W.Frag) (H0 H : Hp) (p c : Addr) (m : Nat) (ls : List (Addr × List V)) (A : List Md) (avs : List V) (its : List Item) (E : List EnE) (ivs rows : List V) (es : List (Ex × Nat)) (ns ms us : List Str) (L : Nat) : Prop where
  fr : Fr H p c m ls
  bu : But p H0 H
  se : Sem K H A avs its E ivs rows es
  n1 : nmN E = ns
  n2 : mmN E = ms
  n3 : ∀ y ∈ ptN E, y ∈ us
  l1 : ivs.length ≤ L
  l2 : rows.length ≤ L
  gi : ns = [] ∨ insOf its ≠ []
section
variable {K : PySem.W.Frag} {H0 H H' : Hp} {p c : Addr} {m m' : Nat} {ls : List (Addr × List V)} {A : List Md} {avs : List V} {its : List Item} {E : List EnE} {ivs rows : List V} {es : List (Ex × Nat)} {ns ms us : List Str} {L L' : Nat}
theorem Ws.draw (W : Ws K H0 H p c m ls A avs its E ivs rows es ns ms us L) (P : PenC H' p c m') (B : But p H H') : Ws K H0 H' p c m' ls A avs its E ivs rows es ns ms us L :=
  ⟨W.fr.but P B, W.bu.trans B, W.se.firm (Firm.pen B W.fr.pen), W.n1, W.n2, W.n3, W.l1, W.l2, W.gi⟩
theorem Ws.same (W : Ws K H0 H p c m ls A avs its E ivs rows es ns ms us L) (s : Same H H') : Ws K H0 H' p c m ls A avs its E ivs rows es ns ms us L :=
  ⟨W.fr.same s, W.bu.trans (But.of_same s), W.se.firm (Firm.of s), W.n1, W.n2, W.n3, W.l1, W.l2, W.gi⟩
theorem Ws.more (W : Ws K H0 H p c m ls A avs its E ivs rows es ns ms us L) (a : m ≤ m') (b : L ≤ L') : Ws K H0 H p c m' ls A avs its E ivs rows es ns ms us L' :=
  ⟨W.fr.more a, W.bu, W.se, W.n1, W.n2, W.n3, Nat.le_trans W.l1 b, Nat.le_trans W.l2 b, W.gi⟩
theorem Ws.new (W : Ws K H0 H p c m ls A avs its E ivs rows es ns ms us L) {a : Addr} (n : H a = none) (xs : List V) : Ws K H0 (upd H a (.lst xs)) p c m (ls ++ [(a, xs)]) A avs its E ivs rows es ns ms us L :=
  ⟨W.fr.new n xs, W.bu.trans (But.of_same (same_new n)), W.se.firm (Firm.of (same_new n)), W.n1, W.n2, W.n3, W.l1, W.l2, W.gi⟩
/-- a list of the law's own grows -/
theorem Ws.push (W : Ws K H0 H p c m ls A avs its E ivs rows es ns ms us L) (i : Nat) {a : Addr} {xs : List V} (hi : ls[i]? = some (a, xs)) (n0 : H0 a = none) (ys : List V) : Ws K H0 (upd H a (.lst ys)) p c m (ls.set i (a, ys)) A avs its E ivs rows es ns ms us L ∧ Firm H (upd H a (.lst ys)) := by
  have f := Firm.upd (o := .lst ys) (W.fr.get i hi) rfl
  exact ⟨⟨W.fr.set i hi ys, but_push W.bu n0 (fun _ _ e => e) _, W.se.firm f, W.n1, W.n2, W.n3, W.l1, W.l2, W.gi⟩, f⟩
end
section
variable {K : PySem.W.Frag} {H0 H : Hp} {p c : Addr} {m : Nat} {ls : List (Addr × List V)} {A : List Md} {avs : List V} {its : List Item} {E : List EnE} {ivs rows : List V} {es : List (Ex × Nat)} {ns ns' ms ms' us us' : List Str} {L : Nat}
theorem Ws.item (W : Ws K H0 H p c m ls A avs its E ivs rows es ns ms us L) (i : Nat) {li : Addr} (hi : ls[i]? = some (li, ivs)) (n0 : H0 li = none) {t : Addr} (nt : H t = none) (xs : List V) (it : Item) (G : List EnE)
    (hx : ∀ H', Firm H H' → H' t = some (.tup xs) → Dp K H' (.ref t) (itD it)) (l : Laid A (its ++ [it]) (E ++ G)) (y : (itD it).canLay0 = true ∧ (itD it).depth ≤ 20) (ok : NamesOk (GmE (E ++ G))) (e1 : ns ++ nmN G = ns') (e2 : ms ++ mmN G = ms') (e3 : ∀ y ∈ us ++ ptN G, y ∈ us') (e0 : ns = [] → nmN G = [] ∨ insOf [it] ≠ [] := by first | exact fun _ => .inr (List.cons_ne_nil _ _) | exact fun _ => .inl rfl | exact fun _ => .inl (nmN_ports _ _) | exact fun h => absurd h (taken_ne _ _ _)) :
    Ws K H0 (upd (upd H t (.tup xs)) li (.lst (ivs ++ [.ref t]))) p c m (ls.set i (li, ivs ++ [.ref t])) A avs (its ++ [it]) (E ++ G) (ivs ++ [.ref t]) rows es ns' ms' us' (L + 1) ∧ Firm H (upd (upd H t (.tup xs)) li (.lst (ivs ++ [.ref t]))) := by
  obtain ⟨a, b, d, f⟩ := put_item W.fr i hi W.se W.bu n0 nt hx l y ok
  refine ⟨⟨a, b, d, by rw [nmN_app, W.n1, e1], by rw [mmN_app, W.n2, e2], fun z hz => ?_, by rw [List.length_append]; exact Nat.add_le_add_right W.l1 1, Nat.le_succ_of_le W.l2, put_ins W.gi e1 e0⟩, f⟩
  rw [ptN_app] at hz
  rcases List.mem_append.mp hz with g | g
  · exact e3 z (List.mem_append.mpr (.inl (W.n3 z g)))
  · exact e3 z (List.mem_append.mpr (.inr g))
theorem Ws.item1 (W : Ws K H0 H p c m ls A avs its E ivs rows es ns ms us L) (i : Nat) {li : Addr} (hi : ls[i]? = some (li, ivs)) (n0 : H0 li = none) (v : V) (it : Item)
    (hx : Dp K H v (itD it)) (l : Laid A (its ++ [it]) E) (y : (itD it).canLay0 = true ∧ (itD it).depth ≤ 20) :
    Ws K H0 (upd H li (.lst (ivs ++ [v]))) p c m (ls.set i (li, ivs ++ [v])) A avs (its ++ [it]) E (ivs ++ [v]) rows es ns ms us (L + 1) ∧ Firm H (upd H li (.lst (ivs ++ [v]))) := by
  obtain ⟨a, b, d, f⟩ := put_item1 (G := []) W.fr i hi W.se W.bu n0 hx (by rw [List.append_nil]; exact l) y (by rw [List.append_nil]; exact W.se.ok)
  rw [List.append_nil] at d
  exact ⟨⟨a, b, d, W.n1, W.n2, W.n3, by rw [List.length_append]; exact Nat.add_le_add_right W.l1 1, Nat.le_succ_of_le W.l2, put_ins (G := []) W.gi (List.append_nil _) fun _ => .inl rfl⟩, f⟩
theorem Ws.row (W : Ws K H0 H p c m ls A avs its E ivs rows es ns ms us L) (i : Nat) {ln : Addr} (hi : ls[i]? = some (ln, rows)) (n0 : H0 ln = none) {tq tr : Addr} (xs : List V) (w : Nat) (e : Ex) (nq : H tq = none) (nr : upd H tq (.tup xs) tr = none)
    (hx : ∀ H', Firm H H' → H' tq = some (.tup xs) → ExAt K H' (.ref tq) e) (ne : NmE (GmE E) 5 2 e w) (k : (∃ l, e = .lf l) ∨ ∃ m x, e = .op (.read m) [x]) :
    Ws K H0 (upd (upd (upd H tq (.tup xs)) tr (.tup [.ref tq, .int (w : Nat)])) ln (.lst (rows ++ [.ref tr]))) p c m (ls.set i (ln, rows ++ [.ref tr])) A avs its E ivs (rows ++ [.ref tr]) (es ++ [(e, w)]) ns ms us (L + 1) ∧
      Firm H (upd (upd (upd H tq (.tup xs)) tr (.tup [.ref tq, .int (w : Nat)])) ln (.lst (rows ++ [.ref tr]))) := by
  obtain ⟨a, b, d, f⟩ := put_row W.fr i hi W.se W.bu n0 nq nr hx ne k
  exact ⟨⟨a, b, d, W.n1, W.n2, W.n3, Nat.le_succ_of_le W.l1, by rw [List.length_append]; exact Nat.add_le_add_right W.l2 1, W.gi⟩, f⟩
end
theorem at_heap (F : Hp → Prop) {H1 H2 : Hp} (e : H1 = H2) (h : F H1) : F H2 := e ▸ h
theorem but_none {H H' : Hp} {p c a : Addr} {m : Nat} (B : But p H H') (P : PenC H' p c m) (n : H' a = none) : H a = none := by
  cases e : H a with
  | none => rfl
  | some o =>
    rw [B _ _ e (P.free n).1] at n
    cases n
theorem p2lt : ∀ k : Nat, k ≤ 9 → (2 : Int) ^ k < 1073741824 := by decide
theorem one_two {w : Nat} {z : Nat} (h : (z : Int) < 2 ^ w) : z < 2 ^ w := by
  have e : ((2 ^ w : Nat) : Int) = 2 ^ w := by
    rw [Int.natCast_pow]
    rfl
  rw [← e] at h
  exact Int.ofNat_lt.mp h
/-- the rows that ask for no memory -/
theorem plain_leaf {Γ : Gam} {e : Ex} {w : Nat} {l : Lf} (h : NmE Γ 5 2 e w) (k : e = .lf l) : NmE Γ 1 0 e w := by
  subst k
  exact ⟨h.wt, by rw [exZ_lf]; exact Nat.le_refl _, by rw [exH_lf]; exact Nat.le_refl _, h.lay, h.dep⟩
theorem lf_tag {K : PySem.W.Frag} {H : Hp} {v : V} {l : Lf} (h : ExAt K H v (.lf l)) : ∃ t k xs, v = .ref t ∧ SqT K H t (.str k :: xs) ∧ ¬ k = "read" := by
  unfold ExAt exD at h
  cases l <;> (cases h with | tup hs h1 => cases h1 with | cons a h1 => cases a; exact ⟨_, _, _, rfl, hs, by decide⟩)
theorem rd_tag {K : PySem.W.Frag} {H : Hp} {v : V} {m : Str} {x : Ex} (h : ExAt K H v (.op (.read m) [x])) : ∃ t xs, v = .ref t ∧ SqT K H t (.str "read" :: xs) := by
  unfold ExAt exD at h
  cases h with
  | tup hs h1 =>
  cases h1 with
  | cons a h1 =>
  cases a
  exact ⟨_, _, rfl, hs⟩
section
variable {K : PySem.W.Frag} {H0 H : Hp} {p c : Addr} {m : Nat} {ls : List (Addr × List V)} {A : List Md} {avs : List V} {its : List Item} {E : List EnE} {ivs rows : List V} {es : List (Ex × Nat)} {ns ms us : List Str} {L : Nat}
theorem Ws.add (W : Ws K H0 H p c m ls A avs its E ivs rows es ns ms us L) {a : Addr} {xs : List V} (h : H a = some (.lst xs)) (na : ∀ q ∈ ls, q.1 ≠ a) (np : a ≠ p) (nc : a ≠ c) : Ws K H0 H p c m (ls ++ [(a, xs)]) A avs its E ivs rows es ns ms us L := by
  refine ⟨⟨W.fr.pen, fun q hq => ?_, ?_⟩, W.bu, W.se, W.n1, W.n2, W.n3, W.l1, W.l2, W.gi⟩
  · rcases List.mem_append.mp hq with g | g
    · exact W.fr.at_ q g
    · rw [List.mem_singleton.mp g]
      exact ⟨h, np, nc⟩
  · rw [List.map_append]
    refine List.nodup_append.mpr ⟨W.fr.nd, by simp, fun x hx y hy e => ?_⟩
    obtain ⟨q, hq, rfl⟩ := List.mem_map.mp hx
    exact na q hq (e.trans (List.mem_singleton.mp hy))
theorem Ws.drop {x : Addr × List V} (W : Ws K H0 H p c m (ls ++ [x]) A avs its E ivs rows es ns ms us L) : Ws K H0 H p c m ls A avs its E ivs rows es ns ms us L := by
  refine ⟨⟨W.fr.pen, fun q hq => W.fr.at_ q (List.mem_append.mpr (.inl hq)), ?_⟩, W.bu, W.se, W.n1, W.n2, W.n3, W.l1, W.l2, W.gi⟩
  have := W.fr.nd
  rw [List.map_append] at this
  exact (List.nodup_append.mp this).1
end
def spDEs (K : PySem.W.Frag) : Sp := fun vs H Q E => spDE K 1 vs H Q E ∨ spDE K 2 vs H Q E
theorem ins_app : ∀ a b : List Item, insOf (a ++ b) = insOf a ++ insOf b
  | [], _ => rfl
  | .inp n w :: a, b => congrArg ((n, w) :: ·) (ins_app a b)
  | .reg _ _ _ :: a, b => ins_app a b
  | .mem _ _ _ :: a, b => ins_app a b
  | .use _ _ _ :: a, b => ins_app a b
  | .sig _ _ _ _ :: a, b => ins_app a b
  | .nxt _ _ :: a, b => ins_app a b
  | .wri _ _ _ _ :: a, b => ins_app a b
theorem outs_app : ∀ a b : List Item, outsOf (a ++ b) = outsOf a ++ outsOf b
  | [], _ => rfl
  | .sig k n w e :: a, b => by
    show (if k = "output" then (n, w) :: outsOf (a ++ b) else outsOf (a ++ b)) = (if k = "output" then (n, w) :: outsOf a else outsOf a) ++ outsOf b
    rw [outs_app a b]
    by_cases h : k = "output"
    · rw [if_pos h, if_pos h]
      rfl
    · rw [if_neg h, if_neg h]
  | .inp _ _ :: a, b => outs_app a b
  | .reg _ _ _ :: a, b => outs_app a b
  | .mem _ _ _ :: a, b => outs_app a b
  | .use _ _ _ :: a, b => outs_app a b
  | .nxt _ _ :: a, b => outs_app a b
  | .wri _ _ _ _ :: a, b => outs_app a b
section
variable {K : PySem.W.Frag} {H H' : Hp}
theorem its_of : ∀ {vs : List V} {its : List Item}, DpAll K H vs (its.map itD) → All2 (fun v it => Dp K H v (itD it)) vs its
  | _, [], h => by
    cases h
    exact .nil
  | _, it :: its, h => by
    rw [List.map_cons] at h
    cases h with
    | cons a b => exact .cons a (its_of b)
theorem of_its : ∀ {vs : List V} {its : List Item}, All2 (fun v it => Dp K H v (itD it)) vs its → DpAll K H vs (its.map itD)
  | _, [], h => by
    cases h
    exact .nil
  | _, it :: its, h => by
    cases h with
    | cons a b =>
      rw [List.map_cons]
      exact .cons a (of_its b)
theorem md_at {v : V} {m : Md} (h : Dp K H v (mdD m)) : ∃ tm ti ixs, v = .ref tm ∧ SqT K H tm [.str "module", .str m.name, .ref ti] ∧ SqT K H ti ixs ∧ All2 (fun v it => Dp K H v (itD it)) ixs m.items := by
  unfold mdD at h
  cases h with
  | tup hs h1 =>
  cases h1 with
  | cons a h1 =>
  cases a
  cases h1 with
  | cons a h1 =>
  cases a
  cases h1 with
  | cons a h1 =>
  cases h1
  cases a with
  | tup h2 h3 => exact ⟨_, _, _, rfl, hs, h2, its_of h3⟩
def SgOk (it : Item) : Prop := ∀ k n w e, it = .sig k n w e → k = "wire" ∨ k = "output"
theorem tag_in {v : V} {it : Item} (h : Dp K H v (itD it)) (sg : SgOk it) : ∃ t k xs, v = .ref t ∧ SqT K H t (.str k :: xs) ∧ ((k = "input" ∧ ∃ (n : Str) (w : Nat), insOf [it] = [(n, w)] ∧ xs = [.str n, .int (w : Nat)]) ∨ (¬ k = "input" ∧ insOf [it] = [])) := by
  cases it with
  | inp n w =>
    unfold itD at h
    cases h with
    | tup hs h1 =>
    cases h1 with
    | cons a h1 =>
    cases a
    cases h1 with
    | cons a h1 =>
    cases a
    cases h1 with
    | cons a h1 =>
    cases a
    cases h1
    exact ⟨_, _, _, rfl, hs, .inl ⟨rfl, n, w, rfl, rfl⟩⟩
  | sig k n w e =>
    unfold itD at h
    cases h with
    | tup hs h1 =>
    cases h1 with
    | cons a h1 =>
    cases a
    rcases sg k n w e rfl with rfl | rfl
    · exact ⟨_, _, _, rfl, hs, .inr ⟨by decide, rfl⟩⟩
    · exact ⟨_, _, _, rfl, hs, .inr ⟨by decide, rfl⟩⟩
  | _ =>
    unfold itD at h
    cases h with
    | tup hs h1 =>
    cases h1 with
    | cons a h1 =>
    cases a
    exact ⟨_, _, _, rfl, hs, .inr ⟨by decide, rfl⟩⟩
theorem tag_out {v : V} {it : Item} (h : Dp K H v (itD it)) (sg : SgOk it) : ∃ t k xs, v = .ref t ∧ SqT K H t (.str k :: xs) ∧ ((k = "output" ∧ ∃ (n : Str) (w : Nat) (ev : V), outsOf [it] = [(n, w)] ∧ xs = [.str n, .int (w : Nat), ev]) ∨ (¬ k = "output" ∧ outsOf [it] = [])) := by
  cases it with
  | sig k n w e =>
    unfold itD at h
    cases h with
    | tup hs h1 =>
    cases h1 with
    | cons a h1 =>
    cases a
    cases h1 with
    | cons a h1 =>
    cases a
    cases h1 with
    | cons a h1 =>
    cases a
    cases h1 with
    | cons a h1 =>
    cases h1
    rcases sg k n w e rfl with rfl | rfl
    · exact ⟨_, _, _, rfl, hs, .inr ⟨by decide, rfl⟩⟩
    · exact ⟨_, _, _, rfl, hs, .inl ⟨rfl, n, w, _, rfl, rfl⟩⟩
  | _ =>
    unfold itD at h
    cases h with
    | tup hs h1 =>
    cases h1 with
    | cons a h1 =>
    cases a
    exact ⟨_, _, _, rfl, hs, .inr ⟨by decide, rfl⟩⟩
def PtAt (K : PySem.W.Frag) (H : Hp) (v : V) (q : Str × Nat) : Prop := ∃ t, v = .ref t ∧ SqT K H t [.str "input", .str q.1, .int (q.2 : Nat)]
def OtAt (K : PySem.W.Frag) (H : Hp) (v : V) (q : Str × Nat) : Prop := ∃ t ev, v = .ref t ∧ SqT K H t [.str "output", .str q.1, .int (q.2 : Nat), ev]
theorem PtAt.firm {v : V} {q : Str × Nat} (f : Firm H H') (h : PtAt K H v q) : PtAt K H' v q := by
  obtain ⟨t, e, s⟩ := h
  exact ⟨t, e, firm_seq f s⟩
theorem OtAt.firm {v : V} {q : Str × Nat} (f : Firm H H') (h : OtAt K H v q) : OtAt K H' v q := by
  obtain ⟨t, ev, e, s⟩ := h
  exact ⟨t, ev, e, firm_seq f s⟩
def GvAt (K : PySem.W.Frag) (H : Hp) (v : V) (q : Str × Ex) : Prop := ∃ t ev, v = .ref t ∧ SqT K H t [.str q.1, ev] ∧ ExAt K H ev q.2
theorem GvAt.firm {v : V} {q : Str × Ex} (f : Firm H H') (h : GvAt K H v q) : GvAt K H' v q := by
  obtain ⟨t, ev, e, s, x⟩ := h
  exact ⟨t, ev, e, firm_seq f s, x.firm f⟩
theorem giv_at : ∀ {vs : List V} {g : List (Str × Ex)}, All2 (GvAt K H) vs g → DpAll K H vs (givD g)
  | _, [], h => by
    cases h
    exact .nil
  | _, q :: g, h => by
    cases h with
    | cons a b =>
      obtain ⟨t, ev, rfl, s, x⟩ := a
      exact .cons (.tup s (.cons (.str _) (.cons x .nil))) (giv_at b)
end
theorem lay_giv : ∀ {g : List (Str × Ex)}, (∀ q ∈ g, (PyData.str q.1).canLay0 = true ∧ (exD q.2).canLay0 = true ∧ (exD q.2).depth ≤ 9) → PyData.canLayAll0 (givD g) = true ∧ PyData.depthAll (givD g) ≤ 10
  | [], _ => ⟨rfl, Nat.zero_le _⟩
  | q :: g, h => by
    obtain ⟨a, b⟩ := lay_giv (g := g) fun z hz => h z (List.mem_cons_of_mem _ hz)
    obtain ⟨h1, h2, h3⟩ := h q List.mem_cons_self
    refine ⟨lay_cons (lay_cons h1 (lay_cons h2 rfl)) a, ?_⟩
    show max (max 0 (max (exD q.2).depth 0) + 1) (PyData.depthAll (givD g)) ≤ 10
    omega
theorem lay_use {n m : Str} {g : List (Str × Ex)} (h1 : (PyData.str n).canLay0 = true) (h2 : (PyData.str m).canLay0 = true) (h : ∀ q ∈ g, (PyData.str q.1).canLay0 = true ∧ (exD q.2).canLay0 = true ∧ (exD q.2).depth ≤ 9) : (itD (.use n m g)).canLay0 = true ∧ (itD (.use n m g)).depth ≤ 20 := by
  obtain ⟨a, b⟩ := lay_giv h
  refine ⟨lay_cons (lay_s (by simp)) (lay_cons h1 (lay_cons h2 (lay_cons a rfl))), ?_⟩
  show max 0 (max 0 (max 0 (max (PyData.depthAll (givD g) + 1) 0))) + 1 ≤ 20
  omega
theorem md_lay_name {m : Md} (h : (mdD m).canLay0 = true) : (PyData.str m.name).canLay0 = true := by
  have h : ((PyData.str "module").canLay0 && ((PyData.str m.name).canLay0 && _)) = true := h
  exact (Bool.and_eq_true_iff.mp (Bool.and_eq_true_iff.mp h).2).1
theorem shaped_mds : ∀ {A : List Md}, (∀ m ∈ A, (mdD m).canLay0 = true ∧ (mdD m).depth ≤ 24) → PyData.canLayAll0 (A.map mdD) = true ∧ PyData.depthAll (A.map mdD) ≤ 24
  | [], _ => ⟨rfl, Nat.zero_le _⟩
  | m :: A, h => by
    obtain ⟨a, b⟩ := shaped_mds (A := A) fun z hz => h z (List.mem_cons_of_mem _ hz)
    obtain ⟨h1, h2⟩ := h m List.mem_cons_self
    refine ⟨lay_cons h1 a, ?_⟩
    show max (mdD m).depth (PyData.depthAll (A.map mdD)) ≤ 24
    omega
theorem mds_dp {K : PySem.W.Frag} {H : Hp} : ∀ {vs : List V} {A : List Md}, All2 (fun v m => Dp K H v (mdD m)) vs A → DpAll K H vs (A.map mdD)
  | _, [], h => by
    cases h
    exact .nil
  | _, m :: A, h => by
    cases h with
    | cons a b => exact .cons a (mds_dp b)
theorem tk {α : Type} {xs : List α} {i : Nat} {x : α} (h : xs[i]? = some x) : xs.take (i + 1) = xs.take i ++ [x] := by
  rw [List.take_add_one, h]
  rfl
theorem cut_any {K : PySem.W.Frag} {H : Hp} {q0 : Addr} {xs : List V} {m : Nat} {j : Int} {R : VK} (hj : (m : Int) = j) (hq : SqT K H q0 xs) (hn : m ≤ xs.length) (k : ∀ t H', Same H H' → SqT K H' t (xs.take m) → R (.ref t) H') :
    L2.rSlA K (.ref q0) none (some j) H R := by
  subst hj
  have ix : HT.sIx xs.length xs.length (some (m : Int)) = m := by
    show (if ((m : Int)) < 0 then ((m : Int) + (xs.length : Int)).toNat else min (m : Int).toNat xs.length) = _
    rw [if_neg (by omega)]
    omega
  refine ⟨q0, _, rfl, hq, fun hw => ?_, fun _ p np => ?_⟩
  · have e := hw.2
    rw [ix] at e
    refine k q0 H (fun _ _ e => e) ?_
    rw [e, List.take_length]
    exact hq
  · refine k p _ (same_new np) (SqT.of ?_)
    rw [upd_same]
    unfold cutV
    rw [ix]
    rfl
theorem cat_use {K : PySem.W.Frag} {H : Hp} {a b : Addr} {xs ys : List V} {Q : VK} (ha : SqT K H a xs) (hb : SqT K H b ys) (hz : xs.length + ys.length ≤ sizeLine) (k : ∀ t H', Same H H' → SqT K H' t (xs ++ ys) → Q (.ref t) H') : L2.rCatA K (.ref a) (.ref b) H Q := by
  refine ⟨a, b, xs, ys, rfl, rfl, ha, hb, hz, fun e => ?_, fun _ e => ?_, fun _ _ p np => ?_⟩
  · subst e
    exact k b H (fun _ _ e => e) hb
  · subst e
    exact k a H (fun _ _ e => e) (by rw [List.append_nil]; exact ha)
  · exact k p _ (same_new np) (SqT.of upd_same)
theorem ix_last {α : Type} {xs : List α} {x : α} : ixN (xs ++ [x]).length (-1) = some xs.length := by
  unfold ixN
  rw [if_neg (by decide), if_pos (by rw [List.length_append]; show -((xs.length + 1 : Nat) : Int) ≤ -1; omega), List.length_append]
  show some (-1 + ((xs.length + 1 : Nat) : Int)).toNat = _
  congr 1
  omega
theorem at_last {α : Type} {xs : List α} {x : α} : atI (xs ++ [x]) (-1) = some x := by
  unfold atI
  rw [ix_last]
  show (xs ++ [x])[xs.length]? = some x
  rw [List.getElem?_append_right (Nat.le_refl _), Nat.sub_self]
  rfl
theorem set_last {α : Type} {xs : List α} {x y : α} : (xs ++ [x]).set xs.length y = xs ++ [y] := by
  rw [List.set_append_right _ _ (Nat.le_refl _), Nat.sub_self]
  rfl
section
variable {K : PySem.W.Frag} {H0 H : Hp} {p c : Addr} {m : Nat} {ls : List (Addr × List V)} {A : List Md} {avs : List V} {its : List Item} {E : List EnE} {ivs rows : List V} {es : List (Ex × Nat)} {ns ns' ms ms' us us' : List Str} {L : Nat}
theorem Ws.item2 (W : Ws K H0 H p c m ls A avs its E ivs rows es ns ms us L) (i : Nat) {li : Addr} {ys : List V} (hi : ls[i]? = some (li, ys)) (n0 : H0 li = none) (v : V) (it : Item) (G : List EnE)
    (hx : Dp K H v (itD it)) (l : Laid A (its ++ [it]) (E ++ G)) (y : (itD it).canLay0 = true ∧ (itD it).depth ≤ 20) (ok : NamesOk (GmE (E ++ G))) (e1 : ns ++ nmN G = ns') (e2 : ms ++ mmN G = ms') (e3 : ∀ y ∈ us ++ ptN G, y ∈ us') (e0 : ns = [] → nmN G = [] ∨ insOf [it] ≠ [] := by first | exact fun _ => .inr (List.cons_ne_nil _ _) | exact fun _ => .inl rfl | exact fun _ => .inl (nmN_ports _ _) | exact fun h => absurd h (taken_ne _ _ _)) :
    Ws K H0 (upd H li (.lst (ivs ++ [v]))) p c m (ls.set i (li, ivs ++ [v])) A avs (its ++ [it]) (E ++ G) (ivs ++ [v]) rows es ns' ms' us' (L + 1) ∧ Firm H (upd H li (.lst (ivs ++ [v]))) := by
  have f := Firm.upd (o := .lst (ivs ++ [v])) (W.fr.get i hi) rfl
  refine ⟨⟨W.fr.set i hi _, but_push W.bu n0 (fun _ _ e => e) _, (W.se.firm f).item (dp_firm f (it_noL it) hx) l y ok, by rw [nmN_app, W.n1, e1], by rw [mmN_app, W.n2, e2], fun z hz => ?_, by rw [List.length_append]; exact Nat.add_le_add_right W.l1 1, Nat.le_succ_of_le W.l2, put_ins W.gi e1 e0⟩, f⟩
  rw [ptN_app] at hz
  rcases List.mem_append.mp hz with g | g
  · exact e3 z (List.mem_append.mpr (.inl (W.n3 z g)))
  · exact e3 z (List.mem_append.mpr (.inr g))
end
theorem ex_dep {e : Ex} {k : Nat} (h : exH e ≤ k) : (exD e).depth ≤ 2 * k + 1 := by
  have := (dep_all _).1 e (Nat.le_refl _)
  omega
theorem lay_sig {k n : Str} {w : Nat} {e : Ex} (hk : k = "wire" ∨ k = "output") (h : (PyData.str n).canLay0 = true) (he : (exD e).canLay0 = true) (hd : exH e ≤ 4) : (itD (.sig k n w e)).canLay0 = true ∧ (itD (.sig k n w e)).depth ≤ 20 := by
  have d := ex_dep hd
  refine ⟨lay_cons (lay_s (by rcases hk with rfl | rfl <;> simp)) (lay_cons h (lay_cons rfl (lay_cons he rfl))), ?_⟩
  show max 0 (max 0 (max 0 (max (exD e).depth 0))) + 1 ≤ 20
  omega
theorem lay_nxt {n : Str} {e : Ex} (h : (PyData.str n).canLay0 = true) (he : (exD e).canLay0 = true) (hd : exH e ≤ 4) : (itD (.nxt n e)).canLay0 = true ∧ (itD (.nxt n e)).depth ≤ 20 := by
  have d := ex_dep hd
  refine ⟨lay_cons (lay_s (by simp)) (lay_cons h (lay_cons he rfl)), ?_⟩
  show max 0 (max 0 (max (exD e).depth 0)) + 1 ≤ 20
  omega
theorem lay_wri {n : Str} {a b c : Ex} (h : (PyData.str n).canLay0 = true) (ha : (exD a).canLay0 = true) (hb : (exD b).canLay0 = true) (hc : (exD c).canLay0 = true) (da : exH a ≤ 3) (db : exH b ≤ 3) (dc : exH c ≤ 3) : (itD (.wri n a b c)).canLay0 = true ∧ (itD (.wri n a b c)).depth ≤ 20 := by
  have d1 := ex_dep da
  have d2 := ex_dep db
  have d3 := ex_dep dc
  refine ⟨lay_cons (lay_s (by simp)) (lay_cons h (lay_cons ha (lay_cons hb (lay_cons hc rfl)))), ?_⟩
  show max 0 (max 0 (max (exD a).depth (max (exD b).depth (max (exD c).depth 0)))) + 1 ≤ 20
  omega
def meD (q : Str × Nat × Nat) : PyData := .tuple [.str q.1, .int (q.2.1 : Nat), .int (q.2.2 : Nat)]
theorem me_dp {K : PySem.W.Frag} {H : Hp} : ∀ {vs : List V} {mq : List (Str × Nat × Nat)}, All2 (fun v q => ∃ t, v = V.ref t ∧ SqT K H t [.str q.1, .int (q.2.1 : Nat), .int (q.2.2 : Nat)]) vs mq → DpAll K H vs (mq.map meD)
  | _, [], h => by
    cases h
    exact .nil
  | _, q :: mq, h => by
    cases h with
    | cons a b =>
      obtain ⟨t, rfl, s⟩ := a
      exact .cons (.tup s (.cons (.str _) (.cons (.int _) (.cons (.int _) .nil)))) (me_dp b)
theorem me_sh : ∀ {mq : List (Str × Nat × Nat)}, (∀ q ∈ mq, (PyData.str q.1).canLay0 = true) → PyData.canLayAll0 (mq.map meD) = true ∧ PyData.depthAll (mq.map meD) ≤ 1
  | [], _ => ⟨rfl, Nat.zero_le _⟩
  | q :: mq, h => by
    obtain ⟨a, b⟩ := me_sh (mq := mq) fun z hz => h z (List.mem_cons_of_mem _ hz)
    refine ⟨lay_cons (lay_cons (h q List.mem_cons_self) rfl) a, ?_⟩
    show max (0 + 1) (PyData.depthAll (mq.map meD)) ≤ 1
    omega
/-- what a module ahead of others keeps -/
structure MdOk (m : Md) : Prop where
  len : m.items.length ≤ 60
  insl : (insOf m.items).length ≤ 40
  ins : ∀ q ∈ insOf m.items, 1 ≤ q.2 ∧ q.2 ≤ 8 ∧ (PyData.str q.1).canLay0 = true
  outs : ∀ q ∈ outsOf m.items, 1 ≤ q.2 ∧ q.2 ≤ 8 ∧ (PyData.str q.1).canLay0 = true
  nd : ((outsOf m.items).map (·.1)).Nodup
  sg : ∀ it ∈ m.items, SgOk it
  lay : (mdD m).canLay0 = true ∧ (mdD m).depth ≤ 24
  one : insOf m.items ≠ []
def spWM (K : PySem.W.Frag) : Sp := fun vs H Q _ => ∃ (p c al : Addr) (m : Nat) (n : Str) (A : List Md) (avs : List V), vs = [.ref p, .str n, .ref al] ∧ PenC H p c m ∧ m ≤ 100000000 ∧ al ≠ p ∧ al ≠ c ∧ H al = some (.lst avs) ∧ All2 (fun v m => Dp K H v (mdD m)) avs A ∧ avs.length ≤ 3 ∧ (∀ m ∈ A, MdOk m) ∧
  ∀ (H' : Hp) (v : V) (its : List Item) (E : List EnE), PenC H' p c (m + 9000) → But p H H' → Dp K H' v (mdD ⟨n, its⟩) → Laid A its E → its.length ≤ 40 → (∀ it ∈ its, (itD it).canLay0 = true ∧ (itD it).depth ≤ 20) → insOf its ≠ [] → Q v H'
section
variable {P : Program} {w : World} {K : PySem.W.Frag} {mg : Str → Option Value} {base : Heap} {f : Addr} {fd : FuncData}
structure Tx (mg : Str → Option Value) : Prop where
  range : mg "range" = none
  tuple : mg "tuple" = none
  list : mg "list" = none
  str : mg "str" = none
abbrev nWM : List Str := ["_law_pen_here", "_law_name", "_law_ahead", "_law_items", "_law_names", "_law_k", "_law_width", "_law_regs", "_law_memories", "_law_bits_here", "_law_pair", "_law_plain", "_law_module_here", "_law_item", "_law_ports_here", "_law_port", "_law_given", "_law_output", "_law_called", "_law_memory"]
theorem scWM : FnScope nWM ["_law_pen_here", "_law_name", "_law_ahead"] (defScope sLWideModule) := ⟨rfl, rfl, rfl, by decide +kernel, rfl, by decide +kernel, by decide +kernel⟩
theorem ok_wm (F : FnP K "_law_wide_module" sLWideModule f fd) (T : Tx mg)
    {fDR fPI fDE fDW : Addr} {dDR dPI dDE dDW : FuncData}
    (GDR : FnOk P w K mg base CX0 1 fDR dDR ["_law_pen_here", "_law_many"] (spDraw)) (gDR : mg "_law_draw" = some (.ref fDR)) (kDR : PySem.W.keepIn K (.ref fDR) = true) (bDR : Binds K dDR ["_law_pen_here", "_law_many"] [])
    (GPI : FnOk P w K mg base CX0 2 fPI dPI ["_law_pen_here", "_law_some"] ((spPick K))) (gPI : mg "_law_pick" = some (.ref fPI)) (kPI : PySem.W.keepIn K (.ref fPI) = true) (bPI : Binds K dPI ["_law_pen_here", "_law_some"] [])
    (GDE : FnOk P w K mg base CX0 5 fDE dDE ["_law_pen_here", "_law_width", "_law_names", "_law_deep"] ((spDEs K))) (gDE : mg "_law_drawn_expression" = some (.ref fDE)) (kDE : PySem.W.keepIn K (.ref fDE) = true) (bDE : Binds K dDE ["_law_pen_here", "_law_width", "_law_names", "_law_deep"] [])
    (GDW : FnOk P w K mg base CX0 5 fDW dDW ["_law_pen_here", "_law_memory", "_law_names"] ((spDW K))) (gDW : mg "_law_drawn_write" = some (.ref fDW)) (kDW : PySem.W.keepIn K (.ref fDW) = true) (bDW : Binds K dDW ["_law_pen_here", "_law_memory", "_law_names"] [])
    : FnOk P w K mg base CX0 6 f fd ["_law_pen_here", "_law_name", "_law_ahead"] (spWM K) := by
  refine F.ok scWM (fun vs H Q E h => ?_) (fun cdv A0 outer s H vs Q E hr h => ?_)
  · obtain ⟨p, c, al, m, n, A, avs, rfl, _⟩ := h
    rfl
  · obtain ⟨p, c, al, m, nmod, A, avs, rfl, hP, hm, ap, ac, hA, aa, al3, mok, q⟩ := h
    have hu := hu_of hr
    refine ⟨_, PSs.nox (pss_cons (ps_asg (pe_tup (pa_cons (pe_lst pa_nil) (pa_cons (pe_lst pa_nil) pa_nil))) (pg_tup rfl (pgs_cons (pg_name (i := 3) scWM.nd rfl (Or.inl rfl)) (pgs_cons (pg_name (i := 4) scWM.nd rfl (Or.inr rfl)) pgs_nil))))
      (pss_cons (ps_for PassesOwn.never rfl (pi_range1 (by rfl) T.range (pa_cons (pe_op op_add pe_int (pe_call GDR (hr.mono (by decide)) (by rfl) gDR kDR bDR .nil pass0 (pa_cons (pv 0) (pa_cons pe_int pa_nil)))) pa_nil)) (pg_name (i := 5) scWM.nd rfl (Or.inl rfl))
        (pss_cons (ps_set (i := 6) scWM.nd rfl (Or.inl rfl) (pe_op op_add pe_int (pe_call GDR (hr.mono (by decide)) (by rfl) gDR kDR bDR .nil pass0 (pa_cons (pv 0) (pa_cons pe_int pa_nil)))))
        (pss_cons (ps_expr (pe_bm PySem.F.plainAttrs_list PySem.F.slot_list_append PySem.F.type_list_append mt_append (pv 3) (pa_cons (pe_tup (pa_cons pe_str (pa_cons (pe_op op_add_str pe_str (pe_callTy call_str_int (by rfl) T.str (by decide +kernel) (pa_cons (pv 5) pa_nil))) (pa_cons (pv 6) pa_nil)))) pa_nil)))
        (pss_one (ps_expr (pe_bm PySem.F.plainAttrs_list PySem.F.slot_list_append PySem.F.type_list_append mt_append (pv 4) (pa_cons (pe_tup (pa_cons (pe_tup (pa_cons pe_str (pa_cons (pe_op op_add_str pe_str (pe_callTy call_str_int (by rfl) T.str (by decide +kernel) (pa_cons (pv 5) pa_nil))) pa_nil))) (pa_cons (pv 6) pa_nil))) pa_nil)))))))
      (pss_cons (ps_set (i := 7) scWM.nd rfl (Or.inl rfl) (pe_lst pa_nil))
      (pss_cons (ps_for PassesOwn.never rfl (pi_range1 (by rfl) T.range (pa_cons (pe_call GDR (hr.mono (by decide)) (by rfl) gDR kDR bDR .nil pass0 (pa_cons (pv 0) (pa_cons pe_int pa_nil))) pa_nil)) (pg_name (i := 5) scWM.nd rfl (Or.inl rfl))
        (pss_cons (ps_set (i := 6) scWM.nd rfl (Or.inl rfl) (pe_op op_add pe_int (pe_call GDR (hr.mono (by decide)) (by rfl) gDR kDR bDR .nil pass0 (pa_cons (pv 0) (pa_cons pe_int pa_nil)))))
        (pss_cons (ps_expr (pe_bm PySem.F.plainAttrs_list PySem.F.slot_list_append PySem.F.type_list_append mt_append (pv 3) (pa_cons (pe_tup (pa_cons pe_str (pa_cons (pe_op op_add_str pe_str (pe_callTy call_str_int (by rfl) T.str (by decide +kernel) (pa_cons (pv 5) pa_nil))) (pa_cons (pv 6) (pa_cons (pe_call GDR (hr.mono (by decide)) (by rfl) gDR kDR bDR .nil pass0 (pa_cons (pv 0) (pa_cons (pe_op op_oneShl pe_int (pv 6)) pa_nil))) pa_nil))))) pa_nil)))
        (pss_cons (ps_expr (pe_bm PySem.F.plainAttrs_list PySem.F.slot_list_append PySem.F.type_list_append mt_append (pv 7) (pa_cons (pe_tup (pa_cons (pe_op op_add_str pe_str (pe_callTy call_str_int (by rfl) T.str (by decide +kernel) (pa_cons (pv 5) pa_nil))) (pa_cons (pv 6) pa_nil))) pa_nil)))
        (pss_one (ps_expr (pe_bm PySem.F.plainAttrs_list PySem.F.slot_list_append PySem.F.type_list_append mt_append (pv 4) (pa_cons (pe_tup (pa_cons (pe_tup (pa_cons pe_str (pa_cons (pe_op op_add_str pe_str (pe_callTy call_str_int (by rfl) T.str (by decide +kernel) (pa_cons (pv 5) pa_nil))) pa_nil))) (pa_cons (pv 6) pa_nil))) pa_nil))))))))
      (pss_cons (ps_set (i := 8) scWM.nd rfl (Or.inl rfl) (pe_lst pa_nil))
      (pss_cons (ps_for PassesOwn.never rfl (pi_range1 (by rfl) T.range (pa_cons (pe_call GDR (hr.mono (by decide)) (by rfl) gDR kDR bDR .nil pass0 (pa_cons (pv 0) (pa_cons pe_int pa_nil))) pa_nil)) (pg_name (i := 5) scWM.nd rfl (Or.inl rfl))
        (pss_cons (ps_par (i := 6) (j := 9) rfl scWM.nd rfl rfl (by decide) rfl rfl (pa_cons (pe_op op_add pe_int (pe_call GDR (hr.mono (by decide)) (by rfl) gDR kDR bDR .nil pass0 (pa_cons (pv 0) (pa_cons pe_int pa_nil)))) (pa_cons (pe_op op_add pe_int (pe_call GDR (hr.mono (by decide)) (by rfl) gDR kDR bDR .nil pass0 (pa_cons (pv 0) (pa_cons pe_int pa_nil)))) pa_nil)) (by rfl))
        (pss_cons (ps_expr (pe_bm PySem.F.plainAttrs_list PySem.F.slot_list_append PySem.F.type_list_append mt_append (pv 3) (pa_cons (pe_tup (pa_cons pe_str (pa_cons (pe_op op_add_str pe_str (pe_callTy call_str_int (by rfl) T.str (by decide +kernel) (pa_cons (pv 5) pa_nil))) (pa_cons (pv 6) (pa_cons (pv 9) pa_nil))))) pa_nil)))
        (pss_cons (ps_expr (pe_bm PySem.F.plainAttrs_list PySem.F.slot_list_append PySem.F.type_list_append mt_append (pv 8) (pa_cons (pe_tup (pa_cons (pe_op op_add_str pe_str (pe_callTy call_str_int (by rfl) T.str (by decide +kernel) (pa_cons (pv 5) pa_nil))) (pa_cons (pv 6) (pa_cons (pv 9) pa_nil)))) pa_nil)))
        (pss_cons (ps_setLc (i := 11) (own := [("_law_pair", 10)]) (g := gName 10) (by rfl) scWM.nd rfl rfl (sw_true rfl rfl rfl (by decide +kernel)) (pi_list (pv 4)) (blkOk_by (N := nWM) (sc := defScope sLWideModule) (by decide +kernel)) (fun _ _ _ _ _ => pg_name (i := 10) scWM.nd rfl (Or.inl rfl)) (fun _ _ _ _ _ => pts_one (pt_cmpR op_ne (pe_ix (r := L2.rIxT K) (by exact ix_tup) (pe_ix (r := L2.rIxT K) (by exact ix_tup) (pv 10) pe_int (fun _ _ => rfl)) pe_int (fun _ _ => rfl)) pe_str (nomark _))) (fun _ _ _ _ _ => (pv 10)))
        (pss_one (ps_expr (pe_bm PySem.F.plainAttrs_list PySem.F.slot_list_append PySem.F.type_list_append mt_append (pv 4) (pa_cons (pe_tup (pa_cons (pe_tup (pa_cons pe_str (pa_cons (pe_op op_add_str pe_str (pe_callTy call_str_int (by rfl) T.str (by decide +kernel) (pa_cons (pv 5) pa_nil))) (pa_cons (pe_call GDE (hr.mono (by decide)) (by rfl) gDE kDE bDE .nil pass0 (pa_cons (pv 0) (pa_cons (pv 9) (pa_cons (pv 11) (pa_cons pe_int pa_nil))))) pa_nil)))) (pa_cons (pv 6) pa_nil))) pa_nil)))))))))
      (C8.pss_cut (ps_for PassesOwn.never rfl (pi_range1 (by rfl) T.range (pa_cons (pe_ifExp (pt_cmpR (op_neD hr.units) (pv 2) (pe_lst pa_nil) (nomark _)) (pe_call GDR (hr.mono (by decide)) (by rfl) gDR kDR bDR .nil pass0 (pa_cons (pv 0) (pa_cons pe_int pa_nil))) pe_int) pa_nil)) (pg_name (i := 5) scWM.nd rfl (Or.inl rfl))
        (pss_cons (ps_set (i := 12) scWM.nd rfl (Or.inl rfl) (pe_call GPI (hr.mono (by decide)) (by rfl) gPI kPI bPI .nil pass0 (pa_cons (pv 0) (pa_cons (pv 2) pa_nil))))
        (pss_cons (ps_setLc (i := 14) (own := [("_law_item", 13)]) (g := gName 13) (by rfl) scWM.nd rfl rfl (sw_true rfl rfl rfl (by decide +kernel)) (pi_tup (pe_ix (r := L2.rIxT K) (by exact ix_tup) (pv 12) pe_int (fun _ _ => rfl))) (blkOk_by (N := nWM) (sc := defScope sLWideModule) (by decide +kernel)) (fun _ _ _ _ _ => pg_name (i := 13) scWM.nd rfl (Or.inl rfl)) (fun _ _ _ _ _ => pts_one (pt_cmpR op_eq (pe_ix (r := L2.rIxT K) (by exact ix_tup) (pv 13) pe_int (fun _ _ => rfl)) pe_str (nomark _))) (fun _ _ _ _ _ => (pv 13)))
        (pss_cons (ps_set (i := 16) scWM.nd rfl (Or.inl rfl) (pe_callTy (T := "tuple") (r := rTupOf K) (by exact call_tuple_of) (by rfl) T.tuple (by decide +kernel) (pa_cons (pe_lc (own := [("_law_port", 15)]) (g := gName 15) (tt := tYes) rfl scWM.nd (pi_list (pv 14)) (blkOk_by (N := nWM) (sc := defScope sLWideModule) (by decide +kernel)) (fun _ _ _ _ _ => pg_name (i := 15) scWM.nd rfl (Or.inl rfl)) (fun _ _ _ _ _ => pts_nil) (fun _ _ _ _ _ => (pe_tup (pa_cons (pe_ix (r := L2.rIxT K) (by exact ix_tup) (pv 15) pe_int (fun _ _ => rfl)) (pa_cons (pe_call GDE (hr.mono (by decide)) (by rfl) gDE kDE bDE .nil pass0 (pa_cons (pv 0) (pa_cons (pe_ix (r := L2.rIxT K) (by exact ix_tup) (pv 15) pe_int (fun _ _ => rfl)) (pa_cons (pv 4) (pa_cons pe_int pa_nil))))) pa_nil))))) pa_nil)))
        (pss_cons (ps_expr (pe_bm PySem.F.plainAttrs_list PySem.F.slot_list_append PySem.F.type_list_append mt_append (pv 3) (pa_cons (pe_tup (pa_cons pe_str (pa_cons (pe_op op_add_str pe_str (pe_callTy call_str_int (by rfl) T.str (by decide +kernel) (pa_cons (pv 5) pa_nil))) (pa_cons (pe_ix (r := L2.rIxT K) (by exact ix_tup) (pv 12) pe_int (fun _ _ => rfl)) (pa_cons (pv 16) pa_nil))))) pa_nil)))
        (pss_one (ps_for PassesOwn.never rfl (pi_list (pe_lc (own := [("_law_item", 13)]) (g := gName 13) rfl scWM.nd (pi_tup (pe_ix (r := L2.rIxT K) (by exact ix_tup) (pv 12) pe_int (fun _ _ => rfl))) (blkOk_by (N := nWM) (sc := defScope sLWideModule) (by decide +kernel)) (fun _ _ _ _ _ => pg_name (i := 13) scWM.nd rfl (Or.inl rfl)) (fun _ _ _ _ _ => pts_one (pt_cmpR op_eq (pe_ix (r := L2.rIxT K) (by exact ix_tup) (pv 13) pe_int (fun _ _ => rfl)) pe_str (nomark _))) (fun _ _ _ _ _ => (pv 13)))) (pg_name (i := 17) scWM.nd rfl (Or.inl rfl))
          (pss_one (ps_expr (pe_bm PySem.F.plainAttrs_list PySem.F.slot_list_append PySem.F.type_list_append mt_append (pv 4) (pa_cons (pe_tup (pa_cons (pe_tup (pa_cons pe_str (pa_cons (pe_op op_add_str pe_str (pe_callTy call_str_int (by rfl) T.str (by decide +kernel) (pa_cons (pv 5) pa_nil))) (pa_cons (pe_ix (r := L2.rIxT K) (by exact ix_tup) (pv 17) pe_int (fun _ _ => rfl)) pa_nil)))) (pa_cons (pe_ix (r := L2.rIxT K) (by exact ix_tup) (pv 17) pe_int (fun _ _ => rfl)) pa_nil))) pa_nil)))))))))))
      (pss_cons (ps_for PassesOwn.never rfl (pi_range1 (by rfl) T.range (pa_cons (pe_op op_add pe_int (pe_call GDR (hr.mono (by decide)) (by rfl) gDR kDR bDR .nil pass0 (pa_cons (pv 0) (pa_cons pe_int pa_nil)))) pa_nil)) (pg_name (i := 5) scWM.nd rfl (Or.inl rfl))
        (pss_cons (ps_set (i := 6) scWM.nd rfl (Or.inl rfl) (pe_op op_add pe_int (pe_call GDR (hr.mono (by decide)) (by rfl) gDR kDR bDR .nil pass0 (pa_cons (pv 0) (pa_cons pe_int pa_nil)))))
        (pss_cons (ps_expr (pe_bm PySem.F.plainAttrs_list PySem.F.slot_list_append PySem.F.type_list_append mt_append (pv 3) (pa_cons (pe_tup (pa_cons (pe_call GPI (hr.mono (by decide)) (by rfl) gPI kPI bPI .nil pass0 (pa_cons (pv 0) (pa_cons (pe_lst (pa_cons pe_str (pa_cons pe_str pa_nil))) pa_nil))) (pa_cons (pe_op op_add_str pe_str (pe_callTy call_str_int (by rfl) T.str (by decide +kernel) (pa_cons (pv 5) pa_nil))) (pa_cons (pv 6) (pa_cons pe_non pa_nil))))) pa_nil)))
        (pss_cons (ps_asg (pe_op op_catA (pe_slice sl_tupA (pe_ix ix_list (pv 3) (pe_un un_neg pe_int) (fun _ _ => rfl)) po_none (po_some pe_int)) (pe_tup (pa_cons (pe_call GDE (hr.mono (by decide)) (by rfl) gDE kDE bDE .nil pass0 (pa_cons (pv 0) (pa_cons (pv 6) (pa_cons (pv 4) (pa_cons pe_int pa_nil))))) pa_nil))) (pg_sub (pv 3) (pe_un un_neg pe_int) set_list))
        (pss_cons (ps_expr (pe_bm PySem.F.plainAttrs_list PySem.F.slot_list_append PySem.F.type_list_append mt_append (pv 4) (pa_cons (pe_tup (pa_cons (pe_tup (pa_cons pe_str (pa_cons (pe_op op_add_str pe_str (pe_callTy call_str_int (by rfl) T.str (by decide +kernel) (pa_cons (pv 5) pa_nil))) pa_nil))) (pa_cons (pv 6) pa_nil))) pa_nil)))
        (pss_one (ps_if (PW.pt (pw_and (pt_cmpR (op_neD hr.units) (pv 8) (pe_lst pa_nil) (nomark _)) (pw_and1 (pt_cmpR op_eq (pe_call GDR (hr.mono (by decide)) (by rfl) gDR kDR bDR .nil pass0 (pa_cons (pv 0) (pa_cons pe_int pa_nil))) pe_int (nomark _)))))
          (pss_one (ps_expr (pe_bm PySem.F.plainAttrs_list PySem.F.slot_list_append PySem.F.type_list_append mt_append (pv 3) (pa_cons (pe_call GDW (hr.mono (by decide)) (by rfl) gDW kDW bDW .nil pass0 (pa_cons (pv 0) (pa_cons (pe_call GPI (hr.mono (by decide)) (by rfl) gPI kPI bPI .nil pass0 (pa_cons (pv 0) (pa_cons (pv 8) pa_nil))) (pa_cons (pv 4) pa_nil)))) pa_nil))))
          pss_nil)))))))
      (pss_cons (ps_for PassesOwn.never rfl (pi_list (pv 7)) (pg_tup rfl (pgs_cons (pg_name (i := 18) scWM.nd rfl (Or.inl rfl)) (pgs_cons (pg_name (i := 6) scWM.nd rfl (Or.inl rfl)) pgs_nil)))
        (pss_one (ps_if (pt_cmpR op_gt (pe_call GDR (hr.mono (by decide)) (by rfl) gDR kDR bDR .nil pass0 (pa_cons (pv 0) (pa_cons pe_int pa_nil))) pe_int (nomark _))
          (pss_one (ps_expr (pe_bm PySem.F.plainAttrs_list PySem.F.slot_list_append PySem.F.type_list_append mt_append (pv 3) (pa_cons (pe_tup (pa_cons pe_str (pa_cons (pv 18) (pa_cons (pe_call GDE (hr.mono (by decide)) (by rfl) gDE kDE bDE .nil pass0 (pa_cons (pv 0) (pa_cons (pv 6) (pa_cons (pv 4) (pa_cons pe_int pa_nil))))) pa_nil)))) pa_nil))))
          pss_nil)))
      (pss_cons (ps_for PassesOwn.never rfl (pi_list (pv 8)) (pg_name (i := 19) scWM.nd rfl (Or.inl rfl))
        (pss_one (ps_if (pt_cmpR op_gt (pe_call GDR (hr.mono (by decide)) (by rfl) gDR kDR bDR .nil pass0 (pa_cons (pv 0) (pa_cons pe_int pa_nil))) pe_int (nomark _))
          (pss_one (ps_expr (pe_bm PySem.F.plainAttrs_list PySem.F.slot_list_append PySem.F.type_list_append mt_append (pv 3) (pa_cons (pe_call GDW (hr.mono (by decide)) (by rfl) gDW kDW bDW .nil pass0 (pa_cons (pv 0) (pa_cons (pv 19) (pa_cons (pv 4) pa_nil)))) pa_nil))))
          pss_nil)))
      (pss_cons (ps_expr (pe_bm PySem.F.plainAttrs_list PySem.F.slot_list_append PySem.F.type_list_append mt_append (pv 3) (pa_cons (pe_tup (pa_cons pe_str (pa_cons pe_str (pa_cons pe_int (pa_cons (pe_call GDE (hr.mono (by decide)) (by rfl) gDE kDE bDE .nil pass0 (pa_cons (pv 0) (pa_cons pe_int (pa_cons (pv 4) (pa_cons pe_int pa_nil))))) pa_nil))))) pa_nil)))
      (pss_one (ps_ret (pe_tup (pa_cons pe_str (pa_cons (pv 1) (pa_cons (pe_callTy (T := "tuple") (r := rTupOf K) (by exact call_tuple_of) (by rfl) T.tuple (by decide +kernel) (pa_cons (pv 3) pa_nil)) pa_nil))))))))))))))))), ?_⟩
    refine ⟨(by show 0 ≤ sizeLine; decide), fun li nli => ⟨(by show 0 ≤ sizeLine; decide), fun ln nln => ⟨(by show 2 ≤ sizeLine; decide), fun tt ntt => ⟨tt, _, rfl, SqT.of upd_same, rfl, _, _, rfl, _, _, rfl, rfl, ?_⟩⟩⟩⟩
    have F0 : Fr H p c m [(al, avs)] := ⟨hP, fun q h => by rw [List.mem_singleton.mp h]; exact ⟨hA, ap, ac⟩, by simp⟩
    have F1 : Fr _ p c m [(al, avs), (li, []), (ln, [])] := ((F0.new nli []).new nln []).same (same_new (u := .tup [.ref li, .ref ln]) ntt)
    have s3 := (same_new nli).trans ((same_new nln).trans (same_new (u := .tup [.ref li, .ref ln]) ntt))
    have ln0 : H ln = none := none_back (same_new nli) nln
    generalize upd (upd (upd H li _) ln _) tt _ = H3 at F1 s3 ⊢
    have W0 : Ws K H H3 p c m [(al, avs), (li, []), (ln, [])] A avs [] [] [] [] [] (taken 0 0 0) [] [] 0 := ⟨F1, But.of_same s3, ⟨aa.imp fun _ m x => dp_firm (Firm.of s3) (md_noL m) x, .nil, .nil, (fun _ h => by cases h), .nil, (fun _ h => by cases h), ok_nil⟩, rfl, rfl, (fun _ h => by cases h), Nat.le_refl _, Nat.le_refl _, .inl rfl⟩
    clear F0 F1 s3 nln ntt
    refine ⟨_, rfl, p, c, m, 2, rfl, W0.fr.pen, by omega, by decide, by decide, fun r1 H4 r10 r11 P4 B4 => ⟨_, _, rfl, rfl, ?_⟩⟩
    have W0 := W0.draw P4 B4
    clear P4 B4
    obtain ⟨na, rfl⟩ := Int.eq_ofNat_of_zero_le r10
    refine ⟨((1 + na : Nat) : Int), rfl, by omega, by omega, for_range (lo := 0) (n := 1 + na)
      (fun i σ H' => ∃ (its : List Item) (E : List EnE) (ivs rows : List V) (es : List (Ex × Nat)) (x5 x6 x7 x8 x9 x10 x11 x12 x13 x14 x15 x16 x17 x18 x19 : Option V), σ = [some (.ref p), some (.str nmod), some (.ref al), some (.ref li), some (.ref ln), x5, x6, x7, x8, x9, x10, x11, x12, x13, x14, x15, x16, x17, x18, x19] ∧ Ws K H H' p c (m + 1 + i) [(al, avs), (li, ivs), (ln, rows)] A avs its E ivs rows es (taken i 0 0) [] [] (2 * i))
      ⟨[], [], [], [], [], _, _, _, _, _, _, _, _, _, _, _, _, _, _, _, rfl, W0⟩ ?_ ?_⟩
    · clear W0
      rintro i σ H5 hi ⟨its, E, ivs, rows, es, x5, x6, x7, x8, x9, x10, x11, x12, x13, x14, x15, x16, x17, x18, x19, rfl, W⟩
      have i2 : i < 2 := by omega
      have lay := nmc_lay "i" (by simp) i (by omega)
      refine ⟨_, rfl, p, c, _, 8, rfl, W.fr.pen, by omega, by decide, by decide, fun u H6 u0 u1 P6 B6 => ⟨_, _, rfl, rfl, ?_⟩⟩
      have W := W.draw P6 B6
      clear P6 B6
      obtain ⟨u, rfl⟩ := Int.eq_ofNat_of_zero_le u0
      have nn : nmc "i" i ∉ nmN E := by
        rw [W.n1]
        exact new_i i (by omega)
      refine ⟨_, rfl, .inl ⟨rfl, _, SqL.of (W.fr.get 1 rfl)⟩, _, rfl, _, rfl, nmc_log i (by omega), _, _, rfl, rfl, nmc_len "i" (by simp) i (by omega), _, rfl, (by show 3 ≤ sizeLine; decide), fun t nt => ⟨li, ivs, _, rfl, rfl, same_new nt _ _ (W.fr.get 1 rfl), Nat.lt_of_le_of_lt W.l1 (Nat.lt_of_lt_of_le (by omega : _ < 900) (by decide)), ?_⟩⟩
      obtain ⟨W, fa⟩ := W.item 1 rfl nli nt [.str "input", .str (nmc "i" i), .int (1 + (u : Int))] (.inp (nmc "i" i) (1 + u)) [.nm (nmc "i" i) (1 + u)] (fun H' _ h => .tup (SqT.of h) (.cons (.str _) (.cons (.str _) (.cons (.int _) .nil)))) (.inp its E _ _ W.se.laid nn (by omega) (by omega)) (lay_inp lay) (ok_nm W.se.ok lay) (taken_i i) rfl (fun _ h => h)
      refine ⟨_, rfl, .inl ⟨rfl, _, SqL.of (W.fr.get 2 rfl)⟩, _, rfl, _, rfl, nmc_log i (by omega), _, _, rfl, rfl, nmc_len "i" (by simp) i (by omega), (by show 2 ≤ sizeLine; decide), fun tq ntq => ⟨_, rfl, (by show 2 ≤ sizeLine; decide), fun tr ntr => ⟨ln, rows, _, rfl, rfl, same_new ntr _ _ (same_new ntq _ _ (W.fr.get 2 rfl)), Nat.lt_of_le_of_lt W.l2 (Nat.lt_of_lt_of_le (by omega : _ < 900) (by decide)), ?_⟩⟩⟩
      obtain ⟨W, fb⟩ := W.row 2 rfl ln0 [.str "name", .str (nmc "i" i)] (1 + u) (.lf (.nam (nmc "i" i))) ntq ntr (fun H' _ h => at_nm h) (nm_ne W.se.ok (nm_new nn) (by omega)) (.inl ⟨_, rfl⟩)
      exact ⟨_, _, _, _, _, _, _, _, _, _, _, _, _, _, _, _, _, _, _, _, rfl, W⟩
    clear W0
    rintro σ H5 ⟨its, E, ivs, rows, es, x5, x6, x7, x8, x9, x10, x11, x12, x13, x14, x15, x16, x17, x18, x19, rfl, W⟩
    refine ⟨(by show 0 ≤ sizeLine; decide), fun rg nrg => ?_⟩
    have rg0 := but_none W.bu W.fr.pen nrg
    have W : Ws K H _ p c _ [(al, avs), (li, ivs), (ln, rows), (rg, [])] A avs its E ivs rows es _ _ _ _ := W.new nrg []
    generalize upd H5 rg _ = H6 at W ⊢
    clear nrg
    refine ⟨_, rfl, p, c, _, 3, rfl, W.fr.pen, by omega, by decide, by decide, fun r2 H7 r20 r21 P7 B7 => ?_⟩
    have W := W.draw P7 B7
    clear P7 B7
    obtain ⟨nb, rfl⟩ := Int.eq_ofNat_of_zero_le r20
    refine ⟨(nb : Nat), rfl, by omega, by omega, for_range (lo := 0) (n := nb)
      (fun i σ H' => ∃ (its : List Item) (E : List EnE) (ivs rows : List V) (es : List (Ex × Nat)) (rgs : List V) (rq : List (Str × Nat)) (x5 x6 x8 x9 x10 x11 x12 x13 x14 x15 x16 x17 x18 x19 : Option V), σ = [some (.ref p), some (.str nmod), some (.ref al), some (.ref li), some (.ref ln), x5, x6, some (.ref rg), x8, x9, x10, x11, x12, x13, x14, x15, x16, x17, x18, x19] ∧ Ws K H H' p c (m + 4 + 2 * i) [(al, avs), (li, ivs), (ln, rows), (rg, rgs)] A avs its E ivs rows es (taken (1 + na) i 0) [] [] (4 + 2 * i) ∧ RgOk K H' E rgs rq ∧ rgs.length ≤ i)
      ⟨its, E, ivs, rows, es, [], [], _, _, _, _, _, _, _, _, _, _, _, _, _, _, rfl, W.more (by omega) (by omega), RgOk.nil, Nat.le_refl _⟩ ?_ ?_⟩
    · clear W
      rintro i σ H8 hi ⟨its, E, ivs, rows, es, rgs, rq, x5, x6, x8, x9, x10, x11, x12, x13, x14, x15, x16, x17, x18, x19, rfl, W, R, rl⟩
      have lay := nmc_lay "r" (by simp) i (by omega)
      refine ⟨_, rfl, p, c, _, 8, rfl, W.fr.pen, by omega, by decide, by decide, fun u H9 u0 u1 P9 B9 => ⟨_, _, rfl, rfl, ?_⟩⟩
      have R := R.firm (Firm.pen B9 W.fr.pen)
      have W := W.draw P9 B9
      clear P9 B9
      obtain ⟨u, rfl⟩ := Int.eq_ofNat_of_zero_le u0
      have nn : nmc "r" i ∉ nmN E := by
        rw [W.n1]
        exact new_r (1 + na) (by omega) i (by omega)
      refine ⟨_, rfl, .inl ⟨rfl, _, SqL.of (W.fr.get 1 rfl)⟩, _, rfl, _, rfl, nmc_log i (by omega), _, _, rfl, rfl, nmc_len "r" (by simp) i (by omega), _, rfl, _, rfl, _, rfl, 1 + u, rfl, rfl, by omega, p, c, _, _, rfl, W.fr.pen, by omega, Int.pow_pos (by decide), p2lt _ (by omega), fun z H10 z0 z1 P10 B10 => ⟨(by show 4 ≤ sizeLine; decide), fun t nt => ?_⟩⟩
      have R := R.firm (Firm.pen B10 W.fr.pen)
      have W := W.draw P10 B10
      clear P10 B10
      obtain ⟨z, rfl⟩ := Int.eq_ofNat_of_zero_le z0
      refine ⟨li, ivs, _, rfl, rfl, same_new nt _ _ (W.fr.get 1 rfl), Nat.lt_of_le_of_lt W.l1 (Nat.lt_of_lt_of_le (by omega : _ < 900) (by decide)), ?_⟩
      obtain ⟨W, fa⟩ := W.item 1 rfl nli nt [.str "reg", .str (nmc "r" i), .int (1 + (u : Int)), .int (z : Int)] (.reg (nmc "r" i) (1 + u) z) [.nm (nmc "r" i) (1 + u)] (fun H' _ h => .tup (SqT.of h) (.cons (.str _) (.cons (.str _) (.cons (.int _) (.cons (.int _) .nil))))) (.reg its E _ _ _ W.se.laid nn (by omega) (by omega) (one_two z1)) (lay_reg lay) (ok_nm W.se.ok lay) (taken_r (1 + na) i) rfl (fun _ h => h)
      have R := (R.firm fa).ext [.nm (nmc "r" i) (1 + u)]
      refine ⟨_, rfl, .inl ⟨rfl, _, SqL.of (W.fr.get 3 rfl)⟩, _, rfl, _, rfl, nmc_log i (by omega), _, _, rfl, rfl, nmc_len "r" (by simp) i (by omega), _, rfl, (by show 2 ≤ sizeLine; decide), fun tg ntg => ⟨rg, rgs, _, rfl, rfl, same_new ntg _ _ (W.fr.get 3 rfl), Nat.lt_of_le_of_lt rl (Nat.lt_of_lt_of_le (by omega : _ < 900) (by decide)), ?_⟩⟩
      have sg := same_new (u := .tup [.str (nmc "r" i), .int (1 + (u : Int))]) ntg
      obtain ⟨W, fg⟩ := (W.same sg).push 3 rfl rg0 (rgs ++ [.ref tg])
      have R := ((R.firm (Firm.of sg)).firm fg).push (t := tg) (q := (nmc "r" i, 1 + u)) (SqT.of (fg _ _ upd_same rfl)) ⟨nm_new nn, by omega, by omega, lay⟩
      refine ⟨_, rfl, .inl ⟨rfl, _, SqL.of (W.fr.get 2 rfl)⟩, _, rfl, _, rfl, nmc_log i (by omega), _, _, rfl, rfl, nmc_len "r" (by simp) i (by omega), (by show 2 ≤ sizeLine; decide), fun tq ntq => ⟨_, rfl, (by show 2 ≤ sizeLine; decide), fun tr ntr => ⟨ln, rows, _, rfl, rfl, same_new ntr _ _ (same_new ntq _ _ (W.fr.get 2 rfl)), Nat.lt_of_le_of_lt W.l2 (Nat.lt_of_lt_of_le (by omega : _ < 900) (by decide)), ?_⟩⟩⟩
      obtain ⟨W, fb⟩ := W.row 2 rfl ln0 [.str "name", .str (nmc "r" i)] (1 + u) (.lf (.nam (nmc "r" i))) ntq ntr (fun H' _ h => at_nm h) (nm_ne W.se.ok (nm_new nn) (by omega)) (.inl ⟨_, rfl⟩)
      exact ⟨_, _, _, _, _, _, _, _, _, _, _, _, _, _, _, _, _, _, _, _, _, rfl, W, R.firm fb, by rw [List.length_append]; exact Nat.add_le_add_right rl 1⟩
    clear W
    rintro σ H8 ⟨its, E, ivs, rows, es, rgs, rq, x5, x6, x8, x9, x10, x11, x12, x13, x14, x15, x16, x17, x18, x19, rfl, W, R, rl⟩
    refine ⟨(by show 0 ≤ sizeLine; decide), fun me nme => ?_⟩
    have me0 := but_none W.bu W.fr.pen nme
    have R := R.firm (Firm.of (same_new (u := .lst []) nme))
    have W : Ws K H _ p c _ [(al, avs), (li, ivs), (ln, rows), (rg, rgs), (me, [])] A avs its E ivs rows es _ _ _ _ := W.new nme []
    generalize upd H8 me _ = H9 at W R ⊢
    clear nme
    refine ⟨_, rfl, p, c, _, 3, rfl, W.fr.pen, by omega, by decide, by decide, fun r3 H10 r30 r31 P10 B10 => ?_⟩
    have R := R.firm (Firm.pen B10 W.fr.pen)
    have W := W.draw P10 B10
    clear P10 B10
    obtain ⟨nc, rfl⟩ := Int.eq_ofNat_of_zero_le r30
    refine ⟨(nc : Nat), rfl, by omega, by omega, for_range (lo := 0) (n := nc)
      (fun i σ H' => ∃ (its : List Item) (E : List EnE) (ivs rows : List V) (es : List (Ex × Nat)) (mes : List V) (mq : List (Str × Nat × Nat)) (x5 x6 x9 x10 x11 x12 x13 x14 x15 x16 x17 x18 x19 : Option V), σ = [some (.ref p), some (.str nmod), some (.ref al), some (.ref li), some (.ref ln), x5, x6, some (.ref rg), some (.ref me), x9, x10, x11, x12, x13, x14, x15, x16, x17, x18, x19] ∧ Ws K H H' p c (m + 10 + 30 * i) [(al, avs), (li, ivs), (ln, rows), (rg, rgs), (me, mes)] A avs its E ivs rows es (taken (1 + na) nb 0) ((List.range i).map (nmc "m")) [] (10 + 2 * i) ∧ RgOk K H' E rgs rq ∧ MeOk K H' E mes mq ∧ mes.length ≤ i)
      ⟨its, E, ivs, rows, es, [], [], _, _, _, _, _, _, _, _, _, _, _, _, _, rfl, W.more (by omega) (by omega), R, MeOk.nil, Nat.le_refl _⟩ ?_ ?_⟩
    · clear W R
      rintro i σ H11 hi ⟨its, E, ivs, rows, es, mes, mq, x5, x6, x9, x10, x11, x12, x13, x14, x15, x16, x17, x18, x19, rfl, W, R, M, ml⟩
      have lay := nmc_lay "m" (by simp) i (by omega)
      refine ⟨_, rfl, p, c, _, 5, rfl, W.fr.pen, by omega, by decide, by decide, fun u H12 u0 u1 P12 B12 => ⟨_, _, rfl, rfl, ?_⟩⟩
      have R := R.firm (Firm.pen B12 W.fr.pen)
      have M := M.firm (Firm.pen B12 W.fr.pen)
      have W := W.draw P12 B12
      clear P12 B12
      obtain ⟨u, rfl⟩ := Int.eq_ofNat_of_zero_le u0
      refine ⟨_, rfl, p, c, _, 3, rfl, W.fr.pen, by omega, by decide, by decide, fun b H13 b0 b1 P13 B13 => ⟨_, _, rfl, rfl, _, _, rfl, ?_⟩⟩
      have R := R.firm (Firm.pen B13 W.fr.pen)
      have M := M.firm (Firm.pen B13 W.fr.pen)
      have W := W.draw P13 B13
      clear P13 B13
      obtain ⟨b, rfl⟩ := Int.eq_ofNat_of_zero_le b0
      have nn : nmc "m" i ∉ mmN E := by
        rw [W.n2]
        exact new_m i (by omega)
      refine ⟨_, rfl, .inl ⟨rfl, _, SqL.of (W.fr.get 1 rfl)⟩, _, rfl, _, rfl, nmc_log i (by omega), _, _, rfl, rfl, nmc_len "m" (by simp) i (by omega), _, rfl, _, rfl, (by show 4 ≤ sizeLine; decide), fun t nt => ⟨li, ivs, _, rfl, rfl, same_new nt _ _ (W.fr.get 1 rfl), Nat.lt_of_le_of_lt W.l1 (Nat.lt_of_lt_of_le (by omega : _ < 900) (by decide)), ?_⟩⟩
      obtain ⟨W, fa⟩ := W.item 1 rfl nli nt [.str "memory", .str (nmc "m" i), .int (1 + (u : Int)), .int (1 + (b : Int))] (.mem (nmc "m" i) (1 + u) (1 + b)) [.mm (nmc "m" i) (1 + u) (1 + b)] (fun H' _ h => .tup (SqT.of h) (.cons (.str _) (.cons (.str _) (.cons (.int _) (.cons (.int _) .nil))))) (.mem its E _ _ _ W.se.laid nn (by omega) (by omega) (by omega) (by omega)) (lay_mem lay) (ok_mm W.se.ok lay) (List.append_nil _) (show (List.range i).map (nmc "m") ++ [nmc "m" i] = (List.range (i + 1)).map (nmc "m") by rw [List.range_succ, List.map_append]; rfl) (fun _ h => h)
      have R := (R.firm fa).ext [.mm (nmc "m" i) (1 + u) (1 + b)]
      have M := (M.firm fa).ext [.mm (nmc "m" i) (1 + u) (1 + b)]
      clear fa
      refine ⟨_, rfl, .inl ⟨rfl, _, SqL.of (W.fr.get 4 rfl)⟩, _, rfl, _, rfl, nmc_log i (by omega), _, _, rfl, rfl, nmc_len "m" (by simp) i (by omega), _, rfl, _, rfl, (by show 3 ≤ sizeLine; decide), fun tg ntg => ⟨me, mes, _, rfl, rfl, same_new ntg _ _ (W.fr.get 4 rfl), Nat.lt_of_le_of_lt ml (Nat.lt_of_lt_of_le (by omega : _ < 900) (by decide)), ?_⟩⟩
      have sg := same_new (u := .tup [.str (nmc "m" i), .int (1 + (u : Int)), .int (1 + (b : Int))]) ntg
      obtain ⟨W, fg⟩ := (W.same sg).push 4 rfl me0 (mes ++ [.ref tg])
      have R := (R.firm (Firm.of sg)).firm fg
      have M := ((M.firm (Firm.of sg)).firm fg).push (t := tg) (q := (nmc "m" i, 1 + u, 1 + b)) (SqT.of (fg _ _ upd_same rfl)) ⟨mm_new nn, by show 1 ≤ 1 + u; omega, by show 1 + u ≤ 8; omega, by show 1 ≤ 1 + b; omega, by show 1 + b ≤ 3; omega, lay⟩
      clear sg fg
      generalize hH : upd _ me (HO.lst (mes ++ [V.ref tg])) = H15
      have W := at_heap (fun X => Ws K H X p c _ _ A avs _ _ _ rows es _ _ _ _) hH W
      have R := at_heap (fun X => RgOk K X _ rgs rq) hH R
      have M := at_heap (fun X => MeOk K X _ _ _) hH M
      clear hH
      refine ⟨_, rfl, ln, rfl, ⟨_, SqL.of (W.fr.get 2 rfl)⟩, fun D nD => ?_⟩
      have D0 := but_none W.bu W.fr.pen nD
      obtain ⟨Dp, Dc⟩ := W.fr.pen.free nD
      have hln := W.fr.get 2 rfl
      refine lc_list (K := K) (a := ln) (xs := rows) (fun j H' => Same H15 H' ∧ ∃ (pvs : List V) (pes : List (Ex × Nat)), H' D = some (.lst pvs) ∧ pvs.length ≤ j ∧ All2 (NmR K H' (GmE (E ++ [.mm (nmc "m" i) (1 + u) (1 + b)])) 1 0) pvs pes) ⟨same_new nD, [], [], upd_same, Nat.le_refl _, .nil⟩ (fun j H' _ ⟨s, _⟩ => SqL.of (s _ _ hln)) ?_ ?_
      · rintro j y H16 hy ⟨s16, pvs, pes, h16, l16, a16⟩
        obtain ⟨⟨e, we⟩, he, t1, ev, rfl, ht1, hev, ne⟩ := W.se.na.get hy
        have ht1 := seqT_same s16 ht1
        have hev := hev.firm (Firm.of s16)
        refine ⟨rfl, ?_⟩
        rcases W.se.kn _ (List.mem_of_getElem? he) with ⟨l, el⟩ | ⟨mm, xx, el⟩
        · have el : e = .lf l := el
          subst el
          obtain ⟨t2, k, xs2, rfl, ht2, nk⟩ := lf_tag hev
          refine ⟨_, rfl, t1, _, 0, _, rfl, rfl, ht1, at_of (j := 0) rfl rfl, t2, _, 0, _, rfl, rfl, ht2, at_of (j := 0) rfl rfl, rfl, _, rfl, ?_⟩
          refine goT (by rw [decide_eq_false (fun z => nk (V.str.inj z))]; rfl) ⟨_, rfl, pvs, h16, Nat.lt_of_le_of_lt l16 (Nat.lt_of_lt_of_le (by have := (List.getElem?_eq_some_iff.mp hy).1; have := W.l2; omega : j < 900) (by decide)), fun b o e => ?_, pvs ++ [.ref t1], pes ++ [(.lf l, we)], upd_same, by rw [List.length_append]; exact Nat.add_le_add_right l16 1, ?_⟩
          · rw [upd_ne (ne_of_none e nD)]
            exact s16 _ _ e
          · have fu := Firm.upd (o := .lst (pvs ++ [.ref t1])) h16 rfl
            exact (a16.imp fun _ _ h => h.firm fu).append (.cons ⟨t1, .ref t2, rfl, firm_seq fu ht1, hev.firm fu, plain_leaf ne rfl⟩ .nil)
        · have el : e = .op (.read mm) [xx] := el
          subst el
          obtain ⟨t2, xs2, rfl, ht2⟩ := rd_tag hev
          refine ⟨_, rfl, t1, _, 0, _, rfl, rfl, ht1, at_of (j := 0) rfl rfl, t2, _, 0, _, rfl, rfl, ht2, at_of (j := 0) rfl rfl, rfl, _, rfl, ?_⟩
          exact goF (by rw [decide_eq_true rfl]; rfl) ⟨s16, pvs, pes, h16, Nat.le_succ_of_le l16, a16⟩
      rintro H16 ⟨s16, pvs, pes, h16, l16, a16⟩
      have W := W.same s16
      have R := R.firm (Firm.of s16)
      have M := M.firm (Firm.of s16)
      clear hln s16 nD
      refine ⟨_, rfl, .inl ⟨rfl, _, SqL.of (W.fr.get 2 rfl)⟩, _, rfl, _, rfl, nmc_log i (by omega), _, _, rfl, rfl, nmc_len "m" (by simp) i (by omega), _, rfl, _, rfl, _, rfl, Or.inl ⟨GmE (E ++ [.mm (nmc "m" i) (1 + u) (1 + b)]), 1, 0, p, c, D, _, 1 + b, pvs, pes, rfl, W.fr.pen, by omega, Dp, h16, Nat.le_trans l16 (by have := W.l2; omega), a16, Nat.le_refl 1, by omega, by omega, fun H17 v x P17 B17 hx wt z hh => ⟨(by show 3 ≤ sizeLine; decide), fun tq ntq => ⟨_, rfl, (by show 2 ≤ sizeLine; decide), fun tr ntr => ?_⟩⟩⟩⟩
      have R := R.firm (Firm.pen B17 W.fr.pen)
      have M := M.firm (Firm.pen B17 W.fr.pen)
      have W := W.draw P17 B17
      clear P17 B17 h16 a16
      refine ⟨ln, rows, _, rfl, rfl, same_new ntr _ _ (same_new ntq _ _ (W.fr.get 2 rfl)), Nat.lt_of_le_of_lt W.l2 (Nat.lt_of_lt_of_le (by omega : _ < 900) (by decide)), ?_⟩
      obtain ⟨W, fb⟩ := W.row 2 rfl ln0 [.str "read", .str (nmc "m" i), v] (1 + u) (.op (.read (nmc "m" i)) [x]) ntq ntr (fun H' f h => by
        unfold ExAt exD exDs exDs
        exact .tup (SqT.of h) (.cons (.str _) (.cons (.str _) (.cons (hx.firm f) .nil)))) (nm_of W.se.ok (.read _ x (1 + u) (1 + b) (by omega) (mm_new nn) wt) (by rw [exZ_op, exZs_cons, exZs_nil]; omega) (by rw [exH_op, exHs_cons, exHs_nil]; omega) (by omega)) (.inr ⟨_, _, rfl⟩)
      exact ⟨_, _, _, _, _, _, _, _, _, _, _, _, _, _, _, _, _, _, _, _, rfl, W.more (by omega) (by omega), R.firm fb, M.firm fb, by rw [List.length_append]; exact Nat.add_le_add_right ml 1⟩
    clear W R
    rintro σ H11 ⟨its, E, ivs, rows, es, mes, mq, x5, x6, x9, x10, x11, x12, x13, x14, x15, x16, x17, x18, x19, rfl, W, R, M, ml⟩
    refine ⟨fun σ H' => ∃ (its : List Item) (E : List EnE) (ivs rows : List V) (es : List (Ex × Nat)) (x5 x6 x9 x10 x11 x12 x13 x14 x15 x16 x17 x18 x19 : Option V), σ = [some (.ref p), some (.str nmod), some (.ref al), some (.ref li), some (.ref ln), x5, x6, some (.ref rg), some (.ref me), x9, x10, x11, x12, x13, x14, x15, x16, x17, x18, x19] ∧ Ws K H H' p c (m + 7000) [(al, avs), (li, ivs), (ln, rows), (rg, rgs), (me, mes)] A avs its E ivs rows es (taken (1 + na) nb 0) ((List.range nc).map (nmc "m")) ((List.range 2).map (nmc "u")) 140 ∧ RgOk K H' E rgs rq ∧ MeOk K H' E mes mq ∧ ivs.length ≤ 16, ?_, ?_⟩
    · have ivl := W.l1
      have avl := W.se.aa.len
      refine ⟨_, rfl, (by show 0 ≤ sizeLine; decide), fun le nle => ?_⟩
      have sle := same_new (u := .lst []) nle
      have hle := upd_same (H := H11) (a := le) (o := .lst [])
      have W := W.same sle
      have R := R.firm (Firm.of sle)
      have M := M.firm (Firm.of sle)
      generalize upd H11 le (.lst []) = H12 at W R M hle ⊢
      clear sle nle
      have sh := shaped_mds fun z hz => (mok z hz).lay
      refine ⟨.list (A.map mdD), .list [], .lst (SqL.of (W.fr.get 0 rfl)) (mds_dp W.se.aa), .lst (SqL.of hle) .nil, ?_, rfl, _, rfl, ?_⟩
      · show (PyData.canLayAll0 (A.map mdD) && decide (PyData.depthAll (A.map mdD) + 1 ≤ 64)) = true
        rw [sh.1, decide_eq_true (by omega)]
        rfl
      rw [eqv_nil]
      clear hle sh
      obtain ⟨I, hI⟩ : ∃ I : Nat → L2.St → Hp → Prop, I = fun i σ H' => ∃ (its : List Item) (E : List EnE) (ivs rows : List V) (es : List (Ex × Nat)) (x5 x6 x9 x10 x11 x12 x13 x14 x15 x16 x17 x18 x19 : Option V), σ = [some (.ref p), some (.str nmod), some (.ref al), some (.ref li), some (.ref ln), x5, x6, some (.ref rg), some (.ref me), x9, x10, x11, x12, x13, x14, x15, x16, x17, x18, x19] ∧ Ws K H H' p c (m + 80 + 3300 * i) [(al, avs), (li, ivs), (ln, rows), (rg, rgs), (me, mes)] A avs its E ivs rows es (taken (1 + na) nb 0) ((List.range nc).map (nmc "m")) ((List.range i).map (nmc "u")) (14 + 61 * i) ∧ RgOk K H' E rgs rq ∧ MeOk K H' E mes mq ∧ ivs.length ≤ 14 + i := ⟨_, rfl⟩
      have fin : ∀ k, k ≤ 2 → ∀ σ H', I k σ H' → ∃ (its : List Item) (E : List EnE) (ivs rows : List V) (es : List (Ex × Nat)) (x5 x6 x9 x10 x11 x12 x13 x14 x15 x16 x17 x18 x19 : Option V), σ = [some (.ref p), some (.str nmod), some (.ref al), some (.ref li), some (.ref ln), x5, x6, some (.ref rg), some (.ref me), x9, x10, x11, x12, x13, x14, x15, x16, x17, x18, x19] ∧ Ws K H H' p c (m + 7000) [(al, avs), (li, ivs), (ln, rows), (rg, rgs), (me, mes)] A avs its E ivs rows es (taken (1 + na) nb 0) ((List.range nc).map (nmc "m")) ((List.range 2).map (nmc "u")) 140 ∧ RgOk K H' E rgs rq ∧ MeOk K H' E mes mq ∧ ivs.length ≤ 16 := by
        intro k hk σ H' h
        rw [hI] at h
        obtain ⟨its, E, ivs, rows, es, x5, x6, x9, x10, x11, x12, x13, x14, x15, x16, x17, x18, x19, e, W, R, M, l⟩ := h
        refine ⟨its, E, ivs, rows, es, x5, x6, x9, x10, x11, x12, x13, x14, x15, x16, x17, x18, x19, e, ⟨(W.more (m' := m + 7000) (L' := 140) (by omega) (by omega)).fr, W.bu, W.se, W.n1, W.n2, fun y hy => ?_, Nat.le_trans W.l1 (by omega), Nat.le_trans W.l2 (by omega), W.gi⟩, R, M, by omega⟩
        obtain ⟨j, hj, rfl⟩ := List.mem_map.mp (W.n3 y hy)
        exact List.mem_map.mpr ⟨j, List.mem_range.mpr (by have := List.mem_range.mp hj; omega), rfl⟩
      by_cases hA0 : A = []
      · rw [show (A.map mdD).isEmpty = true by rw [hA0]; rfl]
        refine goF rfl ⟨0, rfl, by decide, by decide, for_range (lo := 0) (n := 0) I ?_ (fun i σ H' hi _ => absurd hi (Nat.not_lt_zero _)) fun σ H' h => fin 0 (by decide) σ H' h⟩
        rw [hI]
        exact ⟨its, E, ivs, rows, es, _, _, _, _, _, _, _, _, _, _, _, _, _, rfl, W.more (by omega) (by omega), R, M, by omega⟩
      rw [show (A.map mdD).isEmpty = false by cases A with | nil => exact (hA0 rfl).elim | cons _ _ => rfl]
      refine goT rfl ?_
      refine ⟨_, rfl, p, c, _, 3, rfl, W.fr.pen, by omega, by decide, by decide, fun r4 H13 r40 r41 P13 B13 => ?_⟩
      have R := R.firm (Firm.pen B13 W.fr.pen)
      have M := M.firm (Firm.pen B13 W.fr.pen)
      have W := W.draw P13 B13
      clear P13 B13
      obtain ⟨nd, rfl⟩ := Int.eq_ofNat_of_zero_le r40
      refine ⟨(nd : Nat), rfl, by omega, by omega, for_range (lo := 0) (n := nd) I (by rw [hI]; exact ⟨its, E, ivs, rows, es, _, _, _, _, _, _, _, _, _, _, _, _, _, rfl, W.more (by omega) (by omega), R, M, by omega⟩) ?_ fun σ H' h => fin nd (by omega) σ H' h⟩
      clear fin W R M ivl
      rintro i σ H14 hi hI'
      rw [hI] at hI'
      obtain ⟨its, E, ivs, rows, es, x5, x6, x9, x10, x11, x12, x13, x14, x15, x16, x17, x18, x19, rfl, W, R, M, il⟩ := hI'
      have lay := nmc_lay "u" (by simp) i (by omega)
      have apos : 0 < avs.length := by
        rw [avl]
        cases A with
        | nil => exact (hA0 rfl).elim
        | cons _ _ => exact Nat.succ_pos _
      refine ⟨_, rfl, _, rfl, p, c, al, _, avs, rfl, W.fr.pen, by omega, ap, SqL.of (W.fr.get 0 rfl), apos, by omega, fun v jj H15 hv P15 B15 => ?_⟩
      have R := R.firm (Firm.pen B15 W.fr.pen)
      have M := M.firm (Firm.pen B15 W.fr.pen)
      have W := W.draw P15 B15
      clear P15 B15
      obtain ⟨md, hmd, dmd⟩ := W.se.aa.get hv
      have ok := mok md (List.mem_of_getElem? hmd)
      obtain ⟨tm, ti, ixs, rfl, htm, hti, hix⟩ := md_at dmd
      have ixl := hix.len
      have okl := ok.len
      refine ⟨_, rfl, tm, _, 2, _, rfl, rfl, htm, at_of (j := 2) rfl rfl, ti, rfl, ⟨_, hti⟩, fun D nD => ?_⟩
      obtain ⟨Dp1, Dc1⟩ := W.fr.pen.free nD
      refine lc_tup (K := K) (a := ti) (xs := ixs) (fun j H' => Same H15 H' ∧ ∃ pvs : List V, H' D = some (.lst pvs) ∧ pvs.length ≤ j ∧ All2 (PtAt K H') pvs (insOf (md.items.take j))) ⟨same_new nD, [], upd_same, Nat.le_refl _, .nil⟩ (fun j H' _ ⟨s, _⟩ => seqT_same s hti) ?_ ?_
      · rintro j y H16 hy ⟨s16, pvs, h16, l16, a16⟩
        obtain ⟨it, hit, dit⟩ := hix.get hy
        obtain ⟨t1, k1, xs1, rfl, ht1, hk1⟩ := tag_in dit (ok.sg it (List.mem_of_getElem? hit))
        have ht1 := seqT_same s16 ht1
        have jl := (List.getElem?_eq_some_iff.mp hy).1
        refine ⟨rfl, _, rfl, t1, _, 0, _, rfl, rfl, ht1, at_of (j := 0) rfl rfl, rfl, _, rfl, ?_⟩
        rcases hk1 with ⟨rfl, n1, w1, e1, rfl⟩ | ⟨nk, e1⟩
        · refine goT (decide_eq_true rfl) ⟨_, rfl, pvs, h16, Nat.lt_of_le_of_lt l16 (Nat.lt_of_lt_of_le (by omega : j < 900) (by decide)), fun b o e => ?_, pvs ++ [.ref t1], upd_same, by rw [List.length_append]; exact Nat.add_le_add_right l16 1, ?_⟩
          · rw [upd_ne (ne_of_none e nD)]
            exact s16 _ _ e
          · have fu := Firm.upd (o := .lst (pvs ++ [.ref t1])) h16 rfl
            rw [tk hit, ins_app, e1]
            exact (a16.imp fun _ _ h => h.firm fu).append (.cons ⟨t1, rfl, firm_seq fu ht1⟩ .nil)
        · exact goF (decide_eq_false fun z => nk (V.str.inj z)) ⟨s16, pvs, h16, Nat.le_succ_of_le l16, by rw [tk hit, ins_app, e1, List.append_nil]; exact a16⟩
      rintro H16 ⟨s16, pvs, h16, l16, a16⟩
      rw [ixl, List.take_length] at a16
      have htm := seqT_same s16 htm
      have hti := seqT_same s16 hti
      have hix : All2 (fun v it => Dp K H16 v (itD it)) ixs md.items := hix.imp fun _ it x => dp_firm (Firm.of s16) (it_noL it) x
      have R := R.firm (Firm.of s16)
      have M := M.firm (Firm.of s16)
      have W := W.same s16
      clear s16 nD dmd
      have a16l := a16.len
      refine ⟨_, rfl, D, rfl, ⟨_, SqL.of h16⟩, fun D2 nD2 => ?_⟩
      obtain ⟨Dp2, Dc2⟩ := W.fr.pen.free nD2
      refine lc_list (K := K) (a := D) (xs := pvs) (fun j H' => PenC H' p c (m + 80 + 3300 * i + 1 + 80 * j) ∧ But p H16 H' ∧ ∃ (gvs : List V) (g : List (Str × Ex)), H' D2 = some (.lst gvs) ∧ gvs.length = j ∧ All2 (GvAt K H') gvs g ∧ g.map (·.1) = ((insOf md.items).take j).map (·.1) ∧
          (∀ (a : Nat) (q : Str × Ex) (r : Str × Nat), g[a]? = some q → (insOf md.items)[a]? = some r → Wt (GmE E) q.2 r.2) ∧ ∀ q ∈ g, (PyData.str q.1).canLay0 = true ∧ (exD q.2).canLay0 = true ∧ (exD q.2).depth ≤ 9)
        ⟨W.fr.pen.same (same_new nD2), But.of_same (same_new nD2), [], [], upd_same, rfl, .nil, rfl, (fun _ _ _ h => by cases h), (fun _ h => by cases h)⟩ (fun j H' _ ⟨_, B, _⟩ => SqL.of (B _ _ h16 Dp1)) ?_ ?_
      · rintro j y H17 hy ⟨P17, B17, gvs, g, h17, l17, a17, e17, t17, y17⟩
        obtain ⟨q1, hq1, t1, rfl, ht1⟩ := a16.get hy
        have f17 := Firm.pen B17 W.fr.pen
        have ht1 := firm_seq f17 ht1
        have hln := B17 _ _ (W.fr.get 2 rfl) (W.fr.np 2 rfl)
        obtain ⟨q1a, q1b, q1c⟩ := ok.ins q1 (List.mem_of_getElem? hq1)
        have jl := (List.getElem?_eq_some_iff.mp hy).1
        have insl := ok.insl
        refine ⟨rfl, yes_of ?_⟩
        refine ⟨_, rfl, t1, _, 1, _, rfl, rfl, ht1, at_of (j := 1) rfl rfl, _, rfl, _, rfl, t1, _, 2, _, rfl, rfl, ht1, at_of (j := 2) rfl rfl, _, rfl, Or.inr ⟨GmE E, 5, 2, p, c, ln, _, q1.2, rows, es, rfl, P17, by omega, W.fr.np 2 rfl, hln, Nat.le_trans W.l2 (by omega), W.se.na.imp fun _ _ h => h.firm f17, by omega, q1a, by omega, fun H18 v x P18 B18 hx wt z hh => ⟨(by show 2 ≤ sizeLine; decide), fun tg ntg => ?_⟩⟩⟩
        have sg := same_new (u := .tup [.str q1.1, v]) ntg
        have h18 := sg _ _ (B18 _ _ h17 Dp2)
        have f18 := (Firm.pen B18 P17).trans (Firm.of sg)
        have fu := Firm.upd (o := .lst (gvs ++ [.ref tg])) h18 rfl
        have gl : g.length = j := by
          have := congrArg List.length e17
          rw [List.length_map, List.length_map, List.length_take] at this
          omega
        refine ⟨gvs, h18, Nat.lt_of_lt_of_le (by omega : gvs.length < 900) (by decide), ((P18.same sg).upd Dp2 Dc2).more (by omega), fun b o e nb => ?_, gvs ++ [.ref tg], g ++ [(q1.1, x)], upd_same, by rw [List.length_append, l17]; rfl, ?_, ?_, fun a q r hq hr => ?_, fun q hq => ?_⟩
        · rw [upd_ne (ne_of_none e nD2)]
          exact sg _ _ (B18 _ _ (B17 _ _ e nb) nb)
        · exact (a17.imp fun _ _ h => h.firm (f18.trans fu)).append (.cons ⟨tg, v, rfl, firm_seq fu (SqT.of upd_same), hx.firm ((Firm.of sg).trans fu)⟩ .nil)
        · rw [List.map_append, e17, tk hq1, List.map_append]
          rfl
        · rcases get_snoc hq with hq | ⟨ea, rfl⟩
          · exact t17 a q r hq hr
          · rw [ea, gl, hq1] at hr
            cases hr
            exact wt
        · rcases List.mem_append.mp hq with k | k
          · exact y17 q k
          · rw [List.mem_singleton.mp k]
            exact ⟨q1c, lay_wt W.se.ok wt, by have := (dep_all _).1 x (Nat.le_refl _); show (exD x).depth ≤ 9; omega⟩
      rintro H17 ⟨P17, B17, gvs, g, h17, l17, a17, e17, t17, y17⟩
      rw [a16l, List.take_length] at e17
      have insl := ok.insl
      refine ⟨D2, _, rfl, .inl ⟨SqL.of h17, fun tg ntg => ?_⟩⟩
      have sg := same_new (u := .tup gvs) ntg
      have f17 := (Firm.pen B17 W.fr.pen).trans (Firm.of sg)
      have htm := firm_seq f17 htm
      have hti := firm_seq f17 hti
      have hix : All2 (fun v it => Dp K (upd H17 tg (.tup gvs)) v (itD it)) ixs md.items := hix.imp fun _ it x => dp_firm f17 (it_noL it) x
      have R := R.firm f17
      have M := M.firm f17
      have W := (W.draw P17 B17).same sg
      have a17 := a17.imp fun _ _ h => GvAt.firm (Firm.of sg) h
      have htg := upd_same (H := H17) (a := tg) (o := .tup gvs)
      generalize upd H17 tg (.tup gvs) = H18 at htm hti hix R M W a17 htg ⊢
      clear sg f17 P17 B17 h17 a16 nD2
      have un : nmc "u" i ∉ ptN E := fun z => by
        obtain ⟨b, hb, e⟩ := List.mem_map.mp (W.n3 _ z)
        exact new_u i (by omega) b (List.mem_range.mp hb) e.symm
      refine ⟨_, rfl, .inl ⟨rfl, _, SqL.of (W.fr.get 1 rfl)⟩, _, rfl, _, rfl, nmc_log i (by omega), _, _, rfl, rfl, nmc_len "u" (by simp) i (by omega), _, rfl, tm, _, 1, _, rfl, rfl, htm, at_of (j := 1) rfl rfl, _, rfl, (by show 4 ≤ sizeLine; decide), fun t nt => ⟨li, ivs, _, rfl, rfl, same_new nt _ _ (W.fr.get 1 rfl), Nat.lt_of_le_of_lt W.l1 (Nat.lt_of_lt_of_le (by omega : _ < 900) (by decide)), ?_⟩⟩
      obtain ⟨W, fa⟩ := W.item (us' := (List.range (i + 1)).map (nmc "u")) 1 rfl nli nt [.str "use", .str (nmc "u" i), .str md.name, .ref tg] (.use (nmc "u" i) md.name g) (ports (nmc "u" i) (outsOf md.items)) (fun H' f h => .tup (SqT.of h) (.cons (.str _) (.cons (.str _) (.cons (.str _) (.cons (.tup (firm_seq f (SqT.of htg)) (giv_at (a17.imp fun _ _ x => x.firm f))) .nil))))) (.use its E _ md g W.se.laid un (List.mem_of_getElem? hmd) e17 t17) (lay_use lay (md_lay_name ok.lay.1) y17) (ok_ports W.se.ok lay fun q hq => (ok.outs q hq).2.2) (by rw [nmN_ports, List.append_nil]) (by rw [mmN_ports, List.append_nil]) (fun y hy => by
        rcases List.mem_append.mp hy with k | k
        · obtain ⟨b, hb, rfl⟩ := List.mem_map.mp k
          exact List.mem_map.mpr ⟨b, List.mem_range.mpr (by have := List.mem_range.mp hb; omega), rfl⟩
        · rw [ptN_ports _ _ y k]
          exact List.mem_map.mpr ⟨i, List.mem_range.mpr (by omega), rfl⟩)
      have R := (R.firm fa).ext (ports (nmc "u" i) (outsOf md.items))
      have M := (M.firm fa).ext (ports (nmc "u" i) (outsOf md.items))
      have htm := firm_seq fa htm
      have hti := firm_seq fa hti
      have hix := hix.imp fun _ it x => dp_firm fa (it_noL it) x
      generalize hH : upd _ li (HO.lst (ivs ++ [V.ref t])) = H19
      have W := at_heap (fun X => Ws K H X p c _ _ A avs _ _ _ rows es _ _ _ _) hH W
      have R := at_heap (fun X => RgOk K X _ rgs rq) hH R
      have M := at_heap (fun X => MeOk K X _ _ _) hH M
      have htm := at_heap (fun X => SqT K X tm _) hH htm
      have hti := at_heap (fun X => SqT K X ti _) hH hti
      have hix := at_heap (fun X => All2 (fun v it => Dp K X v (itD it)) ixs md.items) hH hix
      clear hH fa a17 htg e17
      have ptu : ∀ q ∈ outsOf md.items, (GmE (E ++ ports (nmc "u" i) (outsOf md.items))).pt (nmc "u" i) q.1 = some q.2 := fun q hq => by
        show ptOf (E ++ ports (nmc "u" i) (outsOf md.items)) (nmc "u" i) q.1 = some q.2
        rw [pt_app, pt_none un]
        exact pt_ports ok.nd hq
      refine ⟨_, rfl, tm, _, 2, _, rfl, rfl, htm, at_of (j := 2) rfl rfl, ti, rfl, ⟨_, hti⟩, fun D3 nD3 => ?_⟩
      obtain ⟨Dp3, Dc3⟩ := W.fr.pen.free nD3
      have D3n : ∀ q ∈ [(al, avs), (li, ivs ++ [.ref t]), (ln, rows), (rg, rgs), (me, mes)], q.1 ≠ D3 := fun q hq => ne_of_none (W.fr.at_ q hq).1 nD3
      refine lc_tup (K := K) (a := ti) (xs := ixs) (fun j H' => Same H19 H' ∧ ∃ ovs : List V, H' D3 = some (.lst ovs) ∧ ovs.length ≤ j ∧ All2 (OtAt K H') ovs (outsOf (md.items.take j))) ⟨same_new nD3, [], upd_same, Nat.le_refl _, .nil⟩ (fun j H' _ ⟨s, _⟩ => seqT_same s hti) ?_ ?_
      · rintro j y H20 hy ⟨s20, ovs, h20, l20, a20⟩
        obtain ⟨it, hit, dit⟩ := hix.get hy
        obtain ⟨t1, k1, xs1, rfl, ht1, hk1⟩ := tag_out dit (ok.sg it (List.mem_of_getElem? hit))
        have ht1 := seqT_same s20 ht1
        have jl := (List.getElem?_eq_some_iff.mp hy).1
        refine ⟨rfl, _, rfl, t1, _, 0, _, rfl, rfl, ht1, at_of (j := 0) rfl rfl, rfl, _, rfl, ?_⟩
        rcases hk1 with ⟨rfl, n1, w1, ev1, e1, rfl⟩ | ⟨nk, e1⟩
        · refine goT (decide_eq_true rfl) ⟨_, rfl, ovs, h20, Nat.lt_of_le_of_lt l20 (Nat.lt_of_lt_of_le (by omega : j < 900) (by decide)), fun b o e => ?_, ovs ++ [.ref t1], upd_same, by rw [List.length_append]; exact Nat.add_le_add_right l20 1, ?_⟩
          · rw [upd_ne (ne_of_none e nD3)]
            exact s20 _ _ e
          · have fu := Firm.upd (o := .lst (ovs ++ [.ref t1])) h20 rfl
            rw [tk hit, outs_app, e1]
            exact (a20.imp fun _ _ h => OtAt.firm fu h).append (.cons ⟨t1, ev1, rfl, firm_seq fu ht1⟩ .nil)
        · exact goF (decide_eq_false fun z => nk (V.str.inj z)) ⟨s20, ovs, h20, Nat.le_succ_of_le l20, by rw [tk hit, outs_app, e1, List.append_nil]; exact a20⟩
      rintro H20 ⟨s20, ovs, h20, l20, a20⟩
      rw [ixl, List.take_length] at a20
      have R := R.firm (Firm.of s20)
      have M := M.firm (Firm.of s20)
      have W := (W.same s20).add h20 D3n Dp3 Dc3
      clear s20 nD3 htm hti hix D3n
      refine ⟨D3, rfl, ⟨_, SqL.of h20⟩, for_list (K := K) (a := D3) (xs := ovs)
        (fun j σ H' => ∃ (rows : List V) (es : List (Ex × Nat)) (x6 x9 x10 x11 x12 x13 x14 x15 x16 x17 x18 x19 : Option V), σ = [some (.ref p), some (.str nmod), some (.ref al), some (.ref li), some (.ref ln), some (.int (0 + (i : Int))), x6, some (.ref rg), some (.ref me), x9, x10, x11, x12, x13, x14, x15, x16, x17, x18, x19] ∧ Ws K H H' p c (m + 80 + 3300 * i + 1 + 80 * pvs.length) [(al, avs), (li, ivs ++ [V.ref t]), (ln, rows), (rg, rgs), (me, mes), (D3, ovs)] A avs (its ++ [Item.use (nmc "u" i) md.name g]) (E ++ ports (nmc "u" i) (outsOf md.items)) (ivs ++ [V.ref t]) rows es (taken (1 + na) nb 0) ((List.range nc).map (nmc "m")) ((List.range (i + 1)).map (nmc "u")) (14 + 61 * i + 1 + j) ∧
          RgOk K H' (E ++ ports (nmc "u" i) (outsOf md.items)) rgs rq ∧ MeOk K H' (E ++ ports (nmc "u" i) (outsOf md.items)) mes mq ∧ All2 (OtAt K H') ovs (outsOf md.items))
        ⟨rows, es, _, _, _, _, _, _, _, _, _, _, _, _, rfl, W, R, M, a20⟩ (fun j σ H' _ ⟨_, _, _, _, _, _, _, _, _, _, _, _, _, _, _, W, _⟩ => SqL.of (W.fr.get 5 rfl)) ?_ ?_⟩
      · clear W R M h20
        rintro j y σ H21 hy ⟨rows, es, x6, x9, x10, x11, x12, x13, x14, x15, x16, x17, x18, x19, rfl, W, R, M, a21⟩
        obtain ⟨q1, hq1, t1, ev, rfl, ht1⟩ := a21.get hy
        have mq1 := List.mem_of_getElem? hq1
        obtain ⟨o1, o8, olay⟩ := ok.outs q1 mq1
        have jl := (List.getElem?_eq_some_iff.mp hy).1
        refine ⟨_, rfl, .inl ⟨rfl, _, SqL.of (W.fr.get 2 rfl)⟩, _, rfl, _, rfl, nmc_log i (by omega), _, _, rfl, rfl, nmc_len "u" (by simp) i (by omega), _, rfl, t1, _, 1, _, rfl, rfl, ht1, at_of (j := 1) rfl rfl, (by show 3 ≤ sizeLine; decide), fun tq ntq => ⟨_, rfl, t1, _, 2, _, rfl, rfl, seqT_same (same_new ntq) ht1, at_of (j := 2) rfl rfl, (by show 2 ≤ sizeLine; decide), fun tr ntr => ⟨ln, rows, _, rfl, rfl, same_new ntr _ _ (same_new ntq _ _ (W.fr.get 2 rfl)), Nat.lt_of_le_of_lt W.l2 (Nat.lt_of_lt_of_le (by omega : _ < 900) (by decide)), ?_⟩⟩⟩
        obtain ⟨W, fb⟩ := W.row 2 rfl ln0 [.str "port", .str (nmc "u" i), .str q1.1] q1.2 (.lf (.port (nmc "u" i) q1.1)) ntq ntr (fun H' _ h => by
          unfold ExAt exD
          exact .tup (SqT.of h) (.cons (.str _) (.cons (.str _) (.cons (.str _) .nil)))) (nm_of W.se.ok (.port _ _ q1.2 (by omega) (ptu q1 mq1)) (by rw [exZ_lf]; omega) (by rw [exH_lf]; omega) (by omega)) (.inl ⟨_, rfl⟩)
        exact ⟨_, _, _, _, _, _, _, _, _, _, _, _, _, _, rfl, W, R.firm fb, M.firm fb, a21.imp fun _ _ h => OtAt.firm fb h⟩
      · clear W R M h20
        rintro σ H21 ⟨rows, es, x6, x9, x10, x11, x12, x13, x14, x15, x16, x17, x18, x19, rfl, W, R, M, _⟩
        have W := Ws.drop (ls := [(al, avs), (li, ivs ++ [V.ref t]), (ln, rows), (rg, rgs), (me, mes)]) (x := (D3, ovs)) W
        rw [hI]
        exact ⟨_, _, _, _, _, _, _, _, _, _, _, _, _, _, _, _, _, _, rfl, W.more (by omega) (by omega), R, M, by rw [List.length_append]; exact Nat.add_le_add_right il 1⟩
    · clear W R M
      rintro σ H11 ⟨its, E, ivs, rows, es, x5, x6, x9, x10, x11, x12, x13, x14, x15, x16, x17, x18, x19, rfl, W, R, M, il⟩
      have mll := M.at_.len
      refine ⟨_, rfl, p, c, _, 2, rfl, W.fr.pen, by omega, by decide, by decide, fun r5 H12 r50 r51 P12 B12 => ⟨_, _, rfl, rfl, ?_⟩⟩
      have R := R.firm (Firm.pen B12 W.fr.pen)
      have M := M.firm (Firm.pen B12 W.fr.pen)
      have W := W.draw P12 B12
      clear P12 B12
      obtain ⟨nw, rfl⟩ := Int.eq_ofNat_of_zero_le r50
      refine ⟨((1 + nw : Nat) : Int), rfl, by omega, by omega, for_range (lo := 0) (n := 1 + nw)
        (fun i σ H' => ∃ (its : List Item) (E : List EnE) (ivs rows : List V) (es : List (Ex × Nat)) (x5 x6 x9 x10 x11 x12 x13 x14 x15 x16 x17 x18 x19 : Option V), σ = [some (.ref p), some (.str nmod), some (.ref al), some (.ref li), some (.ref ln), x5, x6, some (.ref rg), some (.ref me), x9, x10, x11, x12, x13, x14, x15, x16, x17, x18, x19] ∧ Ws K H H' p c (m + 7001 + 150 * i) [(al, avs), (li, ivs), (ln, rows), (rg, rgs), (me, mes)] A avs its E ivs rows es (taken (1 + na) nb i) ((List.range nc).map (nmc "m")) ((List.range 2).map (nmc "u")) (140 + 4 * i) ∧ RgOk K H' E rgs rq ∧ MeOk K H' E mes mq ∧ ivs.length ≤ 16 + 2 * i)
        ⟨its, E, ivs, rows, es, _, _, _, _, _, _, _, _, _, _, _, _, _, rfl, W, R, M, il⟩ ?_ ?_⟩
      · clear W R M il
        rintro i σ H13 hi ⟨its, E, ivs, rows, es, x5, x6, x9, x10, x11, x12, x13, x14, x15, x16, x17, x18, x19, rfl, W, R, M, il⟩
        have lay := nmc_lay "w" (by simp) i (by omega)
        refine ⟨_, rfl, p, c, _, 8, rfl, W.fr.pen, by omega, by decide, by decide, fun u H14 u0 u1 P14 B14 => ⟨_, _, rfl, rfl, ?_⟩⟩
        have R := R.firm (Firm.pen B14 W.fr.pen)
        have M := M.firm (Firm.pen B14 W.fr.pen)
        have W := W.draw P14 B14
        clear P14 B14
        obtain ⟨u, rfl⟩ := Int.eq_ofNat_of_zero_le u0
        have nn : nmc "w" i ∉ nmN E := by
          rw [W.n1]
          exact new_w (1 + na) (by omega) nb (by omega) i (by omega)
        refine ⟨_, rfl, .inl ⟨rfl, _, SqL.of (W.fr.get 1 rfl)⟩, _, rfl, (by show 2 ≤ sizeLine; decide), fun lb nlb => ?_⟩
        have lbp := (W.fr.pen.free nlb).1
        have slb := same_new (u := .lst [.str "wire", .str "output"]) nlb
        have R := R.firm (Firm.of slb)
        have M := M.firm (Firm.of slb)
        have W := W.same slb
        refine ⟨p, c, lb, _, _, rfl, W.fr.pen, by omega, lbp, SqL.of upd_same, (by show 0 < 2; decide), (by show 2 ≤ 1000; decide), fun kv kk H15 hv P15 B15 => ?_⟩
        obtain ⟨k, rfl, hk⟩ : ∃ k : Str, kv = .str k ∧ (k = "wire" ∨ k = "output") := by
          match kk, hv with
          | 0, hv => exact ⟨_, (Option.some.inj hv).symm, .inl rfl⟩
          | 1, hv => exact ⟨_, (Option.some.inj hv).symm, .inr rfl⟩
          | kk + 2, hv => simp at hv
        have R := R.firm (Firm.pen B15 W.fr.pen)
        have M := M.firm (Firm.pen B15 W.fr.pen)
        have W := W.draw P15 B15
        clear P15 B15 slb hv
        refine ⟨_, rfl, _, rfl, nmc_log i (by omega), _, _, rfl, rfl, nmc_len "w" (by simp) i (by omega), _, rfl, (by show 4 ≤ sizeLine; decide), fun t nt => ⟨li, ivs, _, rfl, rfl, same_new nt _ _ (W.fr.get 1 rfl), Nat.lt_of_le_of_lt W.l1 (Nat.lt_of_lt_of_le (by omega : _ < 900) (by decide)), ?_⟩⟩
        have st := same_new (u := .tup [.str k, .str (nmc "w" i), .int (1 + (u : Int)), .non]) nt
        obtain ⟨W, fg⟩ := (W.same st).push 1 rfl nli (ivs ++ [V.ref t])
        have R := (R.firm (Firm.of st)).firm fg
        have M := (M.firm (Firm.of st)).firm fg
        have ht := fg _ _ upd_same rfl
        generalize hH : upd _ li (HO.lst (ivs ++ [V.ref t])) = H16
        have W := at_heap (fun X => Ws K H X p c _ _ A avs _ _ _ rows es _ _ _ _) hH W
        have R := at_heap (fun X => RgOk K X _ rgs rq) hH R
        have M := at_heap (fun X => MeOk K X _ _ _) hH M
        have ht := at_heap (fun X => X t = some (.tup [.str k, .str (nmc "w" i), .int (1 + (u : Int)), .non])) hH ht
        clear hH fg st
        refine ⟨_, rfl, _, rfl, li, _, _, _, rfl, rfl, SqL.of (W.fr.get 1 rfl), at_last, ?_⟩
        delta tNoPart
        refine ⟨_, rfl, cut_any (K := K) (m := 3) rfl (SqT.of ht) (by show 3 ≤ 4; decide) fun t3 H17 s17 ht3 => ?_⟩
        have R := R.firm (Firm.of s17)
        have M := M.firm (Firm.of s17)
        have W := W.same s17
        refine ⟨_, rfl, _, rfl, _, rfl, Or.inr ⟨GmE E, 5, 2, p, c, ln, _, 1 + u, rows, es, rfl, W.fr.pen, by omega, W.fr.np 2 rfl, W.fr.get 2 rfl, Nat.le_trans W.l2 (by omega), W.se.na, by omega, by omega, by omega, fun H18 v x P18 B18 hx wt z hh => ⟨(by show 1 ≤ sizeLine; decide), fun t4 nt4 => ?_⟩⟩⟩
        have s4 := same_new (u := .tup [v]) nt4
        have f18 := (Firm.pen B18 W.fr.pen).trans (Firm.of s4)
        have R := R.firm f18
        have M := M.firm f18
        have W := (W.draw P18 B18).same s4
        refine cat_use (K := K) (firm_seq f18 ht3) (SqT.of upd_same) (by show 3 + 1 ≤ sizeLine; decide) fun t5 H19 s19 ht5 => ?_
        have R := R.firm (Firm.of s19)
        have M := M.firm (Firm.of s19)
        have W := W.same s19
        have hx := hx.firm ((Firm.of s4).trans (Firm.of s19))
        clear f18 s4 P18 B18 ht ht3 s17 s19 nt4
        refine ⟨_, rfl, _, rfl, li, ivs ++ [V.ref t], _, ivs.length, rfl, rfl, W.fr.get 1 rfl, ix_last, ?_⟩
        rw [set_last]
        obtain ⟨W, fh⟩ := W.item2 1 rfl nli (.ref t5) (.sig k (nmc "w" i) (1 + u) x) [.nm (nmc "w" i) (1 + u)] (.tup ht5 (.cons (.str _) (.cons (.str _) (.cons (.int _) (.cons hx .nil))))) (.sig its E k _ _ x W.se.laid hk nn (by omega) (by omega) wt) (lay_sig hk lay (lay_wt W.se.ok wt) hh) (ok_nm W.se.ok lay) (taken_w (1 + na) nb i) (List.append_nil _) (us' := (List.range 2).map (nmc "u")) (fun y h => by rcases List.mem_append.mp h with k | k; exact k; cases k)
        have R := (R.firm fh).ext [.nm (nmc "w" i) (1 + u)]
        have M := (M.firm fh).ext [.nm (nmc "w" i) (1 + u)]
        clear fh
        refine ⟨_, rfl, .inl ⟨rfl, _, SqL.of (W.fr.get 2 rfl)⟩, _, rfl, _, rfl, nmc_log i (by omega), _, _, rfl, rfl, nmc_len "w" (by simp) i (by omega), (by show 2 ≤ sizeLine; decide), fun tq ntq => ⟨_, rfl, (by show 2 ≤ sizeLine; decide), fun tr ntr => ⟨ln, rows, _, rfl, rfl, same_new ntr _ _ (same_new ntq _ _ (W.fr.get 2 rfl)), Nat.lt_of_le_of_lt W.l2 (Nat.lt_of_lt_of_le (by omega : _ < 900) (by decide)), ?_⟩⟩⟩
        obtain ⟨W, fb⟩ := W.row 2 rfl ln0 [.str "name", .str (nmc "w" i)] (1 + u) (.lf (.nam (nmc "w" i))) ntq ntr (fun H' _ h => at_nm h) (nm_ne W.se.ok (nm_new nn) (by omega)) (.inl ⟨_, rfl⟩)
        have R := R.firm fb
        have M := M.firm fb
        generalize hH : upd _ ln (HO.lst (rows ++ [V.ref tr])) = H20
        have W := at_heap (fun X => Ws K H X p c _ _ A avs _ _ _ _ _ _ _ _ _) hH W
        have R := at_heap (fun X => RgOk K X _ rgs rq) hH R
        have M := at_heap (fun X => MeOk K X _ _ _) hH M
        clear hH fb hx
        refine ⟨_, rfl, (by show 0 ≤ sizeLine; decide), fun le nle => ?_⟩
        have sle := same_new (u := .lst []) nle
        have W := W.same sle
        have R := R.firm (Firm.of sle)
        have M := M.firm (Firm.of sle)
        have sh := me_sh fun q hq => (M.ok q hq).2.2.2.2.2
        refine ⟨.list (mq.map meD), .list [], .lst (SqL.of (W.fr.get 4 rfl)) (me_dp M.at_), .lst (SqL.of upd_same) .nil, ?_, rfl, _, rfl, ?_⟩
        · show (PyData.canLayAll0 (mq.map meD) && decide (PyData.depthAll (mq.map meD) + 1 ≤ 64)) = true
          rw [sh.1, decide_eq_true (by omega)]
          rfl
        rw [eqv_nil]
        by_cases hq0 : mq = []
        · rw [show (mq.map meD).isEmpty = true by rw [hq0]; rfl]
          exact goF rfl (goF rfl ⟨_, _, _, _, _, _, _, _, _, _, _, _, _, _, _, _, _, _, rfl, W.more (by omega) (by omega), R, M, by rw [List.length_append]; show ivs.length + 1 ≤ _; omega⟩)
        rw [show (mq.map meD).isEmpty = false by cases mq with | nil => exact (hq0 rfl).elim | cons _ _ => rfl]
        refine goT rfl ⟨_, rfl, p, c, _, 2, rfl, W.fr.pen, by omega, by decide, by decide, fun z2 H21 z20 z21 P21 B21 => ⟨rfl, _, rfl, ?_⟩⟩
        have R := R.firm (Firm.pen B21 W.fr.pen)
        have M := M.firm (Firm.pen B21 W.fr.pen)
        have W := W.draw P21 B21
        clear P21 B21
        rcases Int.decEq z2 0 with hz | hz
        · exact goF (ijn hz) ⟨_, _, _, _, _, _, _, _, _, _, _, _, _, _, _, _, _, _, rfl, W.more (by omega) (by omega), R, M, by rw [List.length_append]; show ivs.length + 1 ≤ _; omega⟩
        subst hz
        refine goT (ijt rfl) ?_
        have mpos : 0 < mes.length := by
          rw [mll]
          cases mq with
          | nil => exact (hq0 rfl).elim
          | cons _ _ => exact Nat.succ_pos _
        refine ⟨_, rfl, .inl ⟨rfl, _, SqL.of (W.fr.get 1 rfl)⟩, _, rfl, _, rfl, _, rfl, p, c, me, _, mes, rfl, W.fr.pen, by omega, W.fr.np 4 rfl, SqL.of (W.fr.get 4 rfl), mpos, by omega, fun mv mk H22 hmv P22 B22 => ?_⟩
        obtain ⟨q3, hq3, tm, rfl, htm⟩ := M.at_.get hmv
        obtain ⟨k1, k2, k3, k4, k5, k6⟩ := M.ok q3 (List.mem_of_getElem? hq3)
        have htm := firm_seq (Firm.pen B22 W.fr.pen) htm
        have R := R.firm (Firm.pen B22 W.fr.pen)
        have M := M.firm (Firm.pen B22 W.fr.pen)
        have W := W.draw P22 B22
        clear P22 B22
        refine ⟨_, rfl, GmE _, p, c, ln, tm, _, q3.2.1, q3.2.2, q3.1, _, _, rfl, htm, W.fr.pen, by omega, W.fr.np 2 rfl, W.fr.get 2 rfl, Nat.le_trans W.l2 (by omega), W.se.na, k2, k3, k4, by omega, fun H23 v2 a e1 e2 P23 B23 dv ta t1 t2 ha h1 h2 => ⟨li, _, _, rfl, rfl, (W.draw P23 B23).fr.get 1 rfl, Nat.lt_of_le_of_lt W.l1 (Nat.lt_of_lt_of_le (by omega : _ < 900) (by decide)), ?_⟩⟩
        have R := R.firm (Firm.pen B23 W.fr.pen)
        have M := M.firm (Firm.pen B23 W.fr.pen)
        have W := W.draw P23 B23
        obtain ⟨W, fc⟩ := W.item1 1 rfl nli v2 (.wri q3.1 a e1 e2) dv (.wri _ _ q3.1 q3.2.1 q3.2.2 a e1 e2 W.se.laid k1 ta t1 t2) (lay_wri k6 (lay_wt W.se.ok ta) (lay_wt W.se.ok t1) (lay_wt W.se.ok t2) ha h1 h2)
        exact ⟨_, _, _, _, _, _, _, _, _, _, _, _, _, _, _, _, _, _, rfl, W.more (by omega) (by omega), R.firm fc, M.firm fc, by rw [List.length_append, List.length_append]; show ivs.length + 1 + 1 ≤ _; omega⟩
      clear W R M il
      rintro σ H13 ⟨its, E, ivs, rows, es, x5, x6, x9, x10, x11, x12, x13, x14, x15, x16, x17, x18, x19, rfl, W, R, M, il⟩
      refine ⟨_, rfl, rg, rfl, ⟨_, SqL.of (W.fr.get 3 rfl)⟩, for_list (K := K) (a := rg) (xs := rgs)
        (fun i σ H' => ∃ (its : List Item) (E : List EnE) (ivs rows : List V) (es : List (Ex × Nat)) (x5 x6 x9 x10 x11 x12 x13 x14 x15 x16 x17 x18 x19 : Option V), σ = [some (.ref p), some (.str nmod), some (.ref al), some (.ref li), some (.ref ln), x5, x6, some (.ref rg), some (.ref me), x9, x10, x11, x12, x13, x14, x15, x16, x17, x18, x19] ∧ Ws K H H' p c (m + 7310 + 90 * i) [(al, avs), (li, ivs), (ln, rows), (rg, rgs), (me, mes)] A avs its E ivs rows es (taken (1 + na) nb (1 + nw)) ((List.range nc).map (nmc "m")) ((List.range 2).map (nmc "u")) (150 + i) ∧ RgOk K H' E rgs rq ∧ MeOk K H' E mes mq ∧ ivs.length ≤ 20 + i)
        ⟨its, E, ivs, rows, es, _, _, _, _, _, _, _, _, _, _, _, _, _, rfl, W.more (by omega) (by omega), R, M, by omega⟩ (fun i σ H' _ ⟨_, _, _, _, _, _, _, _, _, _, _, _, _, _, _, _, _, _, _, W, _⟩ => SqL.of (W.fr.get 3 rfl)) ?_ ?_⟩
      · clear W R M il
        rintro i y σ H14 hy ⟨its, E, ivs, rows, es, x5, x6, x9, x10, x11, x12, x13, x14, x15, x16, x17, x18, x19, rfl, W, R, M, il⟩
        obtain ⟨q2, hq2, t1, rfl, ht1⟩ := R.at_.get hy
        obtain ⟨k1, k2, k3, k4⟩ := R.ok q2 (List.mem_of_getElem? hq2)
        have jl := (List.getElem?_eq_some_iff.mp hy).1
        refine ⟨t1, _, rfl, ht1, rfl, _, _, rfl, _, _, rfl, rfl, ?_⟩
        refine ⟨_, rfl, p, c, _, 5, rfl, W.fr.pen, by omega, by decide, by decide, fun z H15 z0 z1 P15 B15 => ⟨_, _, rfl, rfl, _, rfl, ?_⟩⟩
        have R := R.firm (Firm.pen B15 W.fr.pen)
        have M := M.firm (Firm.pen B15 W.fr.pen)
        have W := W.draw P15 B15
        clear P15 B15
        by_cases hz : 0 < z
        · refine goT (decide_eq_true hz) ?_
          refine ⟨_, rfl, .inl ⟨rfl, _, SqL.of (W.fr.get 1 rfl)⟩, _, rfl, _, rfl, _, rfl, _, rfl, Or.inr ⟨GmE E, 5, 2, p, c, ln, _, q2.2, rows, es, rfl, W.fr.pen, by omega, W.fr.np 2 rfl, W.fr.get 2 rfl, Nat.le_trans W.l2 (by omega), W.se.na, by omega, k2, by omega, fun H16 v x P16 B16 hx wt z hh => ⟨(by show 3 ≤ sizeLine; decide), fun t nt => ⟨li, ivs, _, rfl, rfl, same_new nt _ _ ((W.draw P16 B16).fr.get 1 rfl), Nat.lt_of_le_of_lt W.l1 (Nat.lt_of_lt_of_le (by omega : _ < 900) (by decide)), ?_⟩⟩⟩⟩
          have R := R.firm (Firm.pen B16 W.fr.pen)
          have M := M.firm (Firm.pen B16 W.fr.pen)
          have W := W.draw P16 B16
          obtain ⟨W, fa⟩ := W.item 1 rfl nli nt [.str "next", .str q2.1, v] (.nxt q2.1 x) [] (fun H' f h => .tup (SqT.of h) (.cons (.str _) (.cons (.str _) (.cons (hx.firm f) .nil)))) (by rw [List.append_nil]; exact .nxt _ _ q2.1 q2.2 x W.se.laid k1 wt) (lay_nxt k4 (lay_wt W.se.ok wt) hh) (by rw [List.append_nil]; exact W.se.ok) (List.append_nil _) (List.append_nil _) (us' := (List.range 2).map (nmc "u")) (fun y h => by rcases List.mem_append.mp h with k | k; exact k; cases k)
          exact ⟨_, _, _, _, _, _, _, _, _, _, _, _, _, _, _, _, _, _, rfl, W.more (by omega) (by omega), (R.firm fa).ext [], (M.firm fa).ext [], by rw [List.length_append]; show ivs.length + 1 ≤ _; omega⟩
        · exact goF (decide_eq_false hz) ⟨_, _, _, _, _, _, _, _, _, _, _, _, _, _, _, _, _, _, rfl, W.more (by omega) (by omega), R, M, by omega⟩
      clear W R M il
      rintro σ H13 ⟨its, E, ivs, rows, es, x5, x6, x9, x10, x11, x12, x13, x14, x15, x16, x17, x18, x19, rfl, W, R, M, il⟩
      refine ⟨_, rfl, me, rfl, ⟨_, SqL.of (W.fr.get 4 rfl)⟩, for_list (K := K) (a := me) (xs := mes)
        (fun i σ H' => ∃ (its : List Item) (E : List EnE) (ivs rows : List V) (es : List (Ex × Nat)) (x5 x6 x9 x10 x11 x12 x13 x14 x15 x16 x17 x18 x19 : Option V), σ = [some (.ref p), some (.str nmod), some (.ref al), some (.ref li), some (.ref ln), x5, x6, some (.ref rg), some (.ref me), x9, x10, x11, x12, x13, x14, x15, x16, x17, x18, x19] ∧ Ws K H H' p c (m + 7500 + 90 * i) [(al, avs), (li, ivs), (ln, rows), (rg, rgs), (me, mes)] A avs its E ivs rows es (taken (1 + na) nb (1 + nw)) ((List.range nc).map (nmc "m")) ((List.range 2).map (nmc "u")) (160 + i) ∧ RgOk K H' E rgs rq ∧ MeOk K H' E mes mq ∧ ivs.length ≤ 22 + i)
        ⟨its, E, ivs, rows, es, _, _, _, _, _, _, _, _, _, _, _, _, _, rfl, W.more (by omega) (by omega), R, M, by omega⟩ (fun i σ H' _ ⟨_, _, _, _, _, _, _, _, _, _, _, _, _, _, _, _, _, _, _, W, _⟩ => SqL.of (W.fr.get 4 rfl)) ?_ ?_⟩
      · clear W R M il
        rintro i y σ H14 hy ⟨its, E, ivs, rows, es, x5, x6, x9, x10, x11, x12, x13, x14, x15, x16, x17, x18, x19, rfl, W, R, M, il⟩
        obtain ⟨q3, hq3, tm, rfl, htm⟩ := M.at_.get hy
        obtain ⟨k1, k2, k3, k4, k5, k6⟩ := M.ok q3 (List.mem_of_getElem? hq3)
        have jl := (List.getElem?_eq_some_iff.mp hy).1
        refine ⟨_, rfl, p, c, _, 3, rfl, W.fr.pen, by omega, by decide, by decide, fun z H15 z0 z1 P15 B15 => ⟨_, _, rfl, rfl, _, rfl, ?_⟩⟩
        have htm := firm_seq (Firm.pen B15 W.fr.pen) htm
        have R := R.firm (Firm.pen B15 W.fr.pen)
        have M := M.firm (Firm.pen B15 W.fr.pen)
        have W := W.draw P15 B15
        clear P15 B15
        by_cases hz : 0 < z
        · refine goT (decide_eq_true hz) ?_
          refine ⟨_, rfl, .inl ⟨rfl, _, SqL.of (W.fr.get 1 rfl)⟩, _, rfl, _, rfl, _, rfl, GmE E, p, c, ln, tm, _, q3.2.1, q3.2.2, q3.1, rows, es, rfl, htm, W.fr.pen, by omega, W.fr.np 2 rfl, W.fr.get 2 rfl, Nat.le_trans W.l2 (by omega), W.se.na, k2, k3, k4, by omega, fun H23 v2 a e1 e2 P23 B23 dv ta t1 t2 ha h1 h2 => ⟨li, ivs, _, rfl, rfl, (W.draw P23 B23).fr.get 1 rfl, Nat.lt_of_le_of_lt W.l1 (Nat.lt_of_lt_of_le (by omega : _ < 900) (by decide)), ?_⟩⟩
          have R := R.firm (Firm.pen B23 W.fr.pen)
          have M := M.firm (Firm.pen B23 W.fr.pen)
          have W := W.draw P23 B23
          obtain ⟨W, fc⟩ := W.item1 1 rfl nli v2 (.wri q3.1 a e1 e2) dv (.wri _ _ q3.1 q3.2.1 q3.2.2 a e1 e2 W.se.laid k1 ta t1 t2) (lay_wri k6 (lay_wt W.se.ok ta) (lay_wt W.se.ok t1) (lay_wt W.se.ok t2) ha h1 h2)
          exact ⟨_, _, _, _, _, _, _, _, _, _, _, _, _, _, _, _, _, _, rfl, W.more (by omega) (by omega), R.firm fc, M.firm fc, by rw [List.length_append]; show ivs.length + 1 ≤ _; omega⟩
        · exact goF (decide_eq_false hz) ⟨_, _, _, _, _, _, _, _, _, _, _, _, _, _, _, _, _, _, rfl, W.more (by omega) (by omega), R, M, by omega⟩
      clear W R M il
      rintro σ H13 ⟨its, E, ivs, rows, es, x5, x6, x9, x10, x11, x12, x13, x14, x15, x16, x17, x18, x19, rfl, W, R, M, il⟩
      clear R M
      have lay : (PyData.str "y").canLay0 = true := by decide +kernel
      have nn : ("y" : Str) ∉ nmN E := by
        rw [W.n1]
        exact new_y (1 + na) (by omega) nb (by omega) (1 + nw) (by omega)
      refine ⟨_, rfl, .inl ⟨rfl, _, SqL.of (W.fr.get 1 rfl)⟩, _, rfl, _, rfl, Or.inr ⟨GmE E, 5, 2, p, c, ln, _, 1, rows, es, rfl, W.fr.pen, by omega, W.fr.np 2 rfl, W.fr.get 2 rfl, Nat.le_trans W.l2 (by omega), W.se.na, by omega, by omega, by omega, fun H16 v x P16 B16 hx wt z hh => ⟨(by show 4 ≤ sizeLine; decide), fun t nt => ⟨li, ivs, _, rfl, rfl, same_new nt _ _ ((W.draw P16 B16).fr.get 1 rfl), Nat.lt_of_le_of_lt W.l1 (Nat.lt_of_lt_of_le (by omega : _ < 900) (by decide)), ?_⟩⟩⟩⟩
      have W := W.draw P16 B16
      obtain ⟨W, fa⟩ := W.item 1 rfl nli nt [.str "output", .str "y", .int 1, v] (.sig "output" "y" 1 x) [.nm "y" 1] (fun H' f h => .tup (SqT.of h) (.cons (.str _) (.cons (.str _) (.cons (.int _) (.cons (hx.firm f) .nil))))) (.sig _ _ "output" "y" 1 x W.se.laid (.inr rfl) nn (by omega) (by omega) wt) (lay_sig (.inr rfl) lay (lay_wt W.se.ok wt) hh) (ok_nm W.se.ok lay) rfl (List.append_nil _) (us' := (List.range 2).map (nmc "u")) (fun y h => by rcases List.mem_append.mp h with k | k; exact k; cases k)
      refine ⟨_, rfl, _, rfl, li, _, rfl, .inl ⟨SqL.of (W.fr.get 1 rfl), fun tu ntu => ⟨(by show 3 ≤ sizeLine; decide), fun tr ntr => ?_⟩⟩⟩
      have su := same_new (u := .tup (ivs ++ [V.ref t])) ntu
      have sr := same_new (u := .tup [.str "module", .str nmod, .ref tu]) ntr
      have W := (W.same su).same sr
      refine q _ (.ref tr) _ _ (W.fr.pen.more (by omega)) W.bu (.tup (SqT.of upd_same) (.cons (.str _) (.cons (.str _) (.cons (.tup (SqT.of (sr _ _ upd_same)) (of_its W.se.ia)) .nil)))) W.se.laid ?_ W.se.lay (W.gi.elim (fun z => absurd (List.append_eq_nil_iff.mp z).2 (by decide)) id)
      rw [← W.se.ia.len, List.length_append]
      show ivs.length + 1 ≤ 40
      omega
end
end Xw
namespace Xg
open PySem PySem.Spec PyProof.Rows L2 Pen Dat Ki Fi Ep Eq Es Ev Xm Xn Xd Xw
/-! ## A drawn design -/
section
variable {A : List Md} {its : List Item} {E : List EnE}
theorem ins_le : ∀ its : List Item, (insOf its).length ≤ its.length
  | [] => Nat.le_refl _
  | .inp _ _ :: r => Nat.succ_le_succ (ins_le r)
  | .reg _ _ _ :: r => Nat.le_succ_of_le (ins_le r)
  | .mem _ _ _ :: r => Nat.le_succ_of_le (ins_le r)
  | .use _ _ _ :: r => Nat.le_succ_of_le (ins_le r)
  | .sig _ _ _ _ :: r => Nat.le_succ_of_le (ins_le r)
  | .nxt _ _ :: r => Nat.le_succ_of_le (ins_le r)
  | .wri _ _ _ _ :: r => Nat.le_succ_of_le (ins_le r)
theorem mem_ins : ∀ {its : List Item} {q : Str × Nat}, q ∈ insOf its → Item.inp q.1 q.2 ∈ its
  | .inp n w :: r, q, h => by
    rcases List.mem_cons.mp h with g | g
    · rw [g]
      exact List.mem_cons_self
    · exact List.mem_cons_of_mem _ (mem_ins g)
  | .reg _ _ _ :: r, q, h => List.mem_cons_of_mem _ (mem_ins (its := r) h)
  | .mem _ _ _ :: r, q, h => List.mem_cons_of_mem _ (mem_ins (its := r) h)
  | .use _ _ _ :: r, q, h => List.mem_cons_of_mem _ (mem_ins (its := r) h)
  | .sig _ _ _ _ :: r, q, h => List.mem_cons_of_mem _ (mem_ins (its := r) h)
  | .nxt _ _ :: r, q, h => List.mem_cons_of_mem _ (mem_ins (its := r) h)
  | .wri _ _ _ _ :: r, q, h => List.mem_cons_of_mem _ (mem_ins (its := r) h)
theorem mem_outs : ∀ {its : List Item} {q : Str × Nat}, q ∈ outsOf its → ∃ e, Item.sig "output" q.1 q.2 e ∈ its
  | .sig k n w e :: r, q, h => by
    have h : q ∈ (if k = "output" then (n, w) :: outsOf r else outsOf r) := h
    by_cases z : k = "output"
    · rw [if_pos z] at h
      rcases List.mem_cons.mp h with g | g
      · rw [g]
        exact ⟨e, by rw [z]; exact List.mem_cons_self⟩
      · obtain ⟨e2, m⟩ := mem_outs g
        exact ⟨e2, List.mem_cons_of_mem _ m⟩
    · rw [if_neg z] at h
      obtain ⟨e2, m⟩ := mem_outs h
      exact ⟨e2, List.mem_cons_of_mem _ m⟩
  | .inp _ _ :: r, q, h => let ⟨e, m⟩ := mem_outs (its := r) h; ⟨e, List.mem_cons_of_mem _ m⟩
  | .reg _ _ _ :: r, q, h => let ⟨e, m⟩ := mem_outs (its := r) h; ⟨e, List.mem_cons_of_mem _ m⟩
  | .mem _ _ _ :: r, q, h => let ⟨e, m⟩ := mem_outs (its := r) h; ⟨e, List.mem_cons_of_mem _ m⟩
  | .use _ _ _ :: r, q, h => let ⟨e, m⟩ := mem_outs (its := r) h; ⟨e, List.mem_cons_of_mem _ m⟩
  | .nxt _ _ :: r, q, h => let ⟨e, m⟩ := mem_outs (its := r) h; ⟨e, List.mem_cons_of_mem _ m⟩
  | .wri _ _ _ _ :: r, q, h => let ⟨e, m⟩ := mem_outs (its := r) h; ⟨e, List.mem_cons_of_mem _ m⟩
/-- what each item keeps -/
def ItOk : Item → Prop
  | .inp _ w => 1 ≤ w ∧ w ≤ 8
  | .sig k _ w _ => (k = "wire" ∨ k = "output") ∧ 1 ≤ w ∧ w ≤ 8
  | _ => True
theorem laid_ok (h : Laid A its E) : ∀ it ∈ its, ItOk it := by
  have key : ∀ (its : List Item) (it : Item), (∀ z ∈ its, ItOk z) → ItOk it → ∀ z ∈ its ++ [it], ItOk z := fun its it a b z hz => by
    rcases List.mem_append.mp hz with g | g
    · exact a z g
    · rw [List.mem_singleton.mp g]
      exact b
  induction h with
  | nil => exact fun _ h => by cases h
  | inp its E n w _ _ a b ih => exact key _ _ ih ⟨a, b⟩
  | reg its E n w r _ _ a b c ih => exact key _ _ ih trivial
  | mem its E n w b _ _ a c d e ih => exact key _ _ ih trivial
  | use its E n m g _ _ _ _ _ ih => exact key _ _ ih trivial
  | sig its E k n w e _ hk _ a b _ ih => exact key _ _ ih ⟨hk, a, b⟩
  | nxt its E n w e _ _ _ ih => exact key _ _ ih trivial
  | wri its E m w b a e1 e2 _ _ _ _ _ ih => exact key _ _ ih trivial
theorem laid_outs (h : Laid A its E) : ((outsOf its).map (·.1)).Nodup ∧ ∀ q ∈ outsOf its, q.1 ∈ nmN E := by
  have same : ∀ (its : List Item) (it : Item) (E F : List EnE), outsOf [it] = [] → (((outsOf its).map (·.1)).Nodup ∧ ∀ q ∈ outsOf its, q.1 ∈ nmN E) → ((outsOf (its ++ [it])).map (·.1)).Nodup ∧ ∀ q ∈ outsOf (its ++ [it]), q.1 ∈ nmN (E ++ F) := fun its it E F e h => by
    rw [outs_app, e, List.append_nil]
    refine ⟨h.1, fun q hq => ?_⟩
    rw [nmN_app]
    exact List.mem_append.mpr (.inl (h.2 q hq))
  induction h with
  | nil => exact ⟨by simp [outsOf], fun _ h => by cases h⟩
  | inp its E n w _ _ _ _ ih => exact same _ _ _ _ rfl ih
  | reg its E n w r _ _ _ _ _ ih => exact same _ _ _ _ rfl ih
  | mem its E n w b _ _ _ _ _ _ ih => exact same _ _ _ _ rfl ih
  | use its E n m g _ _ _ _ _ ih => exact same _ _ _ _ rfl ih
  | sig its E k n w e _ hk nn _ _ _ ih =>
    rcases hk with rfl | rfl
    · exact same _ _ _ _ rfl ih
    · rw [outs_app]
      refine ⟨?_, fun q hq => ?_⟩
      · rw [List.map_append]
        refine List.nodup_append.mpr ⟨ih.1, by simp [outsOf], fun x hx y hy e => ?_⟩
        have ey : y = n := List.mem_singleton.mp hy
        obtain ⟨q, hq, rfl⟩ := List.mem_map.mp hx
        exact nn (by rw [← ey, ← e]; exact ih.2 q hq)
      · rw [nmN_app]
        rcases List.mem_append.mp hq with g | g
        · exact List.mem_append.mpr (.inl (ih.2 q g))
        · have eq : q = (n, w) := List.mem_singleton.mp g
          rw [eq]
          exact List.mem_append.mpr (.inr List.mem_cons_self)
  | nxt its E n w e _ _ _ ih =>
    have := same its (.nxt n e) E [] rfl ih
    rwa [List.append_nil] at this
  | wri its E m w b a e1 e2 _ _ _ _ _ ih =>
    have := same its (.wri m a e1 e2) E [] rfl ih
    rwa [List.append_nil] at this
theorem str_of {k n : Str} {r : List PyData} (h : (PyData.tuple (.str k :: .str n :: r)).canLay0 = true) : (PyData.str n).canLay0 = true := by
  have h : ((PyData.str k).canLay0 && ((PyData.str n).canLay0 && PyData.canLayAll0 r)) = true := h
  exact (Bool.and_eq_true_iff.mp (Bool.and_eq_true_iff.mp h).2).1
theorem its_lay : ∀ {its : List Item}, (∀ it ∈ its, (itD it).canLay0 = true ∧ (itD it).depth ≤ 20) → PyData.canLayAll0 (its.map itD) = true ∧ PyData.depthAll (its.map itD) ≤ 20
  | [], _ => ⟨rfl, Nat.zero_le _⟩
  | it :: its, h => by
    obtain ⟨a, b⟩ := its_lay (its := its) fun z hz => h z (List.mem_cons_of_mem _ hz)
    obtain ⟨h1, h2⟩ := h it List.mem_cons_self
    refine ⟨lay_cons h1 a, ?_⟩
    show max (itD it).depth (PyData.depthAll (its.map itD)) ≤ 20
    omega
theorem md_ok {n : Str} (h : Laid A its E) (hl : its.length ≤ 40) (lay : ∀ it ∈ its, (itD it).canLay0 = true ∧ (itD it).depth ≤ 20) (hn : (PyData.str n).canLay0 = true) (one : insOf its ≠ []) : MdOk ⟨n, its⟩ := by
  have ok := laid_ok h
  refine ⟨by show its.length ≤ 60; omega, Nat.le_trans (ins_le its) hl, fun q hq => ?_, fun q hq => ?_, (laid_outs h).1, fun it hit k n w e z => ?_, ?_, one⟩
  · have m := mem_ins hq
    exact ⟨(ok _ m).1, (ok _ m).2, str_of (lay _ m).1⟩
  · obtain ⟨e, m⟩ := mem_outs hq
    exact ⟨(ok _ m).2.1, (ok _ m).2.2, str_of (lay _ m).1⟩
  · subst z
    exact (ok _ hit).1
  · obtain ⟨a, b⟩ := its_lay lay
    refine ⟨lay_cons (by decide +kernel) (lay_cons hn (lay_cons a rfl)), ?_⟩
    show max 0 (max 0 (max (PyData.depthAll (its.map itD) + 1) 0)) + 1 ≤ 24
    omega
end
/-- a whole design: each module over those ahead of it, its name by its place -/
structure DsOk (A : List Md) : Prop where
  laid : ∀ (j : Nat) (m : Md), A[j]? = some m → ∃ E, Laid (A.take j) m.items E
  ok : ∀ m ∈ A, MdOk m
  nm : ∀ (j : Nat) (m : Md), A[j]? = some m → ∃ c ∈ (["a", "b", "c"] : List Str), m.name = nmc c j
theorem DsOk.nil : DsOk [] := ⟨(fun _ _ h => by cases h), (fun _ h => by cases h), (fun _ _ h => by cases h)⟩
theorem DsOk.snoc {A : List Md} {m : Md} {E : List EnE} {c : Str} (h : DsOk A) (l : Laid A m.items E) (k : MdOk m) (hc : c ∈ (["a", "b", "c"] : List Str)) (hn : m.name = nmc c A.length) : DsOk (A ++ [m]) := by
  refine ⟨fun j z hz => ?_, fun z hz => ?_, fun j z hz => ?_⟩
  · rcases get_snoc hz with g | ⟨e, rfl⟩
    · obtain ⟨F, l⟩ := h.laid j z g
      refine ⟨F, ?_⟩
      rw [List.take_append_of_le_length (Nat.le_of_lt (List.getElem?_eq_some_iff.mp g).1)]
      exact l
    · rw [e, List.take_left]
      exact ⟨E, l⟩
  · rcases List.mem_append.mp hz with g | g
    · exact h.ok z g
    · rw [List.mem_singleton.mp g]
      exact k
  · rcases get_snoc hz with g | ⟨e, rfl⟩
    · exact h.nm j z g
    · rw [e]
      exact ⟨c, hc, hn⟩
theorem nmc_inj : ∀ c ∈ (["a", "b", "c"] : List Str), ∀ d ∈ (["a", "b", "c"] : List Str), ∀ i : Nat, i < 4 → ∀ j : Nat, j < 4 → nmc c i = nmc d j → i = j := by decide +kernel
def spWD (K : PySem.W.Frag) : Sp := fun vs H Q _ => ∃ (p c : Addr) (m : Nat), vs = [.ref p] ∧ PenC H p c m ∧ m ≤ 10000000 ∧
  ∀ (H' : Hp) (t : Addr) (ds : List V) (A : List Md), PenC H' p c (m + 30000) → But p H H' → H' t = some (.tup ds) → All2 (fun v m => Dp K H' v (mdD m)) ds A → 1 ≤ A.length → A.length ≤ 3 → DsOk A → Q (.ref t) H'
def rListOf (K : PySem.W.Frag) : List V → Hp → VK → Prop := fun xs H Q => ∃ p ys, xs = [V.ref p] ∧ (SqL K H p ys ∨ SqT K H p ys) ∧ ∀ l, H l = none → Q (.ref l) (upd H l (.lst ys))
section
variable {P : Program} {w : World} {K : PySem.W.Frag} {mg : Str → Option Value} {base : Heap} {f : Addr} {fd : FuncData}
abbrev nWD : List Str := ["_law_pen_here", "_law_modules", "_law_k"]
theorem scWD : FnScope nWD ["_law_pen_here"] (defScope sLWideDesign) := ⟨rfl, rfl, rfl, by decide +kernel, rfl, by decide +kernel, by decide +kernel⟩
theorem ok_wd (F : FnP K "_law_wide_design" sLWideDesign f fd) (T : Xw.Tx mg)
    {fDR fPI fWM : Addr} {dDR dPI dWM : FuncData}
    (GDR : FnOk P w K mg base CX0 1 fDR dDR ["_law_pen_here", "_law_many"] (spDraw)) (gDR : mg "_law_draw" = some (.ref fDR)) (kDR : PySem.W.keepIn K (.ref fDR) = true) (bDR : Binds K dDR ["_law_pen_here", "_law_many"] [])
    (GPI : FnOk P w K mg base CX0 2 fPI dPI ["_law_pen_here", "_law_some"] ((spPick K))) (gPI : mg "_law_pick" = some (.ref fPI)) (kPI : PySem.W.keepIn K (.ref fPI) = true) (bPI : Binds K dPI ["_law_pen_here", "_law_some"] [])
    (GWM : FnOk P w K mg base CX0 6 fWM dWM ["_law_pen_here", "_law_name", "_law_ahead"] ((spWM K))) (gWM : mg "_law_wide_module" = some (.ref fWM)) (kWM : PySem.W.keepIn K (.ref fWM) = true) (bWM : Binds K dWM ["_law_pen_here", "_law_name", "_law_ahead"] [])
    : FnOk P w K mg base CX0 7 f fd ["_law_pen_here"] (spWD K) := by
  refine F.ok scWD (fun vs H Q E h => ?_) (fun cdv A0 outer s H vs Q E hr h => ?_)
  · obtain ⟨p, c, m, rfl, _⟩ := h
    rfl
  · obtain ⟨p, c, m, rfl, hP, hm, q⟩ := h
    refine ⟨_, PSs.nox (pss_cons (ps_set (i := 1) scWD.nd rfl (Or.inl rfl) (pe_lst pa_nil))
      (pss_cons (ps_for PassesOwn.never rfl (pi_range1 (by rfl) T.range (pa_cons (pe_op op_add pe_int (pe_call GDR (hr.mono (by decide)) (by rfl) gDR kDR bDR .nil pass0 (pa_cons (pv 0) (pa_cons pe_int pa_nil)))) pa_nil)) (pg_name (i := 2) scWD.nd rfl (Or.inl rfl))
        (pss_one (ps_expr (pe_bm PySem.F.plainAttrs_list PySem.F.slot_list_append PySem.F.type_list_append mt_append (pv 1) (pa_cons (pe_call GWM (hr.mono (by decide)) (by rfl) gWM kWM bWM .nil pass0 (pa_cons (pv 0) (pa_cons (pe_op op_add_str (pe_call GPI (hr.mono (by decide)) (by rfl) gPI kPI bPI .nil pass0 (pa_cons (pv 0) (pa_cons (pe_lst (pa_cons pe_str (pa_cons pe_str (pa_cons pe_str pa_nil)))) pa_nil))) (pe_callTy call_str_int (by rfl) T.str (by decide +kernel) (pa_cons (pv 2) pa_nil))) (pa_cons (pe_callTy call_list_of (by rfl) T.list (by decide +kernel) (pa_cons (pv 1) pa_nil)) pa_nil)))) pa_nil)))))
      (pss_one (ps_ret (pe_callTy (T := "tuple") (r := rTupOf K) (by exact call_tuple_of) (by rfl) T.tuple (by decide +kernel) (pa_cons (pv 1) pa_nil)))))), ?_⟩
    refine ⟨(by show 0 ≤ sizeLine; decide), fun ml nml => ?_⟩
    obtain ⟨mlp, mlc⟩ := hP.free nml
    have s1 := same_new (u := .lst []) nml
    have h1 := upd_same (H := H) (a := ml) (o := .lst [])
    have P1 := hP.same s1
    generalize upd H ml (.lst []) = H1 at s1 h1 P1 ⊢
    refine ⟨_, rfl, p, c, m, 3, rfl, P1, by omega, by decide, by decide, fun r H2 r0 r1 P2 B2 => ⟨_, _, rfl, rfl, ?_⟩⟩
    obtain ⟨n, rfl⟩ := Int.eq_ofNat_of_zero_le r0
    have h2 := B2 _ _ h1 mlp
    refine ⟨((1 + n : Nat) : Int), rfl, by omega, by omega, for_range (lo := 0) (n := 1 + n)
      (fun i σ H' => ∃ (ds : List V) (A : List Md) (x2 : Option V), σ = [some (.ref p), some (.ref ml), x2] ∧ PenC H' p c (m + 1 + 9001 * i) ∧ But p H H' ∧ H' ml = some (.lst ds) ∧ All2 (fun v m => Dp K H' v (mdD m)) ds A ∧ A.length = i ∧ DsOk A)
      ⟨[], [], _, rfl, P2, (But.of_same s1).trans B2, h2, .nil, rfl, DsOk.nil⟩ ?_ ?_⟩
    · rintro i σ H3 hi ⟨ds, A, x2, rfl, P3, B3, h3, a3, l3, ok3⟩
      have dl := a3.len
      refine ⟨_, rfl, .inl ⟨rfl, _, SqL.of h3⟩, _, rfl, _, rfl, (by show 3 ≤ sizeLine; decide), fun lb nlb => ?_⟩
      have lbp := (P3.free nlb).1
      have sb := same_new (u := .lst [.str "a", .str "b", .str "c"]) nlb
      have P4 := P3.same sb
      refine ⟨p, c, lb, _, _, rfl, P4, by omega, lbp, SqL.of upd_same, (by show 0 < 3; decide), (by show 3 ≤ 1000; decide), fun kv kk H5 hv P5 B5 => ?_⟩
      obtain ⟨k, rfl, hk⟩ : ∃ k : Str, kv = .str k ∧ k ∈ (["a", "b", "c"] : List Str) := by
        match kk, hv with
        | 0, hv => exact ⟨_, (Option.some.inj hv).symm, by simp⟩
        | 1, hv => exact ⟨_, (Option.some.inj hv).symm, by simp⟩
        | 2, hv => exact ⟨_, (Option.some.inj hv).symm, by simp⟩
        | kk + 3, hv => simp at hv
      have k8 : k ∈ (["i", "r", "m", "u", "w", "a", "b", "c"] : List Str) := by
        simp only [List.mem_cons, List.not_mem_nil, or_false] at hk ⊢
        rcases hk with rfl | rfl | rfl <;> simp
      have h5 := B5 _ _ (sb _ _ h3) mlp
      have f5 := (Firm.of sb).trans (Firm.pen B5 P4)
      refine ⟨_, rfl, _, rfl, nmc_log i (by omega), _, _, rfl, rfl, nmc_len k k8 i (by omega), _, rfl, ml, ds, rfl, .inl (SqL.of h5), fun al nal => ?_⟩
      have sa := same_new (u := .lst ds) nal
      obtain ⟨alp, alc⟩ := P5.free nal
      have P6 := P5.same sa
      have h6 := sa _ _ h5
      have f6 := f5.trans (Firm.of sa)
      have a6 : All2 (fun v m => Dp K (upd H5 al (.lst ds)) v (mdD m)) ds A := a3.imp fun _ m x => dp_firm f6 (md_noL m) x
      refine ⟨p, c, al, _, nmc k i, A, ds, rfl, P6, by omega, alp, alc, upd_same, a6, by omega, ok3.ok, fun H7 v its E P7 B7 dv ld il ly one => ?_⟩
      have h7 := B7 _ _ h6 mlp
      have f7 := f6.trans (Firm.pen B7 P6)
      have fu := Firm.upd (o := .lst (ds ++ [v])) h7 rfl
      refine ⟨ml, ds, _, rfl, rfl, h7, Nat.lt_of_lt_of_le (by omega : ds.length < 9) (by decide), ds ++ [v], A ++ [⟨nmc k i, its⟩], _, rfl, (P7.upd mlp mlc).more (by omega), ?_, upd_same, ?_, by rw [List.length_append, l3]; rfl, ok3.snoc ld (md_ok ld il ly (nmc_lay k k8 i (by omega)) one) hk (by rw [l3])⟩
      · have Bt := ((B3.trans (But.of_same sb)).trans B5).trans ((But.of_same sa).trans B7)
        intro b u e nb
        rw [upd_ne (ne_of_none e nml)]
        exact Bt b u e nb
      · exact (a3.imp fun _ m x => dp_firm (f7.trans fu) (md_noL m) x).append (.cons (dp_firm fu (md_noL _) dv) .nil)
    · rintro σ H3 ⟨ds, A, x2, rfl, P3, B3, h3, a3, l3, ok3⟩
      refine ⟨_, rfl, ml, ds, rfl, .inl ⟨SqL.of h3, fun t nt => ?_⟩⟩
      have st := same_new (u := .tup ds) nt
      exact q _ t ds A ((P3.same st).more (by omega)) (B3.trans (But.of_same st)) upd_same (a3.imp fun _ m x => dp_firm (Firm.of st) (md_noL m) x) (by omega) (by omega) ok3
end
end Xg
namespace Xp
open PySem PySem.Spec PyProof.Rows L2 Pen Dat Ki Fi Ep Eq Es Ev Xm Xn Xd Xw Xg
/-! ## What the law and the program read off a drawn design -/
theorem DsOk.inj {A : List Md} (h : DsOk A) (l : A.length ≤ 3) {i j : Nat} {a b : Md} (hi : A[i]? = some a) (hj : A[j]? = some b) (e : a.name = b.name) : i = j := by
  have li := (List.getElem?_eq_some_iff.mp hi).1
  have lj := (List.getElem?_eq_some_iff.mp hj).1
  obtain ⟨c, hc, ec⟩ := h.nm i a hi
  obtain ⟨d, hd, ed⟩ := h.nm j b hj
  exact nmc_inj c hc d hd i (by omega) j (by omega) (by rw [← ec, ← ed, e])
/-- a drawn design at an address -/
structure DsAt (K : PySem.W.Frag) (H : Hp) (d : Addr) (ds : List V) (A : List Md) : Prop where
  seq : SqT K H d ds
  at_ : All2 (fun v m => Dp K H v (mdD m)) ds A
  l1 : 1 ≤ A.length
  l3 : A.length ≤ 3
  ok : DsOk A
theorem DsAt.firm {K : PySem.W.Frag} {H H' : Hp} {d : Addr} {ds : List V} {A : List Md} (f : Firm H H') (h : DsAt K H d ds A) : DsAt K H' d ds A :=
  ⟨firm_seq f h.seq, h.at_.imp fun _ m x => dp_firm f (md_noL m) x, h.l1, h.l3, h.ok⟩
/-- a word of an input's width -/
def WdAt (v : V) (q : Str × Nat) : Prop := ∃ z : Nat, v = .int (z : Nat) ∧ z < 2 ^ q.2
def spMO (K : PySem.W.Frag) : Sp := fun vs H Q _ => ∃ (d : Addr) (ds : List V) (A : List Md) (j : Nat) (m : Md) (v : V), vs = [.ref d, .str m.name] ∧ DsAt K H d ds A ∧ A[j]? = some m ∧ ds[j]? = some v ∧ ∀ H', Same H H' → Q v H'
def spPO (K : PySem.W.Frag) : Sp := fun vs H Q _ => ∃ (d : Addr) (ds : List V) (A : List Md) (j : Nat) (m : Md), vs = [.ref d, .str m.name] ∧ DsAt K H d ds A ∧ A[j]? = some m ∧ ∀ (H' : Hp) (l : Addr) (pvs : List V), Same H H' → H l = none → H' l = some (.lst pvs) → All2 (PtAt K H') pvs (insOf m.items) → Q (.ref l) H'
def spDI (K : PySem.W.Frag) : Sp := fun vs H Q _ => ∃ (p c d : Addr) (k : Nat) (ds : List V) (A : List Md) (j : Nat) (m : Md), vs = [.ref p, .ref d, .str m.name] ∧ PenC H p c k ∧ k ≤ 100000000 ∧ DsAt K H d ds A ∧ A[j]? = some m ∧
  ∀ (H' : Hp) (t : Addr) (ws : List V), PenC H' p c (k + 41) → But p H H' → SqT K H' t ws → All2 WdAt ws (insOf m.items) → Q (.ref t) H'
theorem at_back {α : Type} {R : V → α → Prop} : ∀ {vs : List V} {xs : List α}, All2 R vs xs → ∀ {j : Nat} {x : α}, xs[j]? = some x → ∃ v, vs[j]? = some v ∧ R v x
  | _, _, .cons h _, 0, _, e => by
    cases e
    exact ⟨_, rfl, h⟩
  | _, _, .cons _ t, j + 1, _, e => at_back t (j := j) e
section
variable {P : Program} {w : World} {K : PySem.W.Frag} {mg : Str → Option Value} {base : Heap} {f : Addr} {fd : FuncData}
abbrev nMO : List Str := ["_law_design", "_law_name", "_law_module_here"]
theorem scMO : FnScope nMO ["_law_design", "_law_name"] (defScope sLModule) := ⟨rfl, rfl, rfl, by decide +kernel, rfl, by decide +kernel, by decide +kernel⟩
theorem ok_mo (F : FnP K "_law_module" sLModule f fd) : FnOk P w K mg base CX0 1 f fd ["_law_design", "_law_name"] (spMO K) := by
  refine F.ok scMO (fun vs H Q E h => ?_) (fun cdv A0 outer s H vs Q E hr h => ?_)
  · obtain ⟨d, ds, A, j, m, v, rfl, _⟩ := h
    rfl
  · obtain ⟨d, ds, A, j, m, v, rfl, D0, hj, hv, q⟩ := h
    refine ⟨_, PSs.nox (pss_one (ps_ret (pe_ix ix_list (pe_lc (own := [("_law_module_here", 2)]) (g := gName 2) rfl scMO.nd (pi_tup (pv 0)) (blkOk_by (N := nMO) (sc := defScope sLModule) (by decide +kernel)) (fun _ _ _ _ _ => pg_name (i := 2) scMO.nd rfl (Or.inl rfl)) (fun _ _ _ _ _ => pts_one (pt_cmpR op_eq (pe_ix (r := L2.rIxT K) (by exact ix_tup) (pv 2) pe_int (fun _ _ => rfl)) (pv 1) (nomark _))) (fun _ _ _ _ _ => (pv 2))) pe_int (fun _ _ => rfl)))), ?_⟩
    refine ⟨_, rfl, d, rfl, ⟨_, D0.seq⟩, fun D nD => ?_⟩
    have dl := D0.at_.len
    have l3 := D0.l3
    refine lc_tup (K := K) (a := d) (xs := ds) (fun i H' => Same H H' ∧ H' D = some (.lst (if i ≤ j then [] else [v]))) ⟨same_new nD, by rw [if_pos (Nat.zero_le _)]; exact upd_same⟩ (fun i H' _ ⟨s, _⟩ => seqT_same s D0.seq) ?_ ?_
    · rintro i y H1 hy ⟨s1, h1⟩
      obtain ⟨mi, hmi, dmi⟩ := D0.at_.get hy
      obtain ⟨tm, ti, ixs, rfl, htm, hti, hix⟩ := md_at dmi
      have htm := seqT_same s1 htm
      have il := (List.getElem?_eq_some_iff.mp hy).1
      refine ⟨rfl, _, rfl, tm, _, 1, _, rfl, rfl, htm, at_of (j := 1) rfl rfl, _, rfl, rfl, _, rfl, ?_⟩
      by_cases ij : i = j
      · subst ij
        rw [hmi] at hj
        cases hj
        rw [hy] at hv
        cases hv
        rw [if_pos (Nat.le_refl _)] at h1
        refine goT (decide_eq_true rfl) ⟨_, rfl, [], h1, by decide, fun b o e => ?_, ?_⟩
        · rw [upd_ne (ne_of_none e nD)]
          exact s1 _ _ e
        · rw [if_neg (by omega)]
          exact upd_same
      · refine goF (decide_eq_false fun z => ij (DsOk.inj D0.ok D0.l3 hmi hj (V.str.inj z))) ⟨s1, ?_⟩
        by_cases lt : i < j
        · rw [if_pos (by omega)] at h1 ⊢
          exact h1
        · rw [if_neg (by omega)] at h1 ⊢
          exact h1
    · rintro H1 ⟨s1, h1⟩
      have jl := (List.getElem?_eq_some_iff.mp hv).1
      rw [if_neg (by omega)] at h1
      exact ⟨D, _, 0, _, rfl, rfl, SqL.of h1, at_of (j := 0) rfl rfl, q _ s1⟩
abbrev nPO : List Str := ["_law_design", "_law_name", "_law_item"]
theorem scPO : FnScope nPO ["_law_design", "_law_name"] (defScope sLPorts) := ⟨rfl, rfl, rfl, by decide +kernel, rfl, by decide +kernel, by decide +kernel⟩
theorem ok_po (F : FnP K "_law_ports" sLPorts f fd)
    {fMO : Addr} {dMO : FuncData}
    (GMO : FnOk P w K mg base CX0 1 fMO dMO ["_law_design", "_law_name"] ((spMO K))) (gMO : mg "_law_module" = some (.ref fMO)) (kMO : PySem.W.keepIn K (.ref fMO) = true) (bMO : Binds K dMO ["_law_design", "_law_name"] [])
    : FnOk P w K mg base CX0 2 f fd ["_law_design", "_law_name"] (spPO K) := by
  refine F.ok scPO (fun vs H Q E h => ?_) (fun cdv A0 outer s H vs Q E hr h => ?_)
  · obtain ⟨d, ds, A, j, m, rfl, _⟩ := h
    rfl
  · obtain ⟨d, ds, A, j, m, rfl, D0, hj, q⟩ := h
    refine ⟨_, PSs.nox (pss_one (ps_ret (pe_lc (own := [("_law_item", 2)]) (g := gName 2) rfl scPO.nd (pi_tup (pe_ix (r := L2.rIxT K) (by exact ix_tup) (pe_call GMO (hr.mono (by decide)) (by rfl) gMO kMO bMO .nil pass0 (pa_cons (pv 0) (pa_cons (pv 1) pa_nil))) pe_int (fun _ _ => rfl))) (blkOk_by (N := nPO) (sc := defScope sLPorts) (by decide +kernel)) (fun _ _ _ _ _ => pg_name (i := 2) scPO.nd rfl (Or.inl rfl)) (fun _ _ _ _ _ => pts_one (pt_cmpR op_eq (pe_ix (r := L2.rIxT K) (by exact ix_tup) (pv 2) pe_int (fun _ _ => rfl)) pe_str (nomark _))) (fun _ _ _ _ _ => (pv 2))))), ?_⟩
    obtain ⟨v, hv, dv⟩ := at_back D0.at_ hj
    refine ⟨_, rfl, _, rfl, d, ds, A, j, m, v, rfl, D0, hj, hv, fun H1 s1 => ?_⟩
    obtain ⟨tm, ti, ixs, rfl, htm, hti, hix⟩ := md_at dv
    have ok := D0.ok.ok m (List.mem_of_getElem? hj)
    have htm := seqT_same s1 htm
    have hti := seqT_same s1 hti
    have hix : All2 (fun v it => Dp K H1 v (itD it)) ixs m.items := hix.imp fun _ it x => dp_firm (Firm.of s1) (it_noL it) x
    have ixl := hix.len
    have okl := ok.len
    refine ⟨tm, _, 2, _, rfl, rfl, htm, at_of (j := 2) rfl rfl, ti, rfl, ⟨_, hti⟩, fun D nD => ?_⟩
    refine lc_tup (K := K) (a := ti) (xs := ixs) (fun j H' => Same H1 H' ∧ ∃ pvs : List V, H' D = some (.lst pvs) ∧ pvs.length ≤ j ∧ All2 (PtAt K H') pvs (insOf (m.items.take j))) ⟨same_new nD, [], upd_same, Nat.le_refl _, .nil⟩ (fun j H' _ ⟨s, _⟩ => seqT_same s hti) ?_ ?_
    · rintro j y H16 hy ⟨s16, pvs, h16, l16, a16⟩
      obtain ⟨it, hit, dit⟩ := hix.get hy
      obtain ⟨t1, k1, xs1, rfl, ht1, hk1⟩ := tag_in dit (ok.sg it (List.mem_of_getElem? hit))
      have ht1 := seqT_same s16 ht1
      have jl := (List.getElem?_eq_some_iff.mp hy).1
      refine ⟨rfl, _, rfl, t1, _, 0, _, rfl, rfl, ht1, at_of (j := 0) rfl rfl, rfl, _, rfl, ?_⟩
      rcases hk1 with ⟨rfl, n1, w1, e1, rfl⟩ | ⟨nk, e1⟩
      · refine goT (decide_eq_true rfl) ⟨_, rfl, pvs, h16, Nat.lt_of_le_of_lt l16 (Nat.lt_of_lt_of_le (by omega : j < 900) (by decide)), fun b o e => ?_, pvs ++ [.ref t1], upd_same, by rw [List.length_append]; exact Nat.add_le_add_right l16 1, ?_⟩
        · rw [upd_ne (ne_of_none e nD)]
          exact s16 _ _ e
        · have fu := Firm.upd (o := .lst (pvs ++ [.ref t1])) h16 rfl
          rw [tk hit, ins_app, e1]
          exact (a16.imp fun _ _ h => h.firm fu).append (.cons ⟨t1, rfl, firm_seq fu ht1⟩ .nil)
      · exact goF (decide_eq_false fun z => nk (V.str.inj z)) ⟨s16, pvs, h16, Nat.le_succ_of_le l16, by rw [tk hit, ins_app, e1, List.append_nil]; exact a16⟩
    rintro H16 ⟨s16, pvs, h16, l16, a16⟩
    rw [ixl, List.take_length] at a16
    exact q H16 D pvs (s1.trans s16) (none_back s1 nD) h16 a16
abbrev nDI : List Str := ["_law_pen_here", "_law_design", "_law_name", "_law_item"]
theorem scDI : FnScope nDI ["_law_pen_here", "_law_design", "_law_name"] (defScope sLDrawnInputs) := ⟨rfl, rfl, rfl, by decide +kernel, rfl, by decide +kernel, by decide +kernel⟩
theorem ok_di (F : FnP K "_law_drawn_inputs" sLDrawnInputs f fd) (T : Xw.Tx mg)
    {fDR fPO : Addr} {dDR dPO : FuncData}
    (GDR : FnOk P w K mg base CX0 1 fDR dDR ["_law_pen_here", "_law_many"] (spDraw)) (gDR : mg "_law_draw" = some (.ref fDR)) (kDR : PySem.W.keepIn K (.ref fDR) = true) (bDR : Binds K dDR ["_law_pen_here", "_law_many"] [])
    (GPO : FnOk P w K mg base CX0 2 fPO dPO ["_law_design", "_law_name"] ((spPO K))) (gPO : mg "_law_ports" = some (.ref fPO)) (kPO : PySem.W.keepIn K (.ref fPO) = true) (bPO : Binds K dPO ["_law_design", "_law_name"] [])
    : FnOk P w K mg base CX0 3 f fd ["_law_pen_here", "_law_design", "_law_name"] (spDI K) := by
  refine F.ok scDI (fun vs H Q E h => ?_) (fun cdv A0 outer s H vs Q E hr h => ?_)
  · obtain ⟨p, c, d, k, ds, A, j, m, rfl, _⟩ := h
    rfl
  · obtain ⟨p, c, d, k, ds, A, j, m, rfl, hP, hm, D0, hj, q⟩ := h
    refine ⟨_, PSs.nox (pss_one (ps_ret (pe_callTy (T := "tuple") (r := rTupOf K) (by exact call_tuple_of) (by rfl) T.tuple (by decide +kernel) (pa_cons (pe_lc (own := [("_law_item", 3)]) (g := gName 3) (tt := tYes) rfl scDI.nd (pi_list (pe_call GPO (hr.mono (by decide)) (by rfl) gPO kPO bPO .nil pass0 (pa_cons (pv 1) (pa_cons (pv 2) pa_nil)))) (blkOk_by (N := nDI) (sc := defScope sLDrawnInputs) (by decide +kernel)) (fun _ _ _ _ _ => pg_name (i := 3) scDI.nd rfl (Or.inl rfl)) (fun _ _ _ _ _ => pts_nil) (fun _ _ _ _ _ => (pe_call GDR (hr.mono (by decide)) (by rfl) gDR kDR bDR .nil pass0 (pa_cons (pv 0) (pa_cons (pe_op op_oneShl pe_int (pe_ix (r := L2.rIxT K) (by exact ix_tup) (pv 3) pe_int (fun _ _ => rfl))) pa_nil))))) pa_nil)))), ?_⟩
    have ok := D0.ok.ok m (List.mem_of_getElem? hj)
    refine ⟨_, rfl, _, rfl, d, ds, A, j, m, rfl, D0, hj, fun H1 l pvs s1 nl h1 a1 => ?_⟩
    have P1 := hP.same s1
    obtain ⟨lp, lc⟩ := hP.free nl
    refine ⟨l, rfl, ⟨_, SqL.of h1⟩, fun D nD => ?_⟩
    obtain ⟨Dp1, Dc1⟩ := P1.free nD
    have al := a1.len
    have insl := ok.insl
    refine lc_list (K := K) (a := l) (xs := pvs) (fun i H' => PenC H' p c (k + i) ∧ But p H1 H' ∧ ∃ ws : List V, H' D = some (.lst ws) ∧ ws.length = i ∧ All2 WdAt ws ((insOf m.items).take i))
      ⟨P1.same (same_new nD), But.of_same (same_new nD), [], upd_same, rfl, .nil⟩ (fun i H' _ ⟨_, B, _⟩ => SqL.of (B _ _ h1 lp)) ?_ ?_
    · rintro i y H2 hy ⟨P2, B2, ws, h2, l2, a2⟩
      obtain ⟨q1, hq1, t1, rfl, ht1⟩ := a1.get hy
      have f2 := Firm.pen B2 P1
      have ht1 := firm_seq f2 ht1
      obtain ⟨qa, qb, _⟩ := ok.ins q1 (List.mem_of_getElem? hq1)
      have il := (List.getElem?_eq_some_iff.mp hy).1
      refine ⟨rfl, yes_of ?_⟩
      refine ⟨_, rfl, _, rfl, t1, _, 2, _, rfl, rfl, ht1, at_of (j := 2) rfl rfl, q1.2, rfl, rfl, by omega, p, c, _, _, rfl, P2, by omega, Int.pow_pos (by decide), p2lt _ (by omega), fun r H3 r0 r1 P3 B3 => ?_⟩
      obtain ⟨z, rfl⟩ := Int.eq_ofNat_of_zero_le r0
      have h3 := B3 _ _ h2 Dp1
      refine ⟨ws, h3, Nat.lt_of_lt_of_le (by omega : ws.length < 900) (by decide), (P3.upd Dp1 Dc1).more (by omega), fun b o e nb => ?_, ws ++ [.int z], upd_same, by rw [List.length_append, l2]; rfl, ?_⟩
      · rw [upd_ne (ne_of_none e nD)]
        exact B3 _ _ (B2 _ _ e nb) nb
      · rw [tk hq1]
        exact a2.append (.cons ⟨z, rfl, one_two r1⟩ .nil)
    · rintro H2 ⟨P2, B2, ws, h2, l2, a2⟩
      rw [al, List.take_length] at a2
      refine ⟨D, ws, rfl, .inl ⟨SqL.of h2, fun t nt => ?_⟩⟩
      have st := same_new (u := .tup ws) nt
      exact q _ t ws ((P2.same st).more (by omega)) (((But.of_same s1).trans B2).trans (But.of_same st)) (SqT.of upd_same) a2
end
end Xp
namespace Xq
open PySem PySem.Spec PyProof.Rows L2 Pen Dat Ki Fi Ep Eq Es Ev Xm Xn Xd Xw Xg Xp
/-! ## What the program reads off a drawn design -/
def wdV (q : Str × Nat) : V := .int (q.2 : Nat)
def spOK (K : PySem.W.Frag) : Sp := fun vs H Q _ => ∃ (ti tk : Addr) (ixs : List V) (its : List Item), vs = [.ref ti, .ref tk] ∧ SqT K H ti ixs ∧ SqT K H tk [.str "input"] ∧ All2 (fun v it => Dp K H v (itD it)) ixs its ∧ its.length ≤ 60 ∧ (∀ it ∈ its, SgOk it) ∧
  ∀ (H' : Hp) (l : Addr) (pvs : List V), Same H H' → H l = none → H' l = some (.lst pvs) → All2 (PtAt K H') pvs (insOf its) → Q (.ref l) H'
def spTI (K : PySem.W.Frag) : Sp := fun vs H Q _ => ∃ (d : Addr) (ds : List V) (A : List Md) (m : Md), vs = [.ref d] ∧ DsAt K H d ds (A ++ [m]) ∧
  ∀ (ti : Addr) (ixs : List V), SqT K H ti ixs → All2 (fun v it => Dp K H v (itD it)) ixs m.items → Q (.ref ti) H
def spIWD (K : PySem.W.Frag) : Sp := fun vs H Q _ => ∃ (ti : Addr) (ixs : List V) (its : List Item), vs = [.ref ti] ∧ SqT K H ti ixs ∧ All2 (fun v it => Dp K H v (itD it)) ixs its ∧ its.length ≤ 60 ∧ (∀ it ∈ its, SgOk it) ∧
  ∀ (H' : Hp) (l : Addr), Same H H' → H l = none → H' l = some (.lst ((insOf its).map wdV)) → Q (.ref l) H'
def spWID (K : PySem.W.Frag) : Sp := fun vs H Q _ => ∃ (d : Addr) (ds : List V) (A : List Md) (m : Md), vs = [.ref d] ∧ DsAt K H d ds (A ++ [m]) ∧
  ∀ (H' : Hp) (l : Addr), Same H H' → H l = none → H' l = some (.lst ((insOf m.items).map wdV)) → Q (.ref l) H'
def spGR : Sp := fun vs H Q _ => ∃ n : Nat, vs = [.int n] ∧ n ≤ 1000 ∧ Q (.int (2 ^ n - 1)) H
section
variable {P : Program} {w : World} {K : PySem.W.Frag} {mg : Str → Option Value} {base : Heap} {f : Addr} {fd : FuncData}
abbrev nOK : List Str := ["items", "kinds", "item"]
theorem scOK : FnScope nOK ["items", "kinds"] (defScope sOfKinds) := ⟨rfl, rfl, rfl, by decide +kernel, rfl, by decide +kernel, by decide +kernel⟩
theorem ok_ok (F : FnP K "of_kinds" sOfKinds f fd) : FnOk P w K mg base CX0 1 f fd ["items", "kinds"] (spOK K) := by
  refine F.ok scOK (fun vs H Q E h => ?_) (fun cdv A0 outer s H vs Q E hr h => ?_)
  · obtain ⟨ti, tk, ixs, its, rfl, _⟩ := h
    rfl
  · obtain ⟨ti, tk, ixs, its, rfl, hti, htk, hix, il, sg, q⟩ := h
    refine ⟨_, PSs.nox (pss_one (ps_ret (pe_lc (own := [("item", 2)]) (g := gName 2) rfl scOK.nd (pi_tup (pv 0)) (blkOk_by (N := nOK) (sc := defScope sOfKinds) (by decide +kernel)) (fun _ _ _ _ _ => pg_name (i := 2) scOK.nd rfl (Or.inl rfl)) (fun _ _ _ _ _ => pts_one (pt_cmpR (r := rIn K false) (by exact op_in_seq) (pe_ix (r := L2.rIxT K) (by exact ix_tup) (pv 2) pe_int (fun _ _ => rfl)) (pv 1) (by rfl))) (fun _ _ _ _ _ => (pv 2))))), ?_⟩
    have ixl := hix.len
    refine ⟨_, rfl, ti, rfl, ⟨_, hti⟩, fun D nD => ?_⟩
    refine lc_tup (K := K) (a := ti) (xs := ixs) (fun j H' => Same H H' ∧ ∃ pvs : List V, H' D = some (.lst pvs) ∧ pvs.length ≤ j ∧ All2 (PtAt K H') pvs (insOf (its.take j))) ⟨same_new nD, [], upd_same, Nat.le_refl _, .nil⟩ (fun j H' _ ⟨s, _⟩ => seqT_same s hti) ?_ ?_
    · rintro j y H16 hy ⟨s16, pvs, h16, l16, a16⟩
      obtain ⟨it, hit, dit⟩ := hix.get hy
      obtain ⟨t1, k1, xs1, rfl, ht1, hk1⟩ := tag_in dit (sg it (List.mem_of_getElem? hit))
      have ht1 := seqT_same s16 ht1
      have htk1 := seqT_same s16 htk
      have jl := (List.getElem?_eq_some_iff.mp hy).1
      refine ⟨rfl, _, rfl, t1, _, 0, _, rfl, rfl, ht1, at_of (j := 0) rfl rfl, _, rfl, tk, _, rfl, .inr htk1, rfl, rfl, _, rfl, ?_⟩
      rcases hk1 with ⟨rfl, n1, w1, e1, rfl⟩ | ⟨nk, e1⟩
      · refine goT rfl ⟨_, rfl, pvs, h16, Nat.lt_of_le_of_lt l16 (Nat.lt_of_lt_of_le (by omega : j < 900) (by decide)), fun b o e => ?_, pvs ++ [.ref t1], upd_same, by rw [List.length_append]; exact Nat.add_le_add_right l16 1, ?_⟩
        · rw [upd_ne (ne_of_none e nD)]
          exact s16 _ _ e
        · have fu := Firm.upd (o := .lst (pvs ++ [.ref t1])) h16 rfl
          rw [Xw.tk hit, ins_app, e1]
          exact (a16.imp fun _ _ h => h.firm fu).append (.cons ⟨t1, rfl, firm_seq fu ht1⟩ .nil)
      · refine goF ?_ ⟨s16, pvs, h16, Nat.le_succ_of_le l16, by rw [Xw.tk hit, ins_app, e1, List.append_nil]; exact a16⟩
        show ((("input" : Str) == k1) || false) = false
        rw [Bool.or_false]
        exact beq_eq_false_iff_ne.mpr fun z => nk z.symm
    rintro H16 ⟨s16, pvs, h16, l16, a16⟩
    rw [ixl, List.take_length] at a16
    exact q H16 D pvs s16 nD h16 a16
abbrev nTI : List Str := ["design"]
theorem scTI : FnScope nTI ["design"] (defScope sTopItems) := ⟨rfl, rfl, rfl, by decide +kernel, rfl, by decide +kernel, by decide +kernel⟩
theorem ok_ti (F : FnP K "top_items" sTopItems f fd) : FnOk P w K mg base CX0 1 f fd ["design"] (spTI K) := by
  refine F.ok scTI (fun vs H Q E h => ?_) (fun cdv A0 outer s H vs Q E hr h => ?_)
  · obtain ⟨d, ds, A, m, rfl, _⟩ := h
    rfl
  · obtain ⟨d, ds, A, m, rfl, D0, q⟩ := h
    refine ⟨_, PSs.nox (pss_one (ps_ret (pe_ifExp (pt_truth (pv 0) (by intro _; rfl)) (pe_ix (r := L2.rIxT K) (by exact ix_tup) (pe_ix (r := L2.rIxT K) (by exact ix_tup) (pv 0) (pe_un un_neg pe_int) (fun _ _ => rfl)) pe_int (fun _ _ => rfl)) (pe_tup pa_nil)))), ?_⟩
    obtain ⟨v, hv, dv⟩ := at_back D0.at_ (j := A.length) (x := m) (by simp)
    obtain ⟨tm, ti, ixs, rfl, htm, hti, hix⟩ := md_at dv
    have dl := D0.at_.len
    have dse : ds = ds.take A.length ++ [.ref tm] := by
      have := tk hv
      rw [List.take_of_length_le (by rw [dl, List.length_append]; exact Nat.le_refl _)] at this
      exact this
    refine ⟨_, rfl, true, .inr (.inl ⟨ds, D0.seq, ?_⟩), goT rfl ⟨_, rfl, 1, rfl, d, ds, -1, _, rfl, rfl, D0.seq, ?_, tm, _, 2, _, rfl, rfl, htm, at_of (j := 2) rfl rfl, q ti ixs hti hix⟩⟩
    · cases ds with
      | nil => simp at hv
      | cons _ _ => rfl
    · rw [dse]
      exact at_last
abbrev nIWD : List Str := ["items", "item"]
theorem scIWD : FnScope nIWD ["items"] (defScope sInputWidths) := ⟨rfl, rfl, rfl, by decide +kernel, rfl, by decide +kernel, by decide +kernel⟩
theorem ok_iwd (F : FnP K "input_widths" sInputWidths f fd)
    {fOK : Addr} {dOK : FuncData}
    (GOK : FnOk P w K mg base CX0 1 fOK dOK ["items", "kinds"] ((spOK K))) (gOK : mg "of_kinds" = some (.ref fOK)) (kOK : PySem.W.keepIn K (.ref fOK) = true) (bOK : Binds K dOK ["items", "kinds"] [])
    : FnOk P w K mg base CX0 2 f fd ["items"] (spIWD K) := by
  refine F.ok scIWD (fun vs H Q E h => ?_) (fun cdv A0 outer s H vs Q E hr h => ?_)
  · obtain ⟨ti, ixs, its, rfl, _⟩ := h
    rfl
  · obtain ⟨ti, ixs, its, rfl, hti, hix, il, sg, q⟩ := h
    refine ⟨_, PSs.nox (pss_one (ps_ret (pe_lc (own := [("item", 1)]) (g := gName 1) (tt := tYes) rfl scIWD.nd (pi_list (pe_call GOK (hr.mono (by decide)) (by rfl) gOK kOK bOK .nil pass0 (pa_cons (pv 0) (pa_cons (pe_tup (pa_cons pe_str pa_nil)) pa_nil)))) (blkOk_by (N := nIWD) (sc := defScope sInputWidths) (by decide +kernel)) (fun _ _ _ _ _ => pg_name (i := 1) scIWD.nd rfl (Or.inl rfl)) (fun _ _ _ _ _ => pts_nil) (fun _ _ _ _ _ => (pe_ix (r := L2.rIxT K) (by exact ix_tup) (pv 1) pe_int (fun _ _ => rfl)))))), ?_⟩
    refine ⟨_, rfl, (by show 1 ≤ sizeLine; decide), fun tk ntk => ?_⟩
    have sk := same_new (u := .tup [.str "input"]) ntk
    refine ⟨ti, tk, ixs, its, rfl, seqT_same sk hti, SqT.of upd_same, hix.imp fun _ it x => dp_firm (Firm.of sk) (it_noL it) x, il, sg, fun H1 l pvs s1 nl h1 a1 => ?_⟩
    have nl0 := none_back sk nl
    have il2 : (insOf its).length ≤ 60 := Nat.le_trans (ins_le its) il
    have al := a1.len
    refine ⟨l, rfl, ⟨_, SqL.of h1⟩, fun D nD => ?_⟩
    refine lc_list (K := K) (a := l) (xs := pvs) (fun i H' => Same H1 H' ∧ H' D = some (.lst (((insOf its).take i).map wdV)))
      ⟨same_new nD, upd_same⟩ (fun i H' _ ⟨s, _⟩ => s.seq (SqL.of h1)) ?_ ?_
    · rintro i y H2 hy ⟨s2, h2⟩
      obtain ⟨q1, hq1, t1, rfl, ht1⟩ := a1.get hy
      have ht1 := seqT_same s2 ht1
      have iil := (List.getElem?_eq_some_iff.mp hy).1
      refine ⟨rfl, yes_of ⟨_, rfl, t1, _, 2, _, rfl, rfl, ht1, at_of (j := 2) rfl rfl, _, h2, ?_, fun b o e => ?_, ?_⟩⟩
      · rw [List.length_map, List.length_take]
        exact Nat.lt_of_lt_of_le (by omega : _ < 900) (by decide)
      · rw [upd_ne (ne_of_none e nD)]
        exact s2 _ _ e
      · rw [Xw.tk hq1, List.map_append]
        exact upd_same
    · rintro H2 ⟨s2, h2⟩
      rw [al, List.take_length] at h2
      exact q H2 D ((sk.trans s1).trans s2) (none_back sk (none_back s1 nD)) h2
abbrev nWID : List Str := ["design"]
theorem scWID : FnScope nWID ["design"] (defScope sWidthsOfInputs) := ⟨rfl, rfl, rfl, by decide +kernel, rfl, by decide +kernel, by decide +kernel⟩
theorem ok_wid (F : FnP K "widths_of_inputs" sWidthsOfInputs f fd)
    {fIWD fTI : Addr} {dIWD dTI : FuncData}
    (GIWD : FnOk P w K mg base CX0 2 fIWD dIWD ["items"] ((spIWD K))) (gIWD : mg "input_widths" = some (.ref fIWD)) (kIWD : PySem.W.keepIn K (.ref fIWD) = true) (bIWD : Binds K dIWD ["items"] [])
    (GTI : FnOk P w K mg base CX0 1 fTI dTI ["design"] ((spTI K))) (gTI : mg "top_items" = some (.ref fTI)) (kTI : PySem.W.keepIn K (.ref fTI) = true) (bTI : Binds K dTI ["design"] [])
    : FnOk P w K mg base CX0 3 f fd ["design"] (spWID K) := by
  refine F.ok scWID (fun vs H Q E h => ?_) (fun cdv A0 outer s H vs Q E hr h => ?_)
  · obtain ⟨d, ds, A, m, rfl, _⟩ := h
    rfl
  · obtain ⟨d, ds, A, m, rfl, D0, q⟩ := h
    refine ⟨_, PSs.nox (pss_one (ps_ret (pe_call GIWD (hr.mono (by decide)) (by rfl) gIWD kIWD bIWD .nil pass0 (pa_cons (pe_call GTI (hr.mono (by decide)) (by rfl) gTI kTI bTI .nil pass0 (pa_cons (pv 0) pa_nil)) pa_nil)))), ?_⟩
    have ok := D0.ok.ok m (by simp)
    exact ⟨_, rfl, d, ds, A, m, rfl, D0, fun ti ixs hti hix => ⟨ti, ixs, m.items, rfl, hti, hix, ok.len, ok.sg, q⟩⟩
abbrev nGR : List Str := ["width"]
theorem scGR : FnScope nGR ["width"] (defScope sGreatest) := ⟨rfl, rfl, rfl, by decide +kernel, rfl, by decide +kernel, by decide +kernel⟩
theorem ok_gr (F : FnP K "greatest" sGreatest f fd) : FnOk P w K mg base CX0 1 f fd ["width"] spGR := by
  refine F.ok scGR (fun vs H Q E h => ?_) (fun cdv A0 outer s H vs Q E hr h => ?_)
  · obtain ⟨n, rfl, _⟩ := h
    rfl
  · obtain ⟨n, rfl, hn, q⟩ := h
    refine ⟨_, PSs.nox (pss_one (ps_ret (pe_op op_sub (pe_op op_oneShl pe_int (pv 0)) pe_int))), ?_⟩
    exact ⟨_, rfl, n, rfl, rfl, by omega, _, _, rfl, rfl, q⟩
end
end Xq
namespace Xr
open PySem PySem.Spec PyProof.Rows L2 Pen Dat Ki Fi Ep Eq Es Ev Xm Xn Xd Xw Xg Xp Xq Zp Ab
/-! ## Rows of words -/
structure Ty (mg : Str → Option Value) : Prop where
  ki : Ki.Tx mg
  zip : mg "zip" = none
  range : mg "range" = none
  sum : mg "sum" = none
  enumerate : mg "enumerate" = none
def wV (n : Nat) : V := .int (n : Nat)
def wordB (p : PyData × Nat) : Bool := betD p.1 0 (2 ^ p.2 - 1)
def wordsB (d : PyData) (ws : List Nat) : Bool := isRowD d && (decide ((rowsD d).length = ws.length) && (List.zip (rowsD d) ws).all wordB)
def wrowsB (d : PyData) (ws : List Nat) : Bool := isRowD d && (rowsD d).all fun e => wordsB e ws
def brows (d : PyData) (many : Int) : Bool := isRowD d && (rowsD d).all fun e => rowB e many 0 1
def spAW (K : PySem.W.Frag) : Sp := fun vs H Q _ => ∃ (v : V) (l : Addr) (d : PyData) (ws : List Nat), vs = [v, .ref l] ∧ Dp K H v d ∧ H l = some (.lst (ws.map wV)) ∧ (∀ n ∈ ws, n ≤ 1000) ∧ ws.length ≤ 1000 ∧ ∀ H', Same H H' → Q (.bl (wordsB d ws)) H'
def spAR (K : PySem.W.Frag) : Sp := fun vs H Q _ => ∃ (v : V) (l : Addr) (d : PyData) (ws : List Nat), vs = [v, .ref l] ∧ Dp K H v d ∧ H l = some (.lst (ws.map wV)) ∧ (∀ n ∈ ws, n ≤ 1000) ∧ ws.length ≤ 1000 ∧ (rowsD d).length ≤ 1000 ∧ ∀ H', Same H H' → Q (.bl (wrowsB d ws)) H'
theorem mk_same {H H1 : Hp} {D : Addr} {o : HO} (s : Same H H1) (n : H D = none) : Same H (upd H1 D o) := fun b u e => by
  rw [upd_ne (ne_of_none e n)]
  exact s _ _ e
section
variable {P : Program} {w : World} {K : PySem.W.Frag} {mg : Str → Option Value} {base : Heap} {f : Addr} {fd : FuncData}
abbrev nAW : List Str := ["value", "widths", "word", "width"]
theorem scAW : FnScope nAW ["value", "widths"] (defScope sAreWords) := ⟨rfl, rfl, rfl, by decide +kernel, rfl, by decide +kernel, by decide +kernel⟩
theorem ok_aw (F : FnP K "are_words" sAreWords f fd) (T : Ty mg)
    {fIR fIB fGR : Addr} {dIR dIB dGR : FuncData}
    (GIR : FnOk P w K mg base CX0 1 fIR dIR ["value"] ((spRow K))) (gIR : mg "is_row" = some (.ref fIR)) (kIR : PySem.W.keepIn K (.ref fIR) = true) (bIR : Binds K dIR ["value"] [])
    (GIB : FnOk P w K mg base CX0 1 fIB dIB ["value", "least", "most"] ((spBetween K))) (gIB : mg "is_between" = some (.ref fIB)) (kIB : PySem.W.keepIn K (.ref fIB) = true) (bIB : Binds K dIB ["value", "least", "most"] [])
    (GGR : FnOk P w K mg base CX0 1 fGR dGR ["width"] (spGR)) (gGR : mg "greatest" = some (.ref fGR)) (kGR : PySem.W.keepIn K (.ref fGR) = true) (bGR : Binds K dGR ["width"] [])
    : FnOk P w K mg base CX0 2 f fd ["value", "widths"] (spAW K) := by
  refine F.ok scAW (fun vs H Q E h => ?_) (fun cdv A0 outer s H vs Q E hr h => ?_)
  · obtain ⟨v, l, d, ws, rfl, _⟩ := h
    rfl
  · obtain ⟨v, l, d, ws, rfl, hd, hl, h1, wl, q⟩ := h
    refine ⟨_, PSs.nox (pss_cons (ps_if (PW.pt (pw_or (pt_not (pt_truth (pe_call GIR (hr.mono (by decide)) (by rfl) gIR kIR bIR .nil pass0 (pa_cons (pv 0) pa_nil)) (by intro _; rfl))) (pw_or1 (pt_cmpR op_ne (pe_callB call_len_seq (by rfl) T.ki.len PySem.boot_len (pa_cons (pv 0) pa_nil)) (pe_callB call_len_seq (by rfl) T.ki.len PySem.boot_len (pa_cons (pv 1) pa_nil)) (nomark _)))))
        (pss_one (ps_ret pe_bl))
        pss_nil)
      (pss_one (ps_ret (pe_callB (cr_all rfl) (by rfl) T.ki.all (by decide +kernel) (pa_cons (pe_lc (own := [("word", 2), ("width", 3)]) (g := _) (tt := tYes) rfl scAW.nd (Zp.pi_zipB (by rfl) T.zip (pa_cons (pv 0) (pa_cons (pv 1) pa_nil))) (blkOk_by (N := nAW) (sc := defScope sAreWords) (by decide +kernel)) (fun _ _ _ _ _ => (Us.pg_tupK (K := K) (n := 2) rfl rfl (pgs_cons (pg_name (i := 2) scAW.nd rfl (Or.inl rfl)) (pgs_cons (pg_name (i := 3) scAW.nd rfl (Or.inl rfl)) pgs_nil)))) (fun _ _ _ _ _ => pts_nil) (fun _ _ _ _ _ => (pe_call GIB (hr.mono (by decide)) (by rfl) gIB kIB bIB .nil pass0 (pa_cons (pv 2) (pa_cons pe_int (pa_cons (pe_call GGR (hr.mono (by decide)) (by rfl) gGR kGR bGR .nil pass0 (pa_cons (pv 3) pa_nil)) pa_nil)))))) pa_nil))))), ?_⟩
    cases r : isRowD d with
    | false =>
      refine ⟨_, rfl, v, d, rfl, hd, fun H1 s1 => ?_⟩
      rw [r]
      refine ⟨_, rfl, goT rfl (goT rfl ?_)⟩
      have e : wordsB d ws = false := by
        unfold wordsB
        rw [r]
        rfl
      rw [← e]
      exact q H1 s1
    | true =>
      refine ⟨_, rfl, v, d, rfl, hd, fun H1 s1 => ?_⟩
      rw [r]
      obtain ⟨tb, a, vs, rfl, sq, dp⟩ := row_at hd r
      have dlen := dps_len dp
      have sq1 := sqB_same s1 sq
      have hl1 := s1 _ _ hl
      refine ⟨_, rfl, goF rfl ⟨_, rfl, _, _, rfl, sqB_or sq1, _, rfl, _, _, rfl, .inl (SqL.of hl1), rfl, _, rfl, ?_⟩⟩
      by_cases e : vs.length = ws.length
      · refine goF (by rw [List.length_map, e, decide_eq_true rfl]; rfl) ?_
        refine ⟨_, rfl, _, rfl, tb, true, a, l, vs, _, rfl, sq1, SqL.of hl1, fun D nD => ?_⟩
        refine lc_zipB (K := K) (xs := vs) (ys := ws.map wV) (by rw [List.length_map, e]) (fun i H' => Same H1 H' ∧ H' D = some (.lst (((List.zip (rowsD d) ws).take i).map fun p => V.bl (wordB p)))) ⟨same_new nD, upd_same⟩ (fun i H' ⟨s, _⟩ => ⟨sqB_same s sq1, SqL.of (s _ _ hl1)⟩) ?_ ?_
        · rintro i y1 y2 qa H2 hx hy ⟨s2, h2⟩ nq
          obtain ⟨x, hx2, hv⟩ := dps_get dp hx
          obtain ⟨n, hn, rfl⟩ : ∃ n, ws[i]? = some n ∧ wV n = y2 := by
            rw [List.getElem?_map] at hy
            cases z : ws[i]? with
            | none => rw [z] at hy; cases hy
            | some n => rw [z] at hy; exact ⟨n, rfl, Option.some.inj hy⟩
          have hz : (List.zip (rowsD d) ws)[i]? = some (x, n) := by
            rw [List.getElem?_zip_eq_some]
            exact ⟨hx2, hn⟩
          have il := (List.getElem?_eq_some_iff.mp hn).1
          have sn := same_new (u := .tup [y1, wV n]) nq
          refine ⟨qa, _, rfl, SqT.of upd_same, rfl, _, _, rfl, _, _, rfl, rfl, rfl, yes_of ?_⟩
          refine ⟨_, rfl, _, rfl, n, rfl, h1 n (List.mem_of_getElem? hn), _, _, _, x, rfl, dp_same ((s1.trans s2).trans sn) hv, _, sn _ _ h2, ?_, mk_same (s2.trans sn) nD, ?_⟩
          · rw [List.length_map, List.length_take]
            exact Nat.lt_of_le_of_lt (Nat.min_le_left _ _) (Nat.lt_of_lt_of_le (by omega : i < 1001) (by decide))
          · rw [upd_same, Xw.tk hz, List.map_append]
            rfl
        · rintro H2 ⟨s2, h2⟩
          rw [List.take_of_length_le (by rw [List.length_zip, ← dlen]; omega)] at h2
          refine ⟨D, (List.zip (rowsD d) ws).map wordB, rfl, SqL.of ?_, ?_⟩
          · rw [h2, List.map_map]
            rfl
          · have z : wordsB d ws = ((List.zip (rowsD d) ws).map wordB).all id := by
              unfold wordsB
              rw [r, ← dlen, e, decide_eq_true rfl, List.all_map]
              rfl
            rw [← z]
            exact q _ (s1.trans s2)
      · refine goT ?_ ?_
        · have ne : ¬ V.int ((vs.length : Nat) : Int) = V.int ((ws.length : Nat) : Int) := fun z => e (by have := V.int.inj z; omega)
          rw [List.length_map, decide_eq_false ne]
          rfl
        have z : wordsB d ws = false := by
          unfold wordsB
          rw [r, ← dlen, decide_eq_false e]
          rfl
        show Q (V.bl false) H1
        rw [← z]
        exact q H1 s1
abbrev nAR : List Str := ["value", "widths", "row"]
theorem scAR : FnScope nAR ["value", "widths"] (defScope sAreWordRows) := ⟨rfl, rfl, rfl, by decide +kernel, rfl, by decide +kernel, by decide +kernel⟩
theorem ok_ar (F : FnP K "are_word_rows" sAreWordRows f fd) (T : Ty mg)
    {fIR fAW : Addr} {dIR dAW : FuncData}
    (GIR : FnOk P w K mg base CX0 1 fIR dIR ["value"] ((spRow K))) (gIR : mg "is_row" = some (.ref fIR)) (kIR : PySem.W.keepIn K (.ref fIR) = true) (bIR : Binds K dIR ["value"] [])
    (GAW : FnOk P w K mg base CX0 2 fAW dAW ["value", "widths"] ((spAW K))) (gAW : mg "are_words" = some (.ref fAW)) (kAW : PySem.W.keepIn K (.ref fAW) = true) (bAW : Binds K dAW ["value", "widths"] [])
    : FnOk P w K mg base CX0 3 f fd ["value", "widths"] (spAR K) := by
  refine F.ok scAR (fun vs H Q E h => ?_) (fun cdv A0 outer s H vs Q E hr h => ?_)
  · obtain ⟨v, l, d, ws, rfl, _⟩ := h
    rfl
  · obtain ⟨v, l, d, ws, rfl, hd, hl, h1, h2', dl, q⟩ := h
    obtain ⟨tb, htb⟩ : ∃ tb, isRowD d = true → ∃ a vs, v = .ref a ∧ SqB K tb H a vs ∧ DpAll K H vs (rowsD d) := by
      cases r : isRowD d with
      | false => exact ⟨true, fun z => by cases z⟩
      | true =>
        obtain ⟨tb, a, vs, e, x, y⟩ := row_at hd r
        exact ⟨tb, fun _ => ⟨a, vs, e, x, y⟩⟩
    refine ⟨_, PSs.nox (pss_one (ps_ret (pe_and (pe_call GIR (hr.mono (by decide)) (by rfl) gIR kIR bIR .nil pass0 (pa_cons (pv 0) pa_nil)) (pe_one (pe_callB (cr_all rfl) (by rfl) T.ki.all (by decide +kernel) (pa_cons (pe_lc (own := [("row", 2)]) (g := gName 2) (tt := tYes) rfl scAR.nd (Ab.pi_b (K := K) (t := tb) rfl (pv 0)) (blkOk_by (N := nAR) (sc := defScope sAreWordRows) (by decide +kernel)) (fun _ _ _ _ _ => pg_name (i := 2) scAR.nd rfl (Or.inl rfl)) (fun _ _ _ _ _ => pts_nil) (fun _ _ _ _ _ => (pe_call GAW (hr.mono (by decide)) (by rfl) gAW kAW bAW .nil pass0 (pa_cons (pv 2) (pa_cons (pv 1) pa_nil))))) pa_nil)))))), ?_⟩
    have hN : (rowsD d).length ≤ 1000 := dl
    cases r : isRowD d with
    | false =>
      refine ⟨_, rfl, v, d, rfl, hd, fun H1 s1 => ?_⟩
      rw [r]
      refine ⟨_, rfl, goF rfl ?_⟩
      have e : wrowsB d ws = false := by
        unfold wrowsB
        rw [r]
        rfl
      rw [← e]
      exact q H1 s1
    | true =>
      refine ⟨_, rfl, v, d, rfl, hd, fun H1 s1 => ?_⟩
      rw [r]
      obtain ⟨a, vs, rfl, sq, dp⟩ := htb r
      have dlen := dps_len dp
      have sq1 := sqB_same s1 sq
      have hl1 := s1 _ _ hl
      refine ⟨_, rfl, goT rfl ⟨_, rfl, a, rfl, ⟨_, sq1⟩, fun D nD => ?_⟩⟩
      refine lc_b (K := K) (a := a) (xs := vs) (fun i H' => Same H1 H' ∧ H' D = some (.lst (((rowsD d).take i).map fun e => V.bl (wordsB e ws)))) ⟨same_new nD, upd_same⟩ (fun i H' _ ⟨s, _⟩ => sqB_same s sq1) ?_ ?_
      · rintro i y H2 hi ⟨s2, h2⟩
        obtain ⟨e, he, hv⟩ := dps_get dp hi
        have il := (List.getElem?_eq_some_iff.mp he).1
        refine ⟨rfl, yes_of ⟨_, rfl, _, rfl, y, l, e, ws, rfl, dp_same (s1.trans s2) hv, s2 _ _ hl1, h1, h2', fun H3 s3 => ⟨_, s3 _ _ h2, ?_, mk_same (s2.trans s3) nD, ?_⟩⟩⟩
        · rw [List.length_map, List.length_take]
          exact Nat.lt_of_le_of_lt (Nat.min_le_left _ _) (Nat.lt_of_lt_of_le (by omega : i < 1001) (by decide))
        · rw [upd_same, Xw.tk he, List.map_append]
          rfl
      · rintro H2 ⟨s2, h2⟩
        rw [dlen, List.take_length] at h2
        refine ⟨D, (rowsD d).map fun e => wordsB e ws, rfl, SqL.of ?_, ?_⟩
        · rw [h2, List.map_map]
          rfl
        · have z : wrowsB d ws = ((rowsD d).map fun e => wordsB e ws).all id := by
            unfold wrowsB
            rw [r, List.all_map]
            rfl
          rw [← z]
          exact q _ (s1.trans s2)
end
end Xr
namespace Xs
open PySem PySem.Spec PyProof.Rows L2 Pen Dat Ki Fi Ep Eq Es Ev Xm Xn Xd Xw Xg Xp Xq Zp Ab Xr
/-! ## Rows of bits -/
def bitsN (m : Nat) (x : Int) : List Int := (List.range m).map fun k => x / 2 ^ k % 2
def spARB (K : PySem.W.Frag) : Sp := fun vs H Q _ => ∃ (v : V) (many : Int) (d : PyData), vs = [v, .int many] ∧ Dp K H v d ∧ (rowsD d).length ≤ 1000 ∧ (∀ e ∈ rowsD d, (rowsD e).length ≤ 1000) ∧ ∀ H', Same H H' → Q (.bl (brows d many)) H'
def spNumB : Sp := fun vs H Q _ => ∃ (m : Nat) (x : Int), vs = [.int m, .int x] ∧ m ≤ 100 ∧ ∀ (H' : Hp) (t : Addr), Same H H' → H' t = some (.tup ((bitsN m x).map V.int)) → Q (.ref t) H'
section
variable {P : Program} {w : World} {K : PySem.W.Frag} {mg : Str → Option Value} {base : Heap} {f : Addr} {fd : FuncData}
abbrev nARB : List Str := ["value", "many", "row"]
theorem scARB : FnScope nARB ["value", "many"] (defScope sRowsBits) := ⟨rfl, rfl, rfl, by decide +kernel, rfl, by decide +kernel, by decide +kernel⟩
theorem ok_arb (F : FnP K "are_rows_of_bits" sRowsBits f fd) (T : Ty mg)
    {fIR fIRB : Addr} {dIR dIRB : FuncData}
    (GIR : FnOk P w K mg base CX0 1 fIR dIR ["value"] ((spRow K))) (gIR : mg "is_row" = some (.ref fIR)) (kIR : PySem.W.keepIn K (.ref fIR) = true) (bIR : Binds K dIR ["value"] [])
    (GIRB : FnOk P w K mg base CX0 2 fIRB dIRB ["value", "many", "least", "most"] ((spRowB K))) (gIRB : mg "is_row_between" = some (.ref fIRB)) (kIRB : PySem.W.keepIn K (.ref fIRB) = true) (bIRB : Binds K dIRB ["value", "many", "least", "most"] [])
    : FnOk P w K mg base CX0 3 f fd ["value", "many"] (spARB K) := by
  refine F.ok scARB (fun vs H Q E h => ?_) (fun cdv A0 outer s H vs Q E hr h => ?_)
  · obtain ⟨v, many, d, rfl, _⟩ := h
    rfl
  · obtain ⟨v, many, d, rfl, hd, dl, h1, q⟩ := h
    obtain ⟨tb, htb⟩ : ∃ tb, isRowD d = true → ∃ a vs, v = .ref a ∧ SqB K tb H a vs ∧ DpAll K H vs (rowsD d) := by
      cases r : isRowD d with
      | false => exact ⟨true, fun z => by cases z⟩
      | true =>
        obtain ⟨tb, a, vs, e, x, y⟩ := row_at hd r
        exact ⟨tb, fun _ => ⟨a, vs, e, x, y⟩⟩
    refine ⟨_, PSs.nox (pss_one (ps_ret (pe_and (pe_call GIR (hr.mono (by decide)) (by rfl) gIR kIR bIR .nil pass0 (pa_cons (pv 0) pa_nil)) (pe_one (pe_callB (cr_all rfl) (by rfl) T.ki.all (by decide +kernel) (pa_cons (pe_lc (own := [("row", 2)]) (g := gName 2) (tt := tYes) rfl scARB.nd (Ab.pi_b (K := K) (t := tb) rfl (pv 0)) (blkOk_by (N := nARB) (sc := defScope sRowsBits) (by decide +kernel)) (fun _ _ _ _ _ => pg_name (i := 2) scARB.nd rfl (Or.inl rfl)) (fun _ _ _ _ _ => pts_nil) (fun _ _ _ _ _ => (pe_call GIRB (hr.mono (by decide)) (by rfl) gIRB kIRB bIRB .nil pass0 (pa_cons (pv 2) (pa_cons (pv 1) (pa_cons pe_int (pa_cons pe_int pa_nil))))))) pa_nil)))))), ?_⟩
    have hN : (rowsD d).length ≤ 1000 := dl
    cases r : isRowD d with
    | false =>
      refine ⟨_, rfl, v, d, rfl, hd, fun H1 s1 => ?_⟩
      rw [r]
      refine ⟨_, rfl, goF rfl ?_⟩
      have e : brows d many = false := by
        unfold brows
        rw [r]
        rfl
      rw [← e]
      exact q H1 s1
    | true =>
      refine ⟨_, rfl, v, d, rfl, hd, fun H1 s1 => ?_⟩
      rw [r]
      obtain ⟨a, vs, rfl, sq, dp⟩ := htb r
      have dlen := dps_len dp
      have sq1 := sqB_same s1 sq
      refine ⟨_, rfl, goT rfl ⟨_, rfl, a, rfl, ⟨_, sq1⟩, fun D nD => ?_⟩⟩
      refine lc_b (K := K) (a := a) (xs := vs) (fun i H' => Same H1 H' ∧ H' D = some (.lst (((rowsD d).take i).map fun e => V.bl (rowB e many 0 1)))) ⟨same_new nD, upd_same⟩ (fun i H' _ ⟨s, _⟩ => sqB_same s sq1) ?_ ?_
      · rintro i y H2 hi ⟨s2, h2⟩
        obtain ⟨e, he, hv⟩ := dps_get dp hi
        have il := (List.getElem?_eq_some_iff.mp he).1
        refine ⟨rfl, yes_of ⟨_, rfl, _, rfl, y, many, 0, 1, e, rfl, dp_same (s1.trans s2) hv, h1 e (List.mem_of_getElem? he), fun H3 s3 => ⟨_, s3 _ _ h2, ?_, mk_same (s2.trans s3) nD, ?_⟩⟩⟩
        · rw [List.length_map, List.length_take]
          exact Nat.lt_of_le_of_lt (Nat.min_le_left _ _) (Nat.lt_of_lt_of_le (by omega : i < 1001) (by decide))
        · rw [upd_same, Xw.tk he, List.map_append]
          rfl
      · rintro H2 ⟨s2, h2⟩
        rw [dlen, List.take_length] at h2
        refine ⟨D, (rowsD d).map fun e => rowB e many 0 1, rfl, SqL.of ?_, ?_⟩
        · rw [h2, List.map_map]
          rfl
        · have z : brows d many = ((rowsD d).map fun e => rowB e many 0 1).all id := by
            unfold brows
            rw [r, List.all_map]
            rfl
          rw [← z]
          exact q _ (s1.trans s2)
abbrev nNB : List Str := ["width", "number", "k"]
theorem scNB : FnScope nNB ["width", "number"] (defScope sNumberBits) := ⟨rfl, rfl, rfl, by decide +kernel, rfl, by decide +kernel, by decide +kernel⟩
theorem ok_numb (F : FnP K "number_bits" sNumberBits f fd) (T : Ty mg) : FnOk P w K mg base CX0 1 f fd ["width", "number"] spNumB := by
  refine F.ok scNB (fun vs H Q E h => ?_) (fun cdv A outer s H vs Q E hr h => ?_)
  · obtain ⟨m, x, rfl, _⟩ := h
    rfl
  · obtain ⟨m, x, rfl, hm, q⟩ := h
    refine ⟨_, PSs.nox (pss_one (ps_ret (pe_callTy (T := "tuple") (r := rTupOf K) (by exact call_tuple_of) (by rfl) T.ki.tuple (by decide +kernel) (pa_cons (pe_lc (own := [("k", 2)]) (g := gName 2) (tt := tYes) rfl scNB.nd (pi_range1 (by rfl) T.range (pa_cons (pv 0) pa_nil)) (blkOk_by (N := nNB) (sc := defScope sNumberBits) (by decide +kernel)) (fun _ _ _ _ _ => pg_name (i := 2) scNB.nd rfl (Or.inl rfl)) (fun _ _ _ _ _ => pts_nil) (fun _ _ _ _ _ => (pe_op op_and (pe_op op_shr (pv 1) (pv 2)) pe_int))) pa_nil)))), ?_⟩
    refine ⟨_, rfl, m, rfl, by omega, by omega, fun D nD => ?_⟩
    refine lc_range (lo := 0) (n := (m : Int).toNat) (fun i H2 => Same H H2 ∧ H2 D = some (.lst ((bitsN i x).map V.int))) ⟨same_new nD, upd_same⟩ ?_ ?_
    · rintro i H2 hi ⟨s2, h2⟩
      refine ⟨rfl, yes_of ?_⟩
      refine ⟨_, rfl, _, rfl, _, _, rfl, rfl, by omega, _, _, rfl, rfl, ?_⟩
      have e1 := PyProof.Rows.bitAnd_m1 (x / 2 ^ (0 + (i : Int)).toNat)
      have e2 : (0 + (i : Int)).toNat = i := by omega
      have l2 : (bitsN i x).length = i := by
        unfold bitsN
        rw [List.length_map, List.length_range]
      refine ⟨_, h2, ?_, fun b o e => ?_, ?_⟩
      · rw [List.length_map, l2]
        exact Nat.lt_of_lt_of_le (by omega : i < 101) (by decide)
      · rw [upd_ne (ne_of_none e nD)]
        exact s2 _ _ e
      · have e3 : bitsN (i + 1) x = bitsN i x ++ [x / 2 ^ i % 2] := by
          unfold bitsN
          rw [List.range_succ, List.map_append]
          rfl
        rw [upd_same, e3, List.map_append]
        show some (HO.lst (_ ++ [V.int (Builtin.bitAnd (x / 2 ^ (0 + (i : Int)).toNat) 1)])) = _
        rw [e1, e2]
        rfl
    · rintro H2 ⟨s2, h2⟩
      rw [show (m : Int).toNat = m by omega] at h2
      exact ⟨D, _, rfl, .inl ⟨SqL.of h2, fun t nt => q _ t (s2.trans (same_new nt)) upd_same⟩⟩
end
end Xs
namespace Xt
open PySem PySem.Spec PyProof.Rows L2 Pen Dat Ki Fi Ep Eq Es Ev Xm Xn Xd Xw Xg Xp Xq Zp Ab Xr Xs
/-! ## Words of bits -/
def num : List Int → Int
  | [] => 0
  | x :: r => x + 2 * num r
theorem num_app : ∀ (a b : List Int), num (a ++ b) = num a + 2 ^ a.length * num b
  | [], b => by
    show num b = 0 + 1 * num b
    omega
  | x :: r, b => by
    show x + 2 * num (r ++ b) = x + 2 * num r + 2 ^ (r.length + 1) * num b
    rw [num_app r b, Int.pow_succ, Int.mul_add, Int.mul_comm (2 ^ r.length) 2, Int.mul_assoc]
    omega
theorem num_snoc {xs : List Int} {a : Int} : num (xs ++ [a]) = num xs + 2 ^ xs.length * a := by
  rw [num_app]
  show _ + _ * (a + 2 * 0) = _
  rw [Int.mul_zero, Int.add_zero]
theorem int_get {xs : List Int} {i : Nat} {y : V} (h : (xs.map V.int)[i]? = some y) : ∃ z, y = V.int z ∧ xs[i]? = some z := by
  rw [List.getElem?_map] at h
  cases z : xs[i]? with
  | none => rw [z] at h; cases h
  | some n => rw [z] at h; exact ⟨n, (Option.some.inj h).symm, rfl⟩
def wordsOf : List Nat → List Int → List Int
  | [], _ => []
  | w :: ws, xs => num (xs.take w) :: wordsOf ws (xs.drop w)
theorem words_snoc : ∀ (as : List Nat) (w : Nat) (xs : List Int), wordsOf (as ++ [w]) xs = wordsOf as xs ++ [num ((xs.drop as.sum).take w)]
  | [], w, xs => rfl
  | a :: as, w, xs => by
    show num (xs.take a) :: wordsOf (as ++ [w]) (xs.drop a) = num (xs.take a) :: (wordsOf as (xs.drop a) ++ _)
    rw [words_snoc as w (xs.drop a), List.drop_drop, List.sum_cons]
theorem words_len : ∀ (as : List Nat) (xs : List Int), (wordsOf as xs).length = as.length
  | [], _ => rfl
  | _ :: as, xs => congrArg Nat.succ (words_len as _)
theorem sum_take : ∀ (ws : List Nat) (i : Nat), (ws.take i).sum ≤ ws.sum
  | [], i => by simp
  | w :: ws, 0 => Nat.zero_le _
  | w :: ws, i + 1 => by
    have := sum_take ws i
    rw [List.take_succ_cons, List.sum_cons, List.sum_cons]
    omega
theorem cut_b {K : PySem.W.Frag} {tb : Bool} {H : Hp} {q0 : Addr} {xs : List V} {a b : Nat} {j k : Int} {R : VK} (hj : (a : Int) = j) (hk : (b : Int) = k) (hq : SqB K tb H q0 xs) (ha : a ≤ b) (hb : b ≤ xs.length) (q : ∀ t H', Same H H' → SqB K tb H' t ((xs.drop a).take (b - a)) → R (.ref t) H') :
    Ab.rSlb K tb (.ref q0) (some j) (some k) H R := by
  subst hj
  subst hk
  have i1 : HT.sIx xs.length 0 (some (a : Int)) = a := by
    show (if ((a : Int)) < 0 then ((a : Int) + (xs.length : Int)).toNat else min (a : Int).toNat xs.length) = _
    rw [if_neg (by omega)]
    omega
  have i2 : HT.sIx xs.length xs.length (some (b : Int)) = b := by
    show (if ((b : Int)) < 0 then ((b : Int) + (xs.length : Int)).toNat else min (b : Int).toNat xs.length) = _
    rw [if_neg (by omega)]
    omega
  cases tb with
  | true =>
    refine ⟨q0, _, rfl, hq, fun p np => q p _ (same_new np) (SqL.of ?_)⟩
    rw [upd_same]
    unfold cutV
    rw [i1, i2]
  | false =>
    refine ⟨q0, _, rfl, hq, fun hw => ?_, fun _ p np => ?_⟩
    · obtain ⟨e1, e2⟩ := hw
      rw [i1] at e1
      rw [i2] at e2
      refine q q0 H (fun _ _ e => e) ?_
      rw [e1, e2, List.drop_zero, Nat.sub_zero, List.take_length]
      exact hq
    · refine q p _ (same_new np) (SqT.of ?_)
      rw [upd_same]
      unfold cutV
      rw [i1, i2]
def spWordN (K : PySem.W.Frag) (tb : Bool) : Sp := fun vs H Q _ => ∃ (l : Addr) (xs : List Int), vs = [.ref l] ∧ SqB K tb H l (xs.map V.int) ∧ xs.length ≤ 100 ∧ (∀ y ∈ xs, y = 0 ∨ y = 1) ∧ ∀ H', Same H H' → Q (.int (num xs)) H'
def spWNU (K : PySem.W.Frag) : Sp := fun vs H Q E => ∃ tb, spWordN K tb vs H Q E
def spWN (K : PySem.W.Frag) : Sp := fun vs H Q _ => ∃ (l b : Addr) (tb : Bool) (ws : List Nat) (xs : List Int), vs = [.ref l, .ref b] ∧ H l = some (.lst (ws.map wV)) ∧ SqB K tb H b (xs.map V.int) ∧ xs.length = ws.sum ∧ (∀ n ∈ ws, n ≤ 100) ∧ ws.length ≤ 100 ∧ (∀ y ∈ xs, y = 0 ∨ y = 1) ∧
  ∀ (H' : Hp) (t : Addr), Same H H' → H' t = some (.tup ((wordsOf ws xs).map V.int)) → Q (.ref t) H'
section
variable {P : Program} {w : World} {K : PySem.W.Frag} {mg : Str → Option Value} {base : Heap} {f : Addr} {fd : FuncData}
abbrev nWNU : List Str := ["bits", "k", "bit"]
theorem scWNU : FnScope nWNU ["bits"] (defScope sWordNumber) := ⟨rfl, rfl, rfl, by decide +kernel, rfl, by decide +kernel, by decide +kernel⟩
theorem ok_wordn (F : FnP K "word_number" sWordNumber f fd) (T : Ty mg) : FnOk P w K mg base CX0 1 f fd ["bits"] (spWNU K) := by
  refine F.ok scWNU (fun vs H Q E h => ?_) (fun cdv A outer s H vs Q E hr h => ?_)
  · obtain ⟨tb, l, xs, rfl, _⟩ := h
    rfl
  · obtain ⟨tb, l, xs, rfl, hl, hz, h01, q⟩ := h
    refine ⟨_, PSs.nox (pss_one (ps_ret (pe_callB (cr_sum rfl) (by rfl) T.sum (by decide +kernel) (pa_cons (pe_lc (own := [("k", 1), ("bit", 2)]) (g := _) (tt := tYes) rfl scWNU.nd (Ab.pi_enB (K := K) (t := tb) rfl (by rfl) T.enumerate (pa_cons (pv 0) pa_nil)) (blkOk_by (N := nWNU) (sc := defScope sWordNumber) (by decide +kernel)) (fun _ _ _ _ _ => (Us.pg_tupK (K := K) (n := 2) rfl rfl (pgs_cons (pg_name (i := 1) scWNU.nd rfl (Or.inl rfl)) (pgs_cons (pg_name (i := 2) scWNU.nd rfl (Or.inl rfl)) pgs_nil)))) (fun _ _ _ _ _ => pts_nil) (fun _ _ _ _ _ => (pe_op op_shl (pv 2) (pv 1)))) pa_nil)))), ?_⟩
    refine ⟨_, rfl, l, _, rfl, hl, fun D nD => ?_⟩
    refine lc_it (walk_enB (K := K) (t := tb) (a := l) (xs := xs.map V.int)) (fun i H2 => Same H H2 ∧ ∃ zs : List Int, H2 D = some (.lst (zs.map V.int)) ∧ zs.length = i ∧ zs.sum = num (xs.take i)) ⟨same_new nD, [], upd_same, rfl, rfl⟩ (fun i H2 _ ⟨s2, _⟩ => sqB_same s2 hl) ?_ ?_
    · rintro i v H2 H3 hi ⟨s2, zs, h2, l2, e2⟩ ⟨qa, z1, z2, rfl, nq, rfl, e3, e4⟩
      cases e3
      obtain ⟨y, rfl, hy2⟩ := int_get e4
      have i1 : i < xs.length := (List.getElem?_eq_some_iff.mp hy2).1
      have sq := same_new (u := .tup [.int (i : Nat), .int y]) nq
      have y01 := h01 y (List.mem_of_getElem? hy2)
      refine ⟨qa, _, rfl, SqT.of upd_same, rfl, _, _, rfl, _, _, rfl, rfl, rfl, yes_of ?_⟩
      refine ⟨_, rfl, _, rfl, _, _, rfl, rfl, ⟨by omega, by omega, by rcases y01 with e | e <;> rw [e] <;> decide⟩, _, sq _ _ h2, ?_, fun b o e => ?_, zs ++ [y * 2 ^ ((i : Int)).toNat], ?_, by rw [List.length_append, l2]; rfl, ?_⟩
      · rw [List.length_map, l2]
        exact Nat.lt_of_lt_of_le (by omega : i < 101) (by decide)
      · rw [upd_ne (ne_of_none e nD)]
        exact sq _ _ (s2 _ _ e)
      · rw [upd_same, List.map_append]
        rfl
      · rw [List.sum_append, e2, Xw.tk hy2, num_snoc, List.length_take, Nat.min_eq_left (Nat.le_of_lt i1), Int.toNat_natCast, Int.mul_comm]
        simp
    · rintro H2 ⟨s2, zs, h2, l2, e2⟩
      rw [List.length_map, List.take_length] at e2
      refine ⟨D, zs, rfl, SqL.of h2, ?_⟩
      rw [e2]
      exact q H2 s2
abbrev nWN : List Str := ["widths", "bits", "told", "first", "width"]
theorem scWN : FnScope nWN ["widths", "bits"] (defScope sWordsIn) := ⟨rfl, rfl, rfl, by decide +kernel, rfl, by decide +kernel, by decide +kernel⟩
theorem ok_wn (F : FnP K "words_in" sWordsIn f fd) (T : Ty mg)
    {fWNU : Addr} {dWNU : FuncData}
    (GWNU : FnOk P w K mg base CX0 1 fWNU dWNU ["bits"] ((spWNU K))) (gWNU : mg "word_number" = some (.ref fWNU)) (kWNU : PySem.W.keepIn K (.ref fWNU) = true) (bWNU : Binds K dWNU ["bits"] [])
    : FnOk P w K mg base CX0 2 f fd ["widths", "bits"] (spWN K) := by
  refine F.ok scWN (fun vs H Q E h => ?_) (fun cdv A0 outer s H vs Q E hr h => ?_)
  · obtain ⟨l, b, tb, ws, xs, rfl, _⟩ := h
    rfl
  · obtain ⟨l, b, tb, ws, xs, rfl, hl, hb, hs, hw, hwl, h01, q⟩ := h
    refine ⟨_, PSs.nox (pss_cons (ps_par (i := 2) (j := 3) rfl scWN.nd rfl rfl (by decide) rfl rfl (pa_cons (pe_lst pa_nil) (pa_cons pe_int pa_nil)) (by rfl))
      (pss_cons (ps_for PassesOwn.never rfl (pi_list (pv 0)) (pg_name (i := 4) scWN.nd rfl (Or.inl rfl))
        (pss_cons (ps_expr (pe_bm PySem.F.plainAttrs_list PySem.F.slot_list_append PySem.F.type_list_append mt_append (pv 2) (pa_cons (pe_call GWNU (hr.mono (by decide)) (by rfl) gWNU kWNU bWNU .nil pass0 (pa_cons (pe_slice (Ab.sl_b (K := K) (t := tb) rfl) (pv 1) (po_some (pv 3)) (po_some (pe_op op_add (pv 3) (pv 4)))) pa_nil)) pa_nil)))
        (pss_one (ps_aug (i := 3) scWN.nd rfl (Or.inl rfl) (pv 4) ip_add))))
      (pss_one (ps_ret (pe_callTy (T := "tuple") (r := rTupOf K) (by exact call_tuple_of) (by rfl) T.ki.tuple (by decide +kernel) (pa_cons (pv 2) pa_nil)))))), ?_⟩
    refine ⟨(by show 0 ≤ sizeLine; decide), fun D nD => ⟨_, _, rfl, ?_⟩⟩
    have s0 := same_new (u := .lst []) nD
    refine ⟨_, rfl, l, rfl, ⟨_, SqL.of (s0 _ _ hl)⟩, for_list (a := l) (xs := ws.map wV) (fun i σ H' => ∃ x4 : Option V, σ = [some (.ref l), some (.ref b), some (.ref D), some (.int (((ws.take i).sum : Nat) : Int)), x4] ∧ Same H H' ∧ H' D = some (.lst ((wordsOf (ws.take i) xs).map V.int)))
      ⟨_, rfl, s0, upd_same⟩ (fun i σ H' _ ⟨_, _, s, _⟩ => SqL.of (s _ _ hl)) ?_ ?_⟩
    · rintro i y σ H2 hy ⟨x4, rfl, s2, h2⟩
      obtain ⟨n, hn, rfl⟩ : ∃ n, ws[i]? = some n ∧ wV n = y := by
        rw [List.getElem?_map] at hy
        cases z : ws[i]? with
        | none => rw [z] at hy; cases hy
        | some n => rw [z] at hy; exact ⟨n, rfl, Option.some.inj hy⟩
      have il := (List.getElem?_eq_some_iff.mp hn).1
      have nle := hw n (List.mem_of_getElem? hn)
      have tks : (ws.take (i + 1)).sum = (ws.take i).sum + n := by
        rw [Xw.tk hn, List.sum_append]
        simp
      have tle := sum_take ws (i + 1)
      generalize hsum : (ws.take i).sum = sm at h2 tks ⊢
      refine ⟨_, rfl, .inl ⟨rfl, _, SqL.of h2⟩, _, rfl, _, rfl, _, rfl, _, rfl, _, rfl, _, _, rfl, rfl, _, rfl, ?_⟩
      refine cut_b (a := sm) (b := sm + n) rfl (by omega) (sqB_same s2 hb) (by omega) (by rw [List.length_map]; omega) fun t H3 s3 sq3 => ?_
      rw [Nat.add_sub_cancel_left, ← List.map_drop, ← List.map_take] at sq3
      refine ⟨tb, t, (xs.drop sm).take n, rfl, sq3, ?_, fun y hy => h01 y (List.mem_of_mem_drop (List.mem_of_mem_take hy)), fun H4 s4 => ?_⟩
      · rw [List.length_take]
        omega
      have h4 := s4 _ _ (s3 _ _ h2)
      refine ⟨D, _, _, rfl, rfl, h4, ?_, _, rfl, _, rfl, _, _, rfl, rfl, some (wV n), ?_, mk_same (s2.trans (s3.trans s4)) nD, ?_⟩
      · rw [List.length_map, words_len, List.length_take]
        exact Nat.lt_of_le_of_lt (Nat.min_le_left _ _) (Nat.lt_of_lt_of_le (by omega : i < 1001) (by decide))
      · rw [tks]
        rfl
      · rw [upd_same, Xw.tk hn, words_snoc, List.map_append, hsum]
        rfl
    · rintro σ H2 ⟨x4, rfl, s2, h2⟩
      rw [List.length_map, List.take_length] at h2
      refine ⟨_, rfl, D, _, rfl, .inl ⟨SqL.of h2, fun t nt => ?_⟩⟩
      exact q _ t (s2.trans (same_new nt)) upd_same
end
end Xt
namespace Xu
open PySem PySem.Spec PyProof.Rows L2 Pen Dat Ki Fi Ep Eq Es Ev Xm Xn Xd Xw Xg Xp Xq Zp Ab Xr Xs Xt
/-! ## Bits of words -/
def bitsOf : List Nat → List Int → List Int
  | w :: ws, x :: xs => bitsN w x ++ bitsOf ws xs
  | _, _ => []
theorem bitsN_len (n : Nat) (x : Int) : (bitsN n x).length = n := by
  unfold bitsN
  rw [List.length_map, List.length_range]
theorem bits_snoc : ∀ (as : List Nat) (bs : List Int) (w : Nat) (x : Int), as.length = bs.length → bitsOf (as ++ [w]) (bs ++ [x]) = bitsOf as bs ++ bitsN w x
  | [], [], w, x, _ => List.append_nil _
  | a :: as, b :: bs, w, x, h => by
    show bitsN a b ++ bitsOf (as ++ [w]) (bs ++ [x]) = (bitsN a b ++ bitsOf as bs) ++ bitsN w x
    rw [bits_snoc as bs w x (Nat.succ.inj h), List.append_assoc]
theorem bits_len : ∀ (as : List Nat) (bs : List Int), as.length = bs.length → (bitsOf as bs).length = as.sum
  | [], [], _ => rfl
  | a :: as, b :: bs, h => by
    show (bitsN a b ++ bitsOf as bs).length = (a :: as).sum
    rw [List.length_append, bitsN_len, bits_len as bs (Nat.succ.inj h), List.sum_cons]
def spBN (K : PySem.W.Frag) : Sp := fun vs H Q _ => ∃ (l b : Addr) (tb : Bool) (ws : List Nat) (xs : List Int), vs = [.ref l, .ref b] ∧ H l = some (.lst (ws.map wV)) ∧ SqB K tb H b (xs.map V.int) ∧ xs.length = ws.length ∧ (∀ n ∈ ws, n ≤ 100) ∧ ws.sum ≤ 1000 ∧
  ∀ (H' : Hp) (t : Addr), Same H H' → H' t = some (.tup ((bitsOf ws xs).map V.int)) → Q (.ref t) H'
theorem lc2_zipB {K : PySem.W.Frag} {t u : Bool} {a b0 : Addr} {xs ys : List V} {g : TG} {tt : TT} {wi1 : TI} {g1 : TG} {tt1 : TT} {te : TE} {vs vs1 : List Nat} {σ : L2.St} {H1 : Hp} {D : Addr} {Qd : Hp → Prop} (hl : xs.length = ys.length) (Pv : Nat → Hp → Prop) (h0 : Pv 0 (upd H1 D (.lst []))) (hq : ∀ i H, Pv i H → SqB K t H a xs ∧ SqB K u H b0 ys)
    (hs : ∀ (i : Nat) (x y : V) (q : Addr) (H : Hp), xs[i]? = some x → ys[i]? = some y → Pv i H → H q = none → g (.ref q) (wipe σ vs) (upd H q (.tup [x, y])) fun σ2 H2 => wipe σ2 vs = wipe σ vs ∧ tt σ2 H2 fun b H3 =>
      if b = true then wi1 σ2 H3 fun J1 H4 => ∃ W1 : Nat → Nat → Hp → Prop, (∃ m, W1 0 m H4) ∧ ∀ j k H, W1 j k H →
        (J1.stop j H ∧ Pv (i + 1) H) ∨ (J1.go j H ∧ ∃ Nx1 : Hp → Prop, (∀ H', Nx1 H' → ∃ k', k' < k ∧ W1 (j + 1) k' H') ∧ ∀ x H', J1.yld j H x H' → g1 x (wipe σ2 vs1) H' fun σ3 H5 => wipe σ3 vs1 = wipe σ2 vs1 ∧ tt1 σ3 H5 fun b H6 =>
          if b = true then te σ3 H6 fun y H7 => ∃ acc, H7 D = some (.lst acc) ∧ acc.length < sizeLine ∧ Nx1 (upd H7 D (.lst (acc ++ [y]))) else Nx1 H6)
      else Pv (i + 1) H3) (hd : ∀ H, Pv xs.length H → Qd H) :
    ∃ W : Nat → Nat → Hp → Prop, (∃ m, W 0 m (upd H1 D (.lst []))) ∧ ∀ i m H, W i m H →
      ((Izb K t u a b0).stop i H ∧ Qd H) ∨ ((Izb K t u a b0).go i H ∧ ∃ Nx : Hp → Prop, (∀ H', Nx H' → ∃ m', m' < m ∧ W (i + 1) m' H') ∧ ∀ x H', (Izb K t u a b0).yld i H x H' → g x (wipe σ vs) H' fun σ2 H2 => wipe σ2 vs = wipe σ vs ∧ tt σ2 H2 fun b H3 =>
        if b = true then wi1 σ2 H3 fun J1 H4 => ∃ W1 : Nat → Nat → Hp → Prop, (∃ m, W1 0 m H4) ∧ ∀ j k H, W1 j k H →
          (J1.stop j H ∧ Nx H) ∨ (J1.go j H ∧ ∃ Nx1 : Hp → Prop, (∀ H', Nx1 H' → ∃ k', k' < k ∧ W1 (j + 1) k' H') ∧ ∀ x H', J1.yld j H x H' → g1 x (wipe σ2 vs1) H' fun σ3 H5 => wipe σ3 vs1 = wipe σ2 vs1 ∧ tt1 σ3 H5 fun b H6 =>
            if b = true then te σ3 H6 fun y H7 => ∃ acc, H7 D = some (.lst acc) ∧ acc.length < sizeLine ∧ Nx1 (upd H7 D (.lst (acc ++ [y]))) else Nx1 H6)
        else Nx H3) := by
  refine ⟨fun i m H => m = xs.length - i ∧ i ≤ xs.length ∧ Pv i H, ⟨_, rfl, Nat.zero_le _, h0⟩, ?_⟩
  rintro i m H ⟨rfl, hi, pv⟩
  obtain ⟨qx, qy⟩ := hq i H pv
  rcases Nat.lt_or_ge i xs.length with lt | ge
  · refine .inr ⟨⟨xs, ys, xs[i], ys[i]'(hl ▸ lt), qx, qy, List.getElem?_eq_getElem lt, List.getElem?_eq_getElem _⟩, Pv (i + 1), fun H' p' => ⟨xs.length - (i + 1), by omega, rfl, lt, p'⟩, fun v H' yl => ?_⟩
    obtain ⟨q, x, y, rfl, hq, rfl, f1, f2⟩ := yl
    exact hs i x y q H (f1 _ qx) (f2 _ qy) pv hq
  · obtain rfl : i = xs.length := Nat.le_antisymm hi ge
    exact .inl ⟨⟨xs, ys, qx, qy, Nat.le_refl _, Nat.le_of_eq hl, .inl rfl⟩, hd H pv⟩
theorem in_tup {K : PySem.W.Frag} {a : Addr} {xs : List V} {g1 : TG} {tt1 : TT} {te : TE} {vs1 : List Nat} {σ2 : L2.St} {H4 : Hp} {D : Addr} {Qi : Hp → Prop} (Pj : Nat → Hp → Prop) (h0 : Pj 0 H4) (hl : ∀ j H, j ≤ xs.length → Pj j H → SqT K H a xs)
    (hs : ∀ j x H, xs[j]? = some x → Pj j H → g1 x (wipe σ2 vs1) H fun σ3 H5 => wipe σ3 vs1 = wipe σ2 vs1 ∧ tt1 σ3 H5 fun b H6 =>
      if b = true then te σ3 H6 fun y H7 => ∃ acc, H7 D = some (.lst acc) ∧ acc.length < sizeLine ∧ Pj (j + 1) (upd H7 D (.lst (acc ++ [y]))) else Pj (j + 1) H6) (hd : ∀ H, Pj xs.length H → Qi H) :
    ∃ W1 : Nat → Nat → Hp → Prop, (∃ m, W1 0 m H4) ∧ ∀ j k H, W1 j k H →
      ((Itt K a).stop j H ∧ Qi H) ∨ ((Itt K a).go j H ∧ ∃ Nx1 : Hp → Prop, (∀ H', Nx1 H' → ∃ k', k' < k ∧ W1 (j + 1) k' H') ∧ ∀ x H', (Itt K a).yld j H x H' → g1 x (wipe σ2 vs1) H' fun σ3 H5 => wipe σ3 vs1 = wipe σ2 vs1 ∧ tt1 σ3 H5 fun b H6 =>
        if b = true then te σ3 H6 fun y H7 => ∃ acc, H7 D = some (.lst acc) ∧ acc.length < sizeLine ∧ Nx1 (upd H7 D (.lst (acc ++ [y]))) else Nx1 H6) := by
  refine ⟨fun i m H => m = xs.length - i ∧ i ≤ xs.length ∧ Pj i H, ⟨xs.length, by simp, Nat.zero_le _, h0⟩, ?_⟩
  rintro i m H ⟨rfl, hi, p⟩
  have sq := hl i H hi p
  by_cases hlt : i < xs.length
  · refine .inr ⟨⟨xs, xs[i], sq, by simp [hlt]⟩, Pj (i + 1), fun H' p' => ⟨xs.length - (i + 1), by omega, rfl, hlt, p'⟩, fun x H' y => ?_⟩
    obtain ⟨e, y⟩ := y
    subst e
    exact hs i x _ (y xs sq) p
  · have e : i = xs.length := by omega
    subst e
    exact .inl ⟨⟨xs, sq, Nat.le_refl _⟩, hd H p⟩
section
variable {P : Program} {w : World} {K : PySem.W.Frag} {mg : Str → Option Value} {base : Heap} {f : Addr} {fd : FuncData}
abbrev nBN : List Str := ["widths", "words", "width", "word", "bit"]
theorem scBN : FnScope nBN ["widths", "words"] (defScope sBitsIn) := ⟨rfl, rfl, rfl, by decide +kernel, rfl, by decide +kernel, by decide +kernel⟩
theorem ok_bn (F : FnP K "bits_in" sBitsIn f fd) (T : Ty mg)
    {fNB : Addr} {dNB : FuncData}
    (GNB : FnOk P w K mg base CX0 1 fNB dNB ["width", "number"] (spNumB)) (gNB : mg "number_bits" = some (.ref fNB)) (kNB : PySem.W.keepIn K (.ref fNB) = true) (bNB : Binds K dNB ["width", "number"] [])
    : FnOk P w K mg base CX0 2 f fd ["widths", "words"] (spBN K) := by
  refine F.ok scBN (fun vs H Q E h => ?_) (fun cdv A0 outer s H vs Q E hr h => ?_)
  · obtain ⟨l, b, tb, ws, xs, rfl, _⟩ := h
    rfl
  · obtain ⟨l, b, tb, ws, xs, rfl, hl, hb, hs, hw, hwl, q⟩ := h
    refine ⟨_, PSs.nox (pss_one (ps_ret (pe_callTy (T := "tuple") (r := rTupOf K) (by exact call_tuple_of) (by rfl) T.ki.tuple (by decide +kernel) (pa_cons (pe_lc2 (own := [("width", 2), ("word", 3), ("bit", 4)]) (vs1 := [4]) (g := _) (g1 := gName 4) (tt := tYes) (tt1 := tYes) rfl scBN.nd (Zp.pi_zipB (by rfl) T.zip (pa_cons (pv 0) (pa_cons (pv 1) pa_nil))) (blkOk_by (N := nBN) (sc := defScope sBitsIn) (by decide +kernel)) (by decide) (fun _ _ _ _ _ => (Us.pg_tupK (K := K) (n := 2) rfl rfl (pgs_cons (pg_name (i := 2) scBN.nd rfl (Or.inl rfl)) (pgs_cons (pg_name (i := 3) scBN.nd rfl (Or.inl rfl)) pgs_nil)))) (fun _ _ _ _ _ => pts_nil) (fun _ _ _ _ _ => Us.pi_tupK (K := K) rfl (pe_call GNB (hr.mono (by decide)) (by rfl) gNB kNB bNB .nil pass0 (pa_cons (pv 2) (pa_cons (pv 3) pa_nil)))) (fun _ _ _ _ _ => pg_name (i := 4) scBN.nd rfl (Or.inl rfl)) (fun _ _ _ _ _ => pts_nil) (fun _ _ _ _ _ => pv 4)) pa_nil)))), ?_⟩
    refine ⟨_, rfl, _, rfl, true, tb, l, b, _, _, rfl, SqL.of hl, hb, fun D nD => ?_⟩
    refine lc2_zipB (K := K) (t := true) (u := tb) (a := l) (b0 := b) (xs := ws.map wV) (ys := xs.map V.int) (by rw [List.length_map, List.length_map, hs]) (fun i H' => Same H H' ∧ H' D = some (.lst ((bitsOf (ws.take i) (xs.take i)).map V.int))) ⟨same_new nD, upd_same⟩ (fun i H' ⟨s, _⟩ => ⟨SqL.of (s _ _ hl), sqB_same s hb⟩) ?_ ?_
    · rintro i y1 y2 qa H2 hx hy ⟨s2, h2⟩ nq
      obtain ⟨n, hn, rfl⟩ : ∃ n, ws[i]? = some n ∧ wV n = y1 := by
        rw [List.getElem?_map] at hx
        cases z : ws[i]? with
        | none => rw [z] at hx; cases hx
        | some n => rw [z] at hx; exact ⟨n, rfl, Option.some.inj hx⟩
      obtain ⟨x, rfl, hx2⟩ := int_get hy
      have nle := hw n (List.mem_of_getElem? hn)
      have il := (List.getElem?_eq_some_iff.mp hn).1
      have tle := sum_take ws (i + 1)
      rw [Xw.tk hn, List.sum_append] at tle
      have tle : (ws.take i).sum + n ≤ ws.sum := by simpa using tle
      have lt2 : (ws.take i).length = (xs.take i).length := by rw [List.length_take, List.length_take, hs]
      have bl := bits_len _ _ lt2
      have sn := same_new (u := .tup [wV n, .int x]) nq
      refine ⟨qa, _, rfl, SqT.of upd_same, rfl, _, _, rfl, _, _, rfl, rfl, rfl, yes_of ?_⟩
      refine ⟨_, rfl, _, rfl, n, x, rfl, nle, fun H3 t s3 ht => ⟨t, rfl, ⟨_, SqT.of ht⟩, ?_⟩⟩
      have h3 := s3 _ _ (sn _ _ h2)
      have sA := s2.trans (sn.trans s3)
      refine in_tup (K := K) (a := t) (xs := (bitsN n x).map V.int) (fun j H' => SqT K H' t ((bitsN n x).map V.int) ∧ Same H H' ∧ H' D = some (.lst ((bitsOf (ws.take i) (xs.take i) ++ (bitsN n x).take j).map V.int))) ⟨SqT.of ht, sA, by rw [List.take_zero, List.append_nil]; exact h3⟩ (fun j H' _ ⟨s, _⟩ => s) ?_ ?_
      · rintro j z H4 hz ⟨q4, s4, h4⟩
        obtain ⟨c, rfl, hc⟩ := int_get hz
        have jl := (List.getElem?_eq_some_iff.mp hc).1
        rw [bitsN_len] at jl
        refine ⟨rfl, yes_of ⟨_, rfl, _, h4, ?_, firm_seq (Firm.upd h4 rfl) q4, mk_same s4 nD, ?_⟩⟩
        · rw [List.length_map, List.length_append, bl, List.length_take]
          exact Nat.lt_of_lt_of_le (by omega : _ < 1001) (by decide)
        · rw [upd_same, Xw.tk hc, ← List.append_assoc, List.map_append (l₂ := [c])]
          rfl
      · rintro H4 ⟨q4, s4, h4⟩
        rw [List.length_map, List.take_length] at h4
        refine ⟨s4, ?_⟩
        rw [h4, Xw.tk hn, Xw.tk hx2, bits_snoc _ _ _ _ lt2]
    · rintro H2 ⟨s2, h2⟩
      rw [List.length_map, List.take_length, ← hs, List.take_length] at h2
      exact ⟨D, _, rfl, .inl ⟨SqL.of h2, fun t nt => q _ t (s2.trans (same_new nt)) upd_same⟩⟩
end
end Xu
namespace Xv
open PySem PySem.Spec PyProof.Rows L2 Pen Dat Ki Fi Ep Eq Es Ev Xm Xn Xd Xw Xg Xp Xq Zp Zp3 Ab Xr Xs Xt Xu
/-! ## Rows filled by masks -/
abbrev Tri := Int × Int × Int
def triF (p : Tri) : Int := Builtin.bitXor p.2.2 (Builtin.bitAnd (Builtin.bitXor p.1 p.2.2) p.2.1)
def triV (p : Tri) : V := .int (triF p)
/-- a row of triples: a word, its mask, the other word -/
def c1 (r : List Tri) : List Int := r.map (·.1)
def c2 (r : List Tri) : List Int := r.map (·.2.1)
def c3 (r : List Tri) : List Int := r.map (·.2.2)
def RwAt (K : PySem.W.Frag) (H : Hp) (v : V) (xs : List Int) : Prop := ∃ t, v = .ref t ∧ SqT K H t (xs.map V.int)
def ColAt (K : PySem.W.Frag) (H : Hp) (g : List Tri → List Int) (a : Addr) (R : List (List Tri)) : Prop := ∃ vs, SqT K H a vs ∧ All2 (fun v r => RwAt K H v (g r)) vs R
theorem RwAt.firm {K : PySem.W.Frag} {H H' : Hp} {v : V} {xs : List Int} (f : Firm H H') (h : RwAt K H v xs) : RwAt K H' v xs := by
  obtain ⟨t, e, s⟩ := h
  exact ⟨t, e, firm_seq f s⟩
def spFIL (K : PySem.W.Frag) : Sp := fun vs H Q _ => ∃ (a b c : Addr) (R : List (List Tri)), vs = [.ref a, .ref b, .ref c] ∧ ColAt K H c1 a R ∧ ColAt K H c2 b R ∧ ColAt K H c3 c R ∧ R.length ≤ 100 ∧ (∀ r ∈ R, r.length ≤ 100) ∧ (∀ r ∈ R, ∀ p ∈ r, 0 ≤ p.1 ∧ 0 ≤ p.2.1 ∧ 0 ≤ p.2.2) ∧
  ∀ (H' : Hp) (t : Addr) (tvs : List V), Same H H' → SqT K H' t tvs → All2 (fun v r => RwAt K H' v (r.map triF)) tvs R → Q (.ref t) H'
theorem get_map {α β : Type} {f : α → β} {xs : List α} {i : Nat} {y : β} (h : (xs.map f)[i]? = some y) : ∃ x, xs[i]? = some x ∧ f x = y := by
  rw [List.getElem?_map] at h
  cases z : xs[i]? with
  | none => rw [z] at h; cases h
  | some n => rw [z] at h; exact ⟨n, rfl, Option.some.inj h⟩
theorem col_get {g : Tri → Int} {r : List Tri} {i : Nat} {y : V} {p : Tri} (h : ((r.map g).map V.int)[i]? = some y) (hp : r[i]? = some p) : y = V.int (g p) := by
  obtain ⟨a, ha, rfl⟩ := get_map h
  obtain ⟨b, hb, rfl⟩ := get_map ha
  rw [hp] at hb
  cases hb
  rfl
section
variable {P : Program} {w : World} {K : PySem.W.Frag} {mg : Str → Option Value} {base : Heap} {f : Addr} {fd : FuncData}
abbrev nFIL : List Str := ["rows", "mask", "others", "told", "row", "kept", "other", "word", "bits", "open_word"]
theorem scFIL : FnScope nFIL ["rows", "mask", "others"] (defScope sFilling) := ⟨rfl, rfl, rfl, by decide +kernel, rfl, by decide +kernel, by decide +kernel⟩
theorem ok_fil (F : FnP K "filling" sFilling f fd) (T : Ty mg) : FnOk P w K mg base CX0 1 f fd ["rows", "mask", "others"] (spFIL K) := by
  refine F.ok scFIL (fun vs H Q E h => ?_) (fun cdv A0 outer s H vs Q E hr h => ?_)
  · obtain ⟨a, b, c, R, rfl, _⟩ := h
    rfl
  · obtain ⟨a, b, c, R, rfl, ⟨av, ha, aa⟩, ⟨bv, hb, ab⟩, ⟨cv, hc, ac⟩, hR, hr1, h0, q⟩ := h
    refine ⟨_, PSs.nox (pss_cons (ps_set (i := 3) scFIL.nd rfl (Or.inl rfl) (pe_lst pa_nil))
      (pss_cons (ps_for PassesOwn.never rfl (Zp3.pi_zipB3 (by rfl) T.zip (pa_cons (pv 0) (pa_cons (pv 1) (pa_cons (pv 2) pa_nil)))) (pg_tup rfl (pgs_cons (pg_name (i := 4) scFIL.nd rfl (Or.inl rfl)) (pgs_cons (pg_name (i := 5) scFIL.nd rfl (Or.inl rfl)) (pgs_cons (pg_name (i := 6) scFIL.nd rfl (Or.inl rfl)) pgs_nil))))
        (pss_one (ps_expr (pe_bm PySem.F.plainAttrs_list PySem.F.slot_list_append PySem.F.type_list_append mt_append (pv 3) (pa_cons (pe_callTy (T := "tuple") (r := rTupOf K) (by exact call_tuple_of) (by rfl) T.ki.tuple (by decide +kernel) (pa_cons (pe_lc (own := [("word", 7), ("bits", 8), ("open_word", 9)]) (g := _) (tt := tYes) rfl scFIL.nd (Zp3.pi_zipB3 (by rfl) T.zip (pa_cons (pv 4) (pa_cons (pv 5) (pa_cons (pv 6) pa_nil)))) (blkOk_by (N := nFIL) (sc := defScope sFilling) (by decide +kernel)) (fun _ _ _ _ _ => (Us.pg_tupK (K := K) (n := 3) rfl rfl (pgs_cons (pg_name (i := 7) scFIL.nd rfl (Or.inl rfl)) (pgs_cons (pg_name (i := 8) scFIL.nd rfl (Or.inl rfl)) (pgs_cons (pg_name (i := 9) scFIL.nd rfl (Or.inl rfl)) pgs_nil))))) (fun _ _ _ _ _ => pts_nil) (fun _ _ _ _ _ => (pe_op op_xor (pv 9) (pe_op op_and (pe_op op_xor (pv 7) (pv 9)) (pv 8))))) pa_nil)) pa_nil)))))
      (pss_one (ps_ret (pe_callTy (T := "tuple") (r := rTupOf K) (by exact call_tuple_of) (by rfl) T.ki.tuple (by decide +kernel) (pa_cons (pv 3) pa_nil)))))), ?_⟩
    refine ⟨(by show 0 ≤ sizeLine; decide), fun D nD => ?_⟩
    have s0 := same_new (u := .lst []) nD
    have la := aa.len
    have lb := ab.len
    have lc := ac.len
    refine ⟨_, rfl, _, rfl, _, rfl, false, false, false, a, b, c, _, _, _, rfl, sqB_same (t := false) s0 ha, sqB_same (t := false) s0 hb, sqB_same (t := false) s0 hc, for_zipB3 (t := false) (u := false) (v := false) (xs := av) (ys := bv) (zs := cv) (by omega) (by omega)
      (fun i σ H' => ∃ (x4 x5 x6 x7 x8 x9 : Option V) (tvs : List V), σ = [some (.ref a), some (.ref b), some (.ref c), some (.ref D), x4, x5, x6, x7, x8, x9] ∧ Same H H' ∧ H' D = some (.lst tvs) ∧ tvs.length = i ∧ All2 (fun v r => RwAt K H' v (r.map triF)) tvs (R.take i))
      ⟨_, _, _, _, _, _, [], rfl, s0, upd_same, rfl, .nil⟩ (fun i σ H' ⟨_, _, _, _, _, _, _, _, s, _⟩ => ⟨sqB_same (t := false) s ha, sqB_same (t := false) s hb, sqB_same (t := false) s hc⟩) ?_ ?_⟩
    · rintro i x y z qa σ H2 hx hy hz ⟨x4, x5, x6, x7, x8, x9, tvs, rfl, s2, h2, l2, a2⟩ nq
      obtain ⟨r, hr, tx, rfl, htx⟩ := aa.get hx
      obtain ⟨r2, hr2, ty, rfl, hty⟩ := ab.get hy
      obtain ⟨r3, hr3, tz, rfl, htz⟩ := ac.get hz
      rw [hr] at hr2 hr3
      cases hr2
      cases hr3
      have sq := same_new (u := .tup [V.ref tx, V.ref ty, V.ref tz]) nq
      have il := (List.getElem?_eq_some_iff.mp hr).1
      have rl := hr1 r (List.mem_of_getElem? hr)
      have s2q := s2.trans sq
      have h2q := sq _ _ h2
      refine ⟨qa, _, rfl, SqT.of upd_same, rfl, _, _, rfl, _, _, rfl, _, _, rfl, rfl, ?_⟩
      have a2q : All2 (fun v r => RwAt K (upd H2 qa (.tup [V.ref tx, V.ref ty, V.ref tz])) v (r.map triF)) tvs (R.take i) := a2.imp fun _ _ h => h.firm (Firm.of sq)
      generalize upd H2 qa (.tup [V.ref tx, V.ref ty, V.ref tz]) = H3 at s2q h2q a2q ⊢
      refine ⟨_, rfl, .inl ⟨rfl, _, SqL.of h2q⟩, _, rfl, _, rfl, _, rfl, false, false, false, tx, ty, tz, _, _, _, rfl, sqB_same (t := false) s2q htx, sqB_same (t := false) s2q hty, sqB_same (t := false) s2q htz, fun D2 nD2 => ?_⟩
      refine lc_zipB3 (t := false) (u := false) (v := false) (a := tx) (b := ty) (c := tz) (xs := (c1 r).map V.int) (ys := (c2 r).map V.int) (zs := (c3 r).map V.int) (by unfold c1 c2; simp only [List.length_map]) (by unfold c1 c3; simp only [List.length_map])
        (fun j H' => Same H3 H' ∧ H' D2 = some (.lst ((r.take j).map triV))) ⟨same_new nD2, upd_same⟩ (fun j H' ⟨s, _⟩ => ⟨sqB_same (t := false) (s2q.trans s) htx, sqB_same (t := false) (s2q.trans s) hty, sqB_same (t := false) (s2q.trans s) htz⟩) ?_ ?_
      · rintro j x y z qb H4 ex ey ez ⟨s4, h4⟩ nq4
        obtain ⟨x0, hx0, _⟩ := get_map ex
        obtain ⟨p, hp, _⟩ := get_map hx0
        obtain rfl := col_get (g := fun p => p.1) ex hp
        obtain rfl := col_get (g := fun p => p.2.1) ey hp
        obtain rfl := col_get (g := fun p => p.2.2) ez hp
        have jl := (List.getElem?_eq_some_iff.mp hp).1
        have sq4 := same_new (u := .tup [V.int p.1, V.int p.2.1, V.int p.2.2]) nq4
        refine ⟨qb, _, rfl, SqT.of upd_same, rfl, _, _, rfl, _, _, rfl, _, _, rfl, rfl, rfl, yes_of ⟨_, rfl, _, rfl, _, rfl, _, _, rfl, rfl, _, rfl, _, _, rfl, rfl, _, _, rfl, rfl, _, sq4 _ _ h4, ?_, mk_same (s4.trans sq4) nD2, ?_⟩⟩
        · rw [List.length_map, List.length_take]
          exact Nat.lt_of_le_of_lt (Nat.min_le_left _ _) (Nat.lt_of_lt_of_le (by omega : j < 1001) (by decide))
        · rw [upd_same, Xw.tk hp, List.map_append]
          rfl
      · rintro H4 ⟨s4, h4⟩
        have e4 : ((c1 r).map V.int).length = r.length := by unfold c1; simp only [List.length_map]
        rw [e4, List.take_length] at h4
        refine ⟨D2, _, rfl, .inl ⟨SqL.of h4, fun t nt => ?_⟩⟩
        have st := same_new (u := .tup (r.map triV)) nt
        have h5 := st _ _ (s4 _ _ h2q)
        have fu := Firm.upd (o := .lst (tvs ++ [.ref t])) h5 rfl
        refine ⟨D, _, _, rfl, rfl, h5, Nat.lt_of_lt_of_le (by omega : tvs.length < 1001) (by decide), _, _, _, _, _, _, _, rfl, mk_same (s2q.trans (s4.trans st)) nD, upd_same, by rw [List.length_append, l2]; rfl, ?_⟩
        rw [Xw.tk hr]
        refine (a2q.imp fun _ _ h => h.firm (((Firm.of s4).trans (Firm.of st)).trans fu)).append (.cons ⟨t, rfl, firm_seq fu (SqT.of ?_)⟩ .nil)
        rw [upd_same, List.map_map]
        rfl
    · rintro σ H2 ⟨x4, x5, x6, x7, x8, x9, tvs, rfl, s2, h2, l2, a2⟩
      rw [la, List.take_length] at a2
      refine ⟨_, rfl, D, _, rfl, .inl ⟨SqL.of h2, fun t nt => ?_⟩⟩
      have st := same_new (u := .tup tvs) nt
      exact q _ t tvs (s2.trans st) (SqT.of upd_same) (a2.imp fun _ _ h => h.firm (Firm.of st))
end
end Xv
namespace Xz
open PySem PySem.Spec PyProof.Rows L2 Pen Dat Ki Fi Ep Eq Es Ev Xm Xn Xd Xw Xg Xp Xq Zp Zp3 Ab Xr Xs Xt Xu Xv
/-! ## The law's rows of bits -/
def wdN (q : Str × Nat) : Nat := q.2
def spBI (K : PySem.W.Frag) : Sp := fun vs H Q _ => ∃ (d a : Addr) (ds avs : List V) (A : List Md) (m : Md) (R : List (List Int)), vs = [.ref d, .ref a] ∧ DsAt K H d ds (A ++ [m]) ∧ SqT K H a avs ∧ All2 (fun v r => RwAt K H v r) avs R ∧ R.length ≤ 100 ∧ (∀ r ∈ R, r.length = (insOf m.items).length) ∧
  ∀ (H' : Hp) (t : Addr) (tvs : List V), Same H H' → SqT K H' t tvs → All2 (fun v r => RwAt K H' v (bitsOf ((insOf m.items).map wdN) r)) tvs R → Q (.ref t) H'
theorem wd_sum : ∀ (l : List (Str × Nat)), (∀ q ∈ l, q.2 ≤ 8) → (l.map wdN).sum ≤ 8 * l.length
  | [], _ => Nat.le_refl _
  | q :: l, h => by
    have := wd_sum l fun z hz => h z (List.mem_cons_of_mem _ hz)
    have h1 : wdN q ≤ 8 := h q List.mem_cons_self
    rw [List.map_cons, List.sum_cons, List.length_cons]
    omega
section
variable {P : Program} {w : World} {K : PySem.W.Frag} {mg : Str → Option Value} {base : Heap} {f : Addr} {fd : FuncData}
abbrev nBI : List Str := ["_law_design", "_law_rows", "_law_item", "_law_widths", "_law_found", "_law_row", "_law_bits_here", "_law_word", "_law_width", "_law_k"]
theorem scBI : FnScope nBI ["_law_design", "_law_rows"] (defScope sLBits) := ⟨rfl, rfl, rfl, by decide +kernel, rfl, by decide +kernel, by decide +kernel⟩
theorem ok_bi (F : FnP K "_law_bits" sLBits f fd) (T : Ty mg)
    {fPO : Addr} {dPO : FuncData}
    (GPO : FnOk P w K mg base CX0 2 fPO dPO ["_law_design", "_law_name"] ((spPO K))) (gPO : mg "_law_ports" = some (.ref fPO)) (kPO : PySem.W.keepIn K (.ref fPO) = true) (bPO : Binds K dPO ["_law_design", "_law_name"] [])
    : FnOk P w K mg base CX0 3 f fd ["_law_design", "_law_rows"] (spBI K) := by
  refine F.ok scBI (fun vs H Q E h => ?_) (fun cdv A0 outer s H vs Q E hr h => ?_)
  · obtain ⟨d, a, ds, avs, A, m, R, rfl, _⟩ := h
    rfl
  · obtain ⟨d, a, ds, avs, A, m, R, rfl, D0, ha, aa, hR, hl, q⟩ := h
    refine ⟨_, PSs.nox (pss_cons (ps_setLc (i := 3) (own := [("_law_item", 2)]) (g := gName 2) (tt := tYes) (by rfl) scBI.nd rfl rfl (sw_true rfl rfl rfl (by decide +kernel)) (pi_list (pe_call GPO (hr.mono (by decide)) (by rfl) gPO kPO bPO .nil pass0 (pa_cons (pv 0) (pa_cons (pe_ix (r := L2.rIxT K) (by exact ix_tup) (pe_ix (r := L2.rIxT K) (by exact ix_tup) (pv 0) (pe_un un_neg pe_int) (fun _ _ => rfl)) pe_int (fun _ _ => rfl)) pa_nil)))) (blkOk_by (N := nBI) (sc := defScope sLBits) (by decide +kernel)) (fun _ _ _ _ _ => pg_name (i := 2) scBI.nd rfl (Or.inl rfl)) (fun _ _ _ _ _ => pts_nil) (fun _ _ _ _ _ => (pe_ix (r := L2.rIxT K) (by exact ix_tup) (pv 2) pe_int (fun _ _ => rfl))))
      (pss_cons (ps_set (i := 4) scBI.nd rfl (Or.inl rfl) (pe_lst pa_nil))
      (pss_cons (ps_for PassesOwn.never rfl (pi_tup (pv 1)) (pg_name (i := 5) scBI.nd rfl (Or.inl rfl))
        (pss_cons (ps_set (i := 6) scBI.nd rfl (Or.inl rfl) (pe_lst pa_nil))
        (pss_cons (ps_for PassesOwn.never rfl (Zp.pi_zipB (by rfl) T.zip (pa_cons (pv 5) (pa_cons (pv 3) pa_nil))) (pg_tup rfl (pgs_cons (pg_name (i := 7) scBI.nd rfl (Or.inr rfl)) (pgs_cons (pg_name (i := 8) scBI.nd rfl (Or.inl rfl)) pgs_nil)))
          (pss_one (ps_set (i := 6) scBI.nd rfl (Or.inl rfl) (pe_op op_cat (pv 6) (pe_lc (own := [("_law_k", 9)]) (g := gName 9) (tt := tYes) rfl scBI.nd (pi_range1 (by rfl) T.range (pa_cons (pv 8) pa_nil)) (blkOk_by (N := nBI) (sc := defScope sLBits) (by decide +kernel)) (fun _ _ _ _ _ => pg_name (i := 9) scBI.nd rfl (Or.inl rfl)) (fun _ _ _ _ _ => pts_nil) (fun _ _ _ _ _ => (pe_op op_mod (pe_callTy call_int1 (by rfl) T.ki.int (by decide +kernel) (pa_cons (pe_op op_fdiv (pv 7) (pe_op op_oneShl pe_int (pv 9))) pa_nil)) pe_int)))))))
        (pss_one (ps_expr (pe_bm PySem.F.plainAttrs_list PySem.F.slot_list_append PySem.F.type_list_append mt_append (pv 4) (pa_cons (pe_callTy (T := "tuple") (r := rTupOf K) (by exact call_tuple_of) (by rfl) T.ki.tuple (by decide +kernel) (pa_cons (pv 6) pa_nil)) pa_nil)))))))
      (pss_one (ps_ret (pe_callTy (T := "tuple") (r := rTupOf K) (by exact call_tuple_of) (by rfl) T.ki.tuple (by decide +kernel) (pa_cons (pv 4) pa_nil))))))), ?_⟩
    have ok := D0.ok.ok m (by simp)
    have insl := ok.insl
    obtain ⟨v, hv, dv⟩ := at_back D0.at_ (j := A.length) (x := m) (by simp)
    obtain ⟨tm, ti, ixs, rfl, htm, hti, hix⟩ := md_at dv
    have dl := D0.at_.len
    have dse : ds = ds.take A.length ++ [.ref tm] := by
      have := tk hv
      rw [List.take_of_length_le (by rw [dl, List.length_append]; exact Nat.le_refl _)] at this
      exact this
    have lst : atI ds (-1) = some (.ref tm) := by
      rw [dse]
      exact at_last
    refine ⟨_, rfl, _, rfl, 1, rfl, d, ds, -1, _, rfl, rfl, D0.seq, lst, tm, _, 1, _, rfl, rfl, htm, at_of (j := 1) rfl rfl, d, ds, A ++ [m], A.length, m, rfl, D0, by simp, fun H1 l pvs s1 nl h1 a1 => ?_⟩
    have al := a1.len
    refine ⟨l, rfl, ⟨_, SqL.of h1⟩, fun W nW => ?_⟩
    refine lc_list (K := K) (a := l) (xs := pvs) (fun i H' => Same H1 H' ∧ H' W = some (.lst (((insOf m.items).take i).map wdV)))
      ⟨same_new nW, upd_same⟩ (fun i H' _ ⟨s, _⟩ => s.seq (SqL.of h1)) ?_ ?_
    · rintro i y H2 hy ⟨s2, h2⟩
      obtain ⟨q1, hq1, t1, rfl, ht1⟩ := a1.get hy
      have ht1 := seqT_same s2 ht1
      have iil := (List.getElem?_eq_some_iff.mp hy).1
      refine ⟨rfl, yes_of ⟨_, rfl, t1, _, 2, _, rfl, rfl, ht1, at_of (j := 2) rfl rfl, _, h2, ?_, mk_same s2 nW, ?_⟩⟩
      · rw [List.length_map, List.length_take]
        exact Nat.lt_of_lt_of_le (by omega : _ < 900) (by decide)
      · rw [Xw.tk hq1, List.map_append]
        exact upd_same
    rintro H2 ⟨s2, h2⟩
    rw [al, List.take_length] at h2
    have sH := s1.trans s2
    refine ⟨(by show 0 ≤ sizeLine; decide), fun D nD => ?_⟩
    have s3 := same_new (u := .lst []) nD
    have h3 := upd_same (H := H2) (a := D) (o := .lst [])
    refine ⟨_, rfl, a, rfl, ⟨_, seqT_same (sH.trans s3) ha⟩, for_tup (a := a) (xs := avs)
      (fun i σ H' => ∃ (x2 x5 x6 x7 x8 x9 : Option V) (tvs : List V), σ = [some (.ref d), some (.ref a), x2, some (.ref W), some (.ref D), x5, x6, x7, x8, x9] ∧ Same H2 H' ∧ H' D = some (.lst tvs) ∧ tvs.length = i ∧ All2 (fun v r => RwAt K H' v (bitsOf ((insOf m.items).map wdN) r)) tvs (R.take i))
      ⟨_, _, _, _, _, _, [], rfl, s3, h3, rfl, .nil⟩ (fun i σ H' _ ⟨_, _, _, _, _, _, _, _, s, _⟩ => seqT_same (sH.trans s) ha) ?_ ?_⟩
    · rintro i y σ H4 hy ⟨x2, x5, x6, x7, x8, x9, tvs, rfl, s4, h4, l4, a4⟩
      obtain ⟨r, hr, tr, rfl, htr⟩ := aa.get hy
      have rlen := hl r (List.mem_of_getElem? hr)
      have il := (List.getElem?_eq_some_iff.mp hr).1
      refine ⟨(by show 0 ≤ sizeLine; decide), fun B nB => ?_⟩
      have sB := same_new (u := .lst []) nB
      refine ⟨_, rfl, _, rfl, false, true, tr, W, _, _, rfl, sqB_same (t := false) (sH.trans (s4.trans sB)) htr, SqL.of (sB _ _ (s4 _ _ h2)), for_zipB (t := false) (u := true) (xs := r.map V.int) (ys := (insOf m.items).map wdV) (by rw [List.length_map, List.length_map, rlen])
        (fun j σ H' => ∃ (x2 x7 x8 x9 : Option V) (b : Addr), σ = [some (.ref d), some (.ref a), x2, some (.ref W), some (.ref D), some (.ref tr), some (.ref b), x7, x8, x9] ∧ Same H4 H' ∧ H' b = some (.lst ((bitsOf (((insOf m.items).map wdN).take j) (r.take j)).map V.int)))
        ⟨_, _, _, _, B, rfl, sB, upd_same⟩ (fun j σ H' ⟨_, _, _, _, _, _, s, _⟩ => ⟨sqB_same (t := false) (sH.trans (s4.trans s)) htr, SqL.of (s _ _ (s4 _ _ h2))⟩) ?_ ?_⟩
      · rintro j y1 y2 qa σ H5 ex ey ⟨x2, x7, x8, x9, b, rfl, s5, h5⟩ nq
        obtain ⟨x, rfl, hx⟩ := int_get ex
        obtain ⟨q1, hq1, rfl⟩ := get_map ey
        obtain ⟨qa1, qb1, _⟩ := ok.ins q1 (List.mem_of_getElem? hq1)
        have jl := (List.getElem?_eq_some_iff.mp hq1).1
        have hn : ((insOf m.items).map wdN)[j]? = some q1.2 := by rw [List.getElem?_map, hq1]; rfl
        have lt2 : (((insOf m.items).map wdN).take j).length = (r.take j).length := by rw [List.length_take, List.length_take, List.length_map, rlen]
        have sq := same_new (u := .tup [V.int x, wdV q1]) nq
        refine ⟨qa, _, rfl, SqT.of upd_same, rfl, _, _, rfl, _, _, rfl, rfl, ?_⟩
        have h6 := sq _ _ h5
        have s6 := s5.trans sq
        generalize upd H5 qa (.tup [V.int x, wdV q1]) = H6 at h6 s6 ⊢
        refine ⟨_, rfl, _, rfl, q1.2, rfl, by omega, by omega, fun C nC => ?_⟩
        refine lc_range (lo := 0) (n := ((q1.2 : Nat) : Int).toNat) (fun k H' => Same H6 H' ∧ H' C = some (.lst ((bitsN k x).map V.int))) ⟨same_new nC, upd_same⟩ ?_ ?_
        · rintro k H7 hk ⟨s7, h7⟩
          have k8 : k < 9 := by omega
          refine ⟨rfl, yes_of ?_⟩
          refine ⟨_, rfl, _, rfl, k, rfl, (by rw [Int.zero_add]), by omega, _, _, rfl, rfl, ?_, .inl ⟨_, rfl, _, _, rfl, rfl, (by show (0 : Int) < 2; decide), _, h7, ?_, mk_same s7 nC, ?_⟩⟩
          · exact ⟨Int.pow_pos (by decide), p2lt k (by omega)⟩
          · rw [List.length_map, bitsN_len]
            exact Nat.lt_of_lt_of_le (by omega : k < 101) (by decide)
          · have e3 : bitsN (k + 1) x = bitsN k x ++ [x / 2 ^ k % 2] := by
              unfold bitsN
              rw [List.range_succ, List.map_append]
              rfl
            rw [upd_same, e3, List.map_append]
            rfl
        · rintro H7 ⟨s7, h7⟩
          rw [show ((q1.2 : Nat) : Int).toNat = q1.2 by omega] at h7
          have sl := sum_take ((insOf m.items).map wdN) j
          have s8 := wd_sum (insOf m.items) fun q hq => (ok.ins q hq).2.1
          refine ⟨b, C, _, _, rfl, rfl, s7 _ _ h6, h7, ?_, fun p np => ⟨_, _, _, _, p, rfl, (s6.trans s7).trans (same_new np), ?_⟩⟩
          · rw [List.length_map, List.length_map, bits_len _ _ lt2, bitsN_len]
            exact Nat.le_trans (by omega : _ ≤ 1000) (by decide)
          · rw [upd_same, Xw.tk hn, Xw.tk hx, bits_snoc _ _ _ _ lt2, List.map_append]
      · rintro σ H5 ⟨x2, x7, x8, x9, b, rfl, s5, h5⟩
        rw [List.length_map, rlen, List.take_of_length_le (by rw [List.length_map]; exact Nat.le_refl _), ← rlen, List.take_length] at h5
        have h6 := s5 _ _ h4
        refine ⟨_, rfl, .inl ⟨rfl, _, SqL.of h6⟩, _, rfl, b, _, rfl, .inl ⟨SqL.of h5, fun t nt => ?_⟩⟩
        have st := same_new (u := .tup ((bitsOf ((insOf m.items).map wdN) r).map V.int)) nt
        have h7 := st _ _ h6
        have fu := Firm.upd (o := .lst (tvs ++ [.ref t])) h7 rfl
        refine ⟨D, _, _, rfl, rfl, h7, Nat.lt_of_lt_of_le (by omega : tvs.length < 1001) (by decide), _, _, _, _, _, _, _, rfl, mk_same (s4.trans (s5.trans st)) nD, upd_same, by rw [List.length_append, l4]; rfl, ?_⟩
        rw [Xw.tk hr]
        exact (a4.imp fun _ _ h => h.firm (((Firm.of s5).trans (Firm.of st)).trans fu)).append (.cons ⟨t, rfl, firm_seq fu (SqT.of upd_same)⟩ .nil)
    · rintro σ H4 ⟨x2, x5, x6, x7, x8, x9, tvs, rfl, s4, h4, l4, a4⟩
      rw [aa.len, List.take_length] at a4
      refine ⟨_, rfl, D, _, rfl, .inl ⟨SqL.of h4, fun t nt => ?_⟩⟩
      have st := same_new (u := .tup tvs) nt
      exact q _ t tvs (sH.trans (s4.trans st)) (SqT.of upd_same) (a4.imp fun _ _ h => h.firm (Firm.of st))
end
end Xz
namespace Xo
open PySem PySem.Spec PyProof.Rows L2 Xs Xt Xu
/-! ## Words and their bits: there and back -/
theorem bitsN_snoc (w : Nat) (x : Int) : bitsN (w + 1) x = bitsN w x ++ [x / 2 ^ w % 2] := by
  unfold bitsN
  rw [List.range_succ, List.map_append]
  rfl
theorem num_bitsN : ∀ (w : Nat) (x : Int), num (bitsN w x) = x % 2 ^ w
  | 0, x => by
    show (0 : Int) = x % 1
    omega
  | w + 1, x => by
    rw [bitsN_snoc, num_snoc, num_bitsN w x, bitsN_len, Int.pow_succ]
    have hp : (0 : Int) < 2 ^ w := Int.pow_pos (by decide)
    generalize (2 : Int) ^ w = p at hp ⊢
    have e1 := Int.emod_add_mul_ediv x p
    have e2 := Int.emod_add_mul_ediv (x / p) 2
    have l1 := Int.emod_nonneg x (Int.ne_of_gt hp)
    have l2 := Int.emod_lt_of_pos x hp
    have m1 := Int.emod_nonneg (x / p) (by decide : (2 : Int) ≠ 0)
    have m2 := Int.emod_lt_of_pos (x / p) (by decide : (0 : Int) < 2)
    generalize x / p = y at e1 e2 m1 m2 ⊢
    generalize y / 2 = z at e2 ⊢
    have hx : x = (x % p + p * (y % 2)) + p * 2 * z := by
      have a1 : p * y = p * (y % 2) + p * (2 * z) := by rw [← Int.mul_add, e2]
      rw [Int.mul_assoc]
      omega
    have lt : x % p + p * (y % 2) < p * 2 := by
      rcases (by omega : y % 2 = 0 ∨ y % 2 = 1) with h | h <;> rw [h] <;> omega
    have ge : 0 ≤ x % p + p * (y % 2) := by
      rcases (by omega : y % 2 = 0 ∨ y % 2 = 1) with h | h <;> rw [h] <;> omega
    generalize hr : x % p + p * (y % 2) = r at hx lt ge ⊢
    rw [hx, Int.add_mul_emod_self_left, Int.emod_eq_of_lt ge lt]
theorem num_back {w : Nat} {x : Int} (h0 : 0 ≤ x) (h1 : x < 2 ^ w) : num (bitsN w x) = x := by
  rw [num_bitsN, Int.emod_eq_of_lt h0 h1]
theorem bits01 {w : Nat} {x : Int} : ∀ y ∈ bitsN w x, y = 0 ∨ y = 1 := fun y hy => by
  unfold bitsN at hy
  obtain ⟨k, _, rfl⟩ := List.mem_map.mp hy
  omega
theorem bitsOf01 : ∀ (ws : List Nat) (xs : List Int), ∀ y ∈ bitsOf ws xs, y = 0 ∨ y = 1
  | w :: ws, x :: xs, y, hy => by
    rcases List.mem_append.mp (show y ∈ bitsN w x ++ bitsOf ws xs from hy) with h | h
    · exact bits01 y h
    · exact bitsOf01 ws xs y h
  | [], _, y, hy => by
    unfold bitsOf at hy
    cases hy
  | _ :: _, [], y, hy => by
    unfold bitsOf at hy
    cases hy
/-- a row of words of these widths -/
inductive InW : List Nat → List Int → Prop
  | nil : InW [] []
  | cons {w : Nat} {x : Int} {ws : List Nat} {xs : List Int} : 0 ≤ x → x < 2 ^ w → InW ws xs → InW (w :: ws) (x :: xs)
theorem InW.len {ws : List Nat} {xs : List Int} (h : InW ws xs) : ws.length = xs.length := by
  induction h with
  | nil => rfl
  | cons _ _ _ ih => exact congrArg Nat.succ ih
theorem words_back {ws : List Nat} {xs : List Int} (h : InW ws xs) : wordsOf ws (bitsOf ws xs) = xs := by
  induction h with
  | nil => rfl
  | @cons w x ws xs a b h ih =>
    show num ((bitsN w x ++ bitsOf ws xs).take w) :: wordsOf ws ((bitsN w x ++ bitsOf ws xs).drop w) = x :: xs
    have e := bitsN_len w x
    rw [List.take_append_of_le_length (Nat.le_of_eq e.symm), List.take_of_length_le (Nat.le_of_eq e), num_back a b, List.drop_append_of_le_length (Nat.le_of_eq e.symm), List.drop_of_length_le (Nat.le_of_eq e), List.nil_append, ih]
end Xo
namespace Xh
open PySem PySem.Spec PyProof.Rows L2 Xs Xt Xu Xv Xo
/-! ## A filling, bit by bit -/
theorem pow_cast (w : Nat) : ((2 ^ w : Nat) : Int) = 2 ^ w := by
  rw [Int.natCast_pow]
  rfl
theorem mod_succ (x k : Nat) : x % 2 ^ (k + 1) = x % 2 ^ k + 2 ^ k * (x.testBit k).toNat := by rw [Nat.mod_pow_succ, Nat.toNat_testBit]
theorem or_eq (a b : Nat) : a ||| b = (a &&& b) + (a ^^^ b) := by
  have key : ∀ k, (a ||| b) % 2 ^ k = (a &&& b) % 2 ^ k + (a ^^^ b) % 2 ^ k := by
    intro k
    induction k with
    | zero => rw [Nat.pow_zero, Nat.mod_one, Nat.mod_one, Nat.mod_one]
    | succ k ih =>
      rw [mod_succ, mod_succ, mod_succ, ih, Nat.testBit_or, Nat.testBit_and, Nat.testBit_xor]
      cases a.testBit k <;> cases b.testBit k <;> simp <;> omega
  have ha : a < 2 ^ (a + b) := Nat.lt_of_le_of_lt (Nat.le_add_right a b) Nat.lt_two_pow_self
  have hb : b < 2 ^ (a + b) := Nat.lt_of_le_of_lt (Nat.le_add_left b a) Nat.lt_two_pow_self
  have := key (a + b)
  rw [Nat.mod_eq_of_lt (Nat.or_lt_two_pow ha hb), Nat.mod_eq_of_lt (Nat.lt_of_le_of_lt Nat.and_le_left ha), Nat.mod_eq_of_lt (Nat.xor_lt_two_pow ha hb)] at this
  exact this
theorem xor_nn (a b : Nat) : Builtin.bitXor (a : Int) (b : Int) = ((a ^^^ b : Nat) : Int) := by
  have h : Builtin.bitXor (a : Int) (b : Int) = Builtin.bitOr (a : Int) (b : Int) - Builtin.bitAnd (a : Int) (b : Int) := rfl
  rw [h, bitAnd_pp (by omega) (by omega), bitOr_nn (by omega) (by omega)]
  have key := or_eq a b
  rw [Int.toNat_natCast, Int.toNat_natCast]
  omega
theorem and_nn (a b : Nat) : Builtin.bitAnd (a : Int) (b : Int) = ((a &&& b : Nat) : Int) := by
  rw [bitAnd_pp (by omega) (by omega), Int.toNat_natCast, Int.toNat_natCast]
theorem tri_nat (w k o : Nat) : triF ((w : Int), (k : Int), (o : Int)) = ((o ^^^ ((w ^^^ o) &&& k) : Nat) : Int) := by
  show Builtin.bitXor (o : Int) (Builtin.bitAnd (Builtin.bitXor (w : Int) (o : Int)) (k : Int)) = _
  rw [xor_nn, and_nn, xor_nn]
theorem bit_nat (n i : Nat) : (n : Int) / 2 ^ i % 2 = ((n.testBit i).toNat : Int) := by
  rw [Nat.toNat_testBit, Int.natCast_emod, Int.natCast_ediv, pow_cast]
  rfl
theorem tri_bit (w k o i : Nat) : triF ((w : Int), (k : Int), (o : Int)) / 2 ^ i % 2 = if (k : Int) / 2 ^ i % 2 = 1 then (w : Int) / 2 ^ i % 2 else (o : Int) / 2 ^ i % 2 := by
  rw [tri_nat, bit_nat, bit_nat, bit_nat, bit_nat, Nat.testBit_xor, Nat.testBit_and, Nat.testBit_xor]
  cases w.testBit i <;> cases k.testBit i <;> cases o.testBit i <;> simp
theorem bitsN_get {w i : Nat} {x y : Int} (h : (bitsN w x)[i]? = some y) : y = x / 2 ^ i % 2 ∧ i < w := by
  have l := (List.getElem?_eq_some_iff.mp h).1
  rw [bitsN_len] at l
  unfold bitsN at h
  rw [List.getElem?_map, List.getElem?_range l] at h
  exact ⟨(Option.some.inj h).symm, l⟩
theorem bitsN_at {w i : Nat} (x : Int) (h : i < w) : (bitsN w x)[i]? = some (x / 2 ^ i % 2) := by
  unfold bitsN
  rw [List.getElem?_map, List.getElem?_range h]
  rfl
theorem fill_bits : ∀ (ws : List Nat) (r : List Tri), (∀ p ∈ r, 0 ≤ p.1 ∧ 0 ≤ p.2.1 ∧ 0 ≤ p.2.2) → ∀ (i : Nat) (a b c : Int), (bitsOf ws (c1 r))[i]? = some a → (bitsOf ws (c2 r))[i]? = some b → (bitsOf ws (c3 r))[i]? = some c →
    (bitsOf ws (r.map triF))[i]? = some (if b = 1 then a else c)
  | [], r, _, i, a, b, c, h, _, _ => by
    unfold bitsOf at h
    cases h
  | w :: ws, [], _, i, a, b, c, h, _, _ => by
    unfold bitsOf c1 at h
    cases h
  | w :: ws, p :: r, h0, i, a, b, c, ha, hb, hc => by
    have ha : (bitsN w p.1 ++ bitsOf ws (c1 r))[i]? = some a := ha
    have hb : (bitsN w p.2.1 ++ bitsOf ws (c2 r))[i]? = some b := hb
    have hc : (bitsN w p.2.2 ++ bitsOf ws (c3 r))[i]? = some c := hc
    show (bitsN w (triF p) ++ bitsOf ws (r.map triF))[i]? = _
    by_cases l : i < w
    · rw [List.getElem?_append_left (by rw [bitsN_len]; exact l)] at ha hb hc ⊢
      rw [bitsN_at _ l]
      obtain ⟨rfl, _⟩ := bitsN_get ha
      obtain ⟨rfl, _⟩ := bitsN_get hb
      obtain ⟨rfl, _⟩ := bitsN_get hc
      obtain ⟨z1, z2, z3⟩ := h0 p List.mem_cons_self
      obtain ⟨x, k, o⟩ := p
      obtain ⟨x', rfl⟩ := Int.eq_ofNat_of_zero_le z1
      obtain ⟨k', rfl⟩ := Int.eq_ofNat_of_zero_le z2
      obtain ⟨o', rfl⟩ := Int.eq_ofNat_of_zero_le z3
      exact congrArg some (tri_bit x' k' o' i)
    · rw [List.getElem?_append_right (by rw [bitsN_len]; omega), bitsN_len] at ha hb hc ⊢
      exact fill_bits ws r (fun q hq => h0 q (List.mem_cons_of_mem _ hq)) _ a b c ha hb hc
theorem tri_lt {n : Nat} {p : Tri} (h0 : 0 ≤ p.1 ∧ 0 ≤ p.2.1 ∧ 0 ≤ p.2.2) (h1 : p.1 < 2 ^ n) (h3 : p.2.2 < 2 ^ n) : 0 ≤ triF p ∧ triF p < 2 ^ n := by
  obtain ⟨x, k, o⟩ := p
  obtain ⟨z1, z2, z3⟩ := h0
  obtain ⟨x, rfl⟩ := Int.eq_ofNat_of_zero_le z1
  obtain ⟨k, rfl⟩ := Int.eq_ofNat_of_zero_le z2
  obtain ⟨o, rfl⟩ := Int.eq_ofNat_of_zero_le z3
  have hx : x < 2 ^ n := by
    have : (x : Int) < 2 ^ n := h1
    rw [← pow_cast] at this
    omega
  have ho : o < 2 ^ n := by
    have : (o : Int) < 2 ^ n := h3
    rw [← pow_cast] at this
    omega
  have l := Nat.xor_lt_two_pow ho (Nat.lt_of_le_of_lt (Nat.and_le_left (m := k)) (Nat.xor_lt_two_pow hx ho))
  rw [show triF ((x : Int), (k : Int), (o : Int)) = _ from tri_nat x k o, ← pow_cast]
  omega
end Xh
namespace Xa
open PySem PySem.Spec PyProof.Rows L2 Pen Dat Ki Fi Ep Eq Es Ev Xm Xn Xd Xw Xg Xp Xq Zp Ab Xr
/-! ## A row as a caller may pass it: tuples and lists mixed -/
mutual
theorem dp_pres {K : PySem.W.Frag} {H H' : Hp} (sl : ∀ a xs, SqL K H a xs → SqL K H' a xs) (st : ∀ a xs, SqT K H a xs → SqT K H' a xs) : ∀ {d : PyData} {v : V}, Dp K H v d → Dp K H' v d
  | .none, _, h => by
    cases h
    exact .non
  | .bool b, _, h => by
    cases h
    exact .bl b
  | .int i, _, h => by
    cases h
    exact .int i
  | .str x, _, h => by
    cases h
    exact .str x
  | .list ds, _, h => by
    cases h with
    | lst hs ha => exact .lst (sl _ _ hs) (dps_pres sl st ha)
  | .tuple ds, _, h => by
    cases h with
    | tup hs ha => exact .tup (st _ _ hs) (dps_pres sl st ha)
  | .dict _, _, h => by cases h
theorem dps_pres {K : PySem.W.Frag} {H H' : Hp} (sl : ∀ a xs, SqL K H a xs → SqL K H' a xs) (st : ∀ a xs, SqT K H a xs → SqT K H' a xs) : ∀ {ds : List PyData} {vs : List V}, DpAll K H vs ds → DpAll K H' vs ds
  | [], _, h => by
    cases h
    exact .nil
  | d :: ds, _, h => by
    cases h with
    | cons h1 h2 => exact .cons (dp_pres sl st h1) (dps_pres sl st h2)
end
theorem rd_but {H H' : Hp} {p c a : Addr} {m : Nat} {u : HO} (P : PenC H p c m) (B : But p H H') (nd : ∀ k, u ≠ .dK k) (h : Rd H a u) : Rd H' a u := by
  obtain ⟨_, _, _, _, _, hp, _⟩ := P
  rcases h with h | ⟨o, h⟩
  · refine .inl (B _ _ h fun e => ?_)
    subst e
    rw [hp] at h
    exact nd _ (Option.some.inj h).symm
  · refine .inr ⟨o, B _ _ h fun e => ?_⟩
    subst e
    rw [hp] at h
    cases h
theorem dp_but {K : PySem.W.Frag} {H H' : Hp} {p c : Addr} {m : Nat} {d : PyData} {v : V} (P : PenC H p c m) (B : But p H H') (h : Dp K H v d) : Dp K H' v d :=
  dp_pres (fun a xs h => h.elim (fun h => .inl (rd_but P B (fun _ e => by cases e) h)) .inr) (fun a xs h => h.elim (fun h => .inl (rd_but P B (fun _ e => by cases e) h)) .inr) h
theorem seq_but {K : PySem.W.Frag} {H H' : Hp} {p c a : Addr} {m : Nat} {xs : List V} (P : PenC H p c m) (B : But p H H') (h : SqT K H a xs) : SqT K H' a xs := h.elim (fun h => .inl (rd_but P B (fun _ e => by cases e) h)) .inr
inductive Mix : PyData → PyData → Prop
  | int (i : Int) : Mix (.int i) (.int i)
  | tup {ds es : List PyData} : ds.length = es.length → (∀ (i : Nat) (d e : PyData), ds[i]? = some d → es[i]? = some e → Mix d e) → Mix (.tuple ds) (.tuple es)
  | lst {ds es : List PyData} : ds.length = es.length → (∀ (i : Nat) (d e : PyData), ds[i]? = some d → es[i]? = some e → Mix d e) → Mix (.tuple ds) (.list es)
inductive Tr : Nat → PyData → Prop
  | int (k : Nat) (i : Int) : Tr k (.int i)
  | tup {k : Nat} {ds : List PyData} : (∀ d ∈ ds, Tr k d) → ds.length ≤ 400 → Tr (k + 1) (.tuple ds)
def cst : Nat → Nat
  | 0 => 0
  | k + 1 => 400 * cst k + 1
/-- what has come since, alone -/
def fresh (H H' : Hp) : Hp := fun a => if H a = none then H' a else none
theorem fresh_sub {H H' : Hp} : Same (fresh H H') H' := fun b o e => by
  unfold fresh at e
  by_cases h : H b = none
  · rwa [if_pos h] at e
  · rw [if_neg h] at e
    cases e
theorem fresh_upd {H H' : Hp} {D : Addr} {o u : HO} (hD : H D = some u) : fresh H (upd H' D o) = fresh H H' := by
  funext b
  unfold fresh
  by_cases h : H b = none
  · rw [if_pos h, if_pos h, upd_ne fun e => by rw [e, hD] at h; cases h]
  · rw [if_neg h, if_neg h]
theorem fresh_more {Hd H1 H2 : Hp} (h : ∀ b, H1 b = none → Hd b = none) : Same (fresh H1 H2) (fresh Hd H2) := fun b o e => by
  unfold fresh at e ⊢
  by_cases z : H1 b = none
  · rw [if_pos z] at e
    rw [if_pos (h b z)]
    exact e
  · rw [if_neg z] at e
    cases e
theorem fresh_keep {H Hd H1 H2 : Hp} (hd : ∀ b, Hd b = none → H b = none) (h : ∀ b o, Hd b = none → H1 b = some o → H2 b = some o) : Same (fresh Hd H1) (fresh H H2) := fun b o e => by
  unfold fresh at e ⊢
  by_cases z : Hd b = none
  · rw [if_pos z] at e
    rw [if_pos (hd b z)]
    exact h b o z e
  · rw [if_neg z] at e
    cases e
theorem dps_snoc {K : PySem.W.Frag} {H : Hp} {v : V} {d : PyData} (h : Dp K H v d) : ∀ {vs : List V} {ds : List PyData}, DpAll K H vs ds → DpAll K H (vs ++ [v]) (ds ++ [d])
  | _, [], g => by
    cases g
    exact .cons h .nil
  | _, _ :: _, g => by
    cases g with
    | cons a b => exact .cons a (dps_snoc h b)
def spAL (K : PySem.W.Frag) (k : Nat) : Sp := fun vs H Q _ => ∃ (p c : Addr) (n : Nat) (v : V) (d : PyData), vs = [.ref p, v] ∧ PenC H p c n ∧ n + cst k ≤ 100000000 ∧ Dp K H v d ∧ Tr k d ∧
  ∀ (H' : Hp) (v' : V) (e : PyData), PenC H' p c (n + cst k) → But p H H' → Dp K (fresh H H') v' e → Mix d e → Q v' H'
section
variable {P : Program} {w : World} {K : PySem.W.Frag} {mg : Str → Option Value} {base : Heap} {f : Addr} {fd : FuncData}
abbrev nAL : List Str := ["_law_pen_here", "_law_value", "_law_part", "_law_inner"]
theorem scAL : FnScope nAL ["_law_pen_here", "_law_value"] (defScope sLAsLists) := ⟨rfl, rfl, rfl, by decide +kernel, rfl, by decide +kernel, by decide +kernel⟩
theorem step_al (F : FnP K "_law_as_lists" sLAsLists f fd) (T : Ty mg) (k : Nat)
    {fPI fAL : Addr} {dPI dAL : FuncData}
    (GPI : FnOk P w K mg base CX0 2 fPI dPI ["_law_pen_here", "_law_some"] ((spPick K))) (gPI : mg "_law_pick" = some (.ref fPI)) (kPI : PySem.W.keepIn K (.ref fPI) = true) (bPI : Binds K dPI ["_law_pen_here", "_law_some"] [])
    (GAL : FnOk P w K mg base CX0 (k + 3) fAL dAL ["_law_pen_here", "_law_value"] ((spAL K k))) (gAL : mg "_law_as_lists" = some (.ref fAL)) (kAL : PySem.W.keepIn K (.ref fAL) = true) (bAL : Binds K dAL ["_law_pen_here", "_law_value"] [])
    : FnOk P w K mg base CX0 (k + 4) f fd ["_law_pen_here", "_law_value"] (spAL K (k + 1)) := by
  refine F.ok scAL (fun vs H Q E h => ?_) (fun cdv A0 outer s H vs Q E hr h => ?_)
  · obtain ⟨p, c, n, v, d, rfl, _⟩ := h
    rfl
  · obtain ⟨p, c, n, v, d, rfl, hP, hn, hd, tr, q⟩ := h
    refine ⟨_, PSs.nox (pss_cons (ps_if (pt_not (pt_val (pe_callB call_isi (by rfl) T.ki.isi (by decide +kernel) (pa_cons (pv 1) (pa_cons (pe_bltn (v := .ty "tuple") (by rfl) T.ki.tuple (by decide +kernel) rfl) pa_nil)))))
        (pss_one (ps_ret (pv 1)))
        pss_nil)
      (pss_cons (ps_setLc (i := 3) (own := [("_law_part", 2)]) (g := gName 2) (tt := tYes) (by rfl) scAL.nd rfl rfl (sw_true rfl rfl rfl (by decide +kernel)) (pi_tup (pv 1)) (blkOk_by (N := nAL) (sc := defScope sLAsLists) (by decide +kernel)) (fun _ _ _ _ _ => pg_name (i := 2) scAL.nd rfl (Or.inl rfl)) (fun _ _ _ _ _ => pts_nil) (fun _ _ _ _ _ => (pe_call GAL (hr.mono (by omega)) (by rfl) gAL kAL bAL .nil pass0 (pa_cons (pv 0) (pa_cons (pv 2) pa_nil)))))
      (pss_one (ps_ret (pe_call GPI (hr.mono (by omega)) (by rfl) gPI kPI bPI .nil pass0 (pa_cons (pv 0) (pa_cons (pe_lst (pa_cons (pv 3) (pa_cons (pe_callTy (T := "tuple") (r := rTupOf K) (by exact call_tuple_of) (by rfl) T.ki.tuple (by decide +kernel) (pa_cons (pv 3) pa_nil)) pa_nil))) pa_nil))))))), ?_⟩
    cases tr with
    | int _ i =>
      cases hd
      refine ⟨_, rfl, _, _, _, _, _, rfl, .ty _, ty_of (.int i), kit_ty (a := "int") (b := "tuple") (r := false) (by decide +kernel), _, rfl, goT rfl ⟨_, rfl, ?_⟩⟩
      exact q H _ _ (hP.more (by omega)) (fun _ _ e _ => e) (.int i) (.int i)
    | @tup _ ds hk hl2 =>
      cases hd with
      | @tup a vs _ hs ha =>
        have vl := dps_len ha
        refine ⟨_, rfl, _, _, _, _, _, rfl, .ty _, ty_of (.tup hs ha), kit_ty (a := "tuple") (b := "tuple") (r := true) (by decide +kernel), _, rfl, goF rfl ⟨_, rfl, a, rfl, ⟨_, hs⟩, fun D nD => ?_⟩⟩
        obtain ⟨Dp1, Dc1⟩ := hP.free nD
        have s0 := same_new (u := .lst []) nD
        refine lc_tup (K := K) (a := a) (xs := vs) (fun i H' => PenC H' p c (n + cst k * i) ∧ But p H H' ∧ ∃ (ws : List V) (es : List PyData), H' D = some (.lst ws) ∧ ws.length = i ∧ DpAll K (fresh (upd H D (.lst [])) H') ws es ∧ es.length = i ∧ ∀ (j : Nat) (d e : PyData), ds[j]? = some d → es[j]? = some e → Mix d e)
          ⟨hP.same s0, But.of_same s0, [], [], upd_same, rfl, .nil, rfl, fun _ _ _ _ h => by cases h⟩ (fun i H' _ ⟨_, B, _⟩ => seq_but hP B hs) ?_ ?_
        · rintro i y H1 hy ⟨P1, B1, ws, es, h1, l1, a1, le, mx⟩
          obtain ⟨d1, hd1, dv⟩ := dps_get ha hy
          have il := (List.getElem?_eq_some_iff.mp hd1).1
          have step : cst k * i + cst k = cst k * (i + 1) := (Nat.mul_succ _ _).symm
          have bnd : cst k * (i + 1) ≤ cst k * 400 := Nat.mul_le_mul_left _ (by omega)
          have ck : cst (k + 1) = 400 * cst k + 1 := rfl
          refine ⟨rfl, yes_of ⟨_, rfl, _, rfl, p, c, _, y, d1, rfl, P1, by omega, dp_but hP B1 dv, hk d1 (List.mem_of_getElem? hd1), fun H2 v' e P2 B2 dv' mx' => ?_⟩⟩
          have hpH : ∃ o, H p = some o := by
            obtain ⟨_, _, _, _, _, e, _⟩ := hP
            exact ⟨_, e⟩
          have hpH1 : ∃ o, H1 p = some o := by
            obtain ⟨_, _, _, _, _, e, _⟩ := P1
            exact ⟨_, e⟩
          have back : ∀ b, H1 b = none → upd H D (.lst []) b = none := fun b z => by
            have bD : b ≠ D := fun e => by rw [e, h1] at z; cases z
            rw [upd_ne bD]
            cases hb : H b with
            | none => rfl
            | some o =>
              by_cases bp : b = p
              · obtain ⟨_, e⟩ := hpH1
                rw [bp, e] at z
                cases z
              · rw [B1 _ _ hb bp] at z
                cases z
          have notp : ∀ b, upd H D (.lst []) b = none → b ≠ p := fun b z e => by
            obtain ⟨_, e2⟩ := hpH
            rw [e, upd_ne Dp1.symm, e2] at z
            cases z
          have hD2 := B2 _ _ h1 Dp1
          refine ⟨ws, hD2, Nat.lt_of_lt_of_le (by omega : ws.length < 1001) (by decide), (P2.upd Dp1 Dc1).more (by omega), fun b o e nb => ?_, ws ++ [v'], es ++ [e], upd_same, by rw [List.length_append, l1]; rfl, ?_, by rw [List.length_append, le]; rfl, fun j x y hx hy => ?_⟩
          · rw [upd_ne (ne_of_none e nD)]
            exact B2 _ _ (B1 _ _ e nb) nb
          · rw [fresh_upd upd_same]
            exact dps_snoc (dp_same (fresh_more back) dv') (dps_same (fresh_keep (fun _ z => z) fun b o z e => B2 _ _ e (notp b z)) a1)
          · rcases get_snoc hy with g | ⟨ej, rfl⟩
            · exact mx j x y hx g
            · rw [ej, le, hd1] at hx
              cases hx
              exact mx'
        · rintro H1 ⟨P1, B1, ws, es, h1, l1, a1, le, mx⟩
          have hpH : ∃ o, H p = some o := by
            obtain ⟨_, _, _, _, _, e, _⟩ := hP
            exact ⟨_, e⟩
          have notp : ∀ b, upd H D (.lst []) b = none → b ≠ p := fun b z e => by
            obtain ⟨_, e2⟩ := hpH
            rw [e, upd_ne Dp1.symm, e2] at z
            cases z
          have low : ∀ b, upd H D (.lst []) b = none → H b = none := fun b z => by
            by_cases bD : b = D
            · rw [bD, upd_same] at z
              cases z
            · rwa [upd_ne bD] at z
          have bnd : cst k * vs.length ≤ cst k * 400 := Nat.mul_le_mul_left _ (by omega)
          have ck : cst (k + 1) = 400 * cst k + 1 := rfl
          refine ⟨_, rfl, _, rfl, _, rfl, D, ws, rfl, .inl ⟨SqL.of h1, fun t nt => ⟨(by show 2 ≤ sizeLine; decide), fun L nL => ?_⟩⟩⟩
          have st := same_new (u := .tup ws) nt
          have sL := same_new (u := .lst [V.ref D, V.ref t]) nL
          have P3 := (P1.same st).same sL
          have Lp := ((P1.same st).free nL).1
          have ht : upd H1 t (.tup ws) t = some (.tup ws) := upd_same
          have tH : H t = none := by
            cases hb : H t with
            | none => rfl
            | some o =>
              by_cases bp : t = p
              · obtain ⟨_, _, _, _, _, e, _⟩ := P1
                rw [bp, e] at nt
                cases nt
              · rw [B1 _ _ hb bp] at nt
                cases nt
          have tp := (P1.free nt).1
          refine ⟨p, c, L, _, _, rfl, P3, by omega, Lp, SqL.of upd_same, (by show 0 < 2; decide), (by show 2 ≤ 1000; decide), fun v i H9 hv P9 B9 => ?_⟩
          have keep : DpAll K (fresh H H9) ws es := dps_same (fresh_keep low fun b o z e => B9 _ _ (sL _ _ (st _ _ e)) (notp b z)) a1
          have hD9 : fresh H H9 D = some (.lst ws) := by
            unfold fresh
            rw [if_pos nD]
            exact B9 _ _ (sL _ _ (st _ _ h1)) Dp1
          have ht9 : fresh H H9 t = some (.tup ws) := by
            unfold fresh
            rw [if_pos tH]
            exact B9 _ _ (sL _ _ ht) tp
          have BB : But p H H9 := fun b o e nb => B9 _ _ (sL _ _ (st _ _ (B1 _ _ e nb))) nb
          have lens : ds.length = es.length := by omega
          match i, hv with
          | 0, hv =>
            cases hv
            exact q H9 _ (.list es) (P9.more (by omega)) BB (.lst (SqL.of hD9) keep) (.lst lens fun j x y => mx j x y)
          | 1, hv =>
            cases hv
            exact q H9 _ (.tuple es) (P9.more (by omega)) BB (.tup (SqT.of ht9) keep) (.tup lens fun j x y => mx j x y)
          | i + 2, hv => simp at hv
theorem zero_al (F : FnP K "_law_as_lists" sLAsLists f fd) (T : Ty mg)
    {fPI : Addr} {dPI : FuncData}
    (GPI : FnOk P w K mg base CX0 2 fPI dPI ["_law_pen_here", "_law_some"] ((spPick K))) (gPI : mg "_law_pick" = some (.ref fPI)) (kPI : PySem.W.keepIn K (.ref fPI) = true) (bPI : Binds K dPI ["_law_pen_here", "_law_some"] [])
    (gAL : mg "_law_as_lists" = some (.ref f)) (kAL : PySem.W.keepIn K (.ref f) = true) (bAL : Binds K fd ["_law_pen_here", "_law_value"] [])
    : FnOk P w K mg base CX0 3 f fd ["_law_pen_here", "_law_value"] (spAL K 0) := by
  have GAL : FnOk P w K mg base CX0 2 f fd ["_law_pen_here", "_law_value"] (fun _ _ _ _ => False) := ⟨fun _ _ _ _ h => h.elim, fun _ _ _ _ _ _ _ _ _ _ _ _ _ h => h.elim⟩
  refine F.ok scAL (fun vs H Q E h => ?_) (fun cdv A0 outer s H vs Q E hr h => ?_)
  · obtain ⟨p, c, n, v, d, rfl, _⟩ := h
    rfl
  · obtain ⟨p, c, n, v, d, rfl, hP, hn, hd, tr, q⟩ := h
    refine ⟨_, PSs.nox (pss_cons (ps_if (pt_not (pt_val (pe_callB call_isi (by rfl) T.ki.isi (by decide +kernel) (pa_cons (pv 1) (pa_cons (pe_bltn (v := .ty "tuple") (by rfl) T.ki.tuple (by decide +kernel) rfl) pa_nil)))))
        (pss_one (ps_ret (pv 1)))
        pss_nil)
      (pss_cons (ps_setLc (i := 3) (own := [("_law_part", 2)]) (g := gName 2) (tt := tYes) (by rfl) scAL.nd rfl rfl (sw_true rfl rfl rfl (by decide +kernel)) (pi_tup (pv 1)) (blkOk_by (N := nAL) (sc := defScope sLAsLists) (by decide +kernel)) (fun _ _ _ _ _ => pg_name (i := 2) scAL.nd rfl (Or.inl rfl)) (fun _ _ _ _ _ => pts_nil) (fun _ _ _ _ _ => (pe_call GAL (hr.mono (by omega)) (by rfl) gAL kAL bAL .nil pass0 (pa_cons (pv 0) (pa_cons (pv 2) pa_nil)))))
      (pss_one (ps_ret (pe_call GPI (hr.mono (by omega)) (by rfl) gPI kPI bPI .nil pass0 (pa_cons (pv 0) (pa_cons (pe_lst (pa_cons (pv 3) (pa_cons (pe_callTy (T := "tuple") (r := rTupOf K) (by exact call_tuple_of) (by rfl) T.ki.tuple (by decide +kernel) (pa_cons (pv 3) pa_nil)) pa_nil))) pa_nil))))))), ?_⟩
    cases tr with
    | int _ i =>
      cases hd
      refine ⟨_, rfl, _, _, _, _, _, rfl, .ty _, ty_of (.int i), kit_ty (a := "int") (b := "tuple") (r := false) (by decide +kernel), _, rfl, goT rfl ⟨_, rfl, ?_⟩⟩
      exact q H _ _ (hP.more (by omega)) (fun _ _ e _ => e) (.int i) (.int i)
theorem ok_al (F : FnP K "_law_as_lists" sLAsLists f fd) (T : Ty mg)
    {fPI : Addr} {dPI : FuncData}
    (GPI : FnOk P w K mg base CX0 2 fPI dPI ["_law_pen_here", "_law_some"] ((spPick K))) (gPI : mg "_law_pick" = some (.ref fPI)) (kPI : PySem.W.keepIn K (.ref fPI) = true) (bPI : Binds K dPI ["_law_pen_here", "_law_some"] [])
    (gAL : mg "_law_as_lists" = some (.ref f)) (kAL : PySem.W.keepIn K (.ref f) = true) (bAL : Binds K fd ["_law_pen_here", "_law_value"] [])
    : FnOk P w K mg base CX0 5 f fd ["_law_pen_here", "_law_value"] (spAL K 2) :=
  step_al F T 1 GPI gPI kPI bPI (step_al F T 0 GPI gPI kPI bPI (zero_al F T GPI gPI kPI bPI gAL kAL bAL) gAL kAL bAL) gAL kAL bAL
end
end Xa
namespace Wy
open PySem PySem.Spec PyProof.Rows L2
/-! ## try: body, except x as n: suite, except y as n: suite, .. -/
abbrev TA1 := Addr → Value → Option Addr → TS
/-- the ends of a suite whose name, slot i, goes -/
def gone (i : Nat) (D : Ends) : Ends := ⟨fun σ2 H2 => D.nx (σ2.set i none) H2, D.rt, fun σ2 H2 => D.bk (σ2.set i none) H2, fun σ2 H2 => D.ct (σ2.set i none) H2⟩
/-- what the clauses wish of an exception; slot i is the name's -/
def wAll (K : PySem.W.Frag) (i : Nat) (Wo : WX) (D : Ends) : List (Value × TA1) → WX
  | [] => Wo
  | q :: r => fun cls d σ H => ∃ b, PySem.W.exmOne K cls q.1 = some b ∧ (b = true → ∀ a, H a = none → q.2 a cls d (gone i D) (σ.set i (some (.ref a))) H) ∧ (b = false → wAll K i Wo D r cls d σ H)
inductive Hds (X : Cx) (n : Str) : List ExceptHandler → List (Value × TA1) → Prop
  | nil : Hds X n [] []
  | cons {x : Str} {c : Value} {ts : TA1} {b0 : Stmt} {su : List Stmt} {p1 p2 : Pos} {hs : List ExceptHandler} {l : List (Value × TA1)} (names : Names X x c)
      (walk : ∀ (a : Addr) (oe : Obj) (cls : Value) (d : Option Addr) (pn : List (Addr × Obj)), Zc cls d oe → (∃ vs, oe.data = .fields vs) → PSs (X.suite a ((a, oe) :: pn)) (b0 :: su) (ts a cls d))
      (rest : Hds X n hs l) : Hds X n (.ExceptHandler (some (.Name x p1)) (some n) (b0 :: su) p2 :: hs) ((c, ts) :: l)
section
variable {X : Cx} {n : Str} {i : Nat} {body : List Stmt} {h0 : ExceptHandler} {hs : List ExceptHandler} {l : List (Value × TA1)} {pos : Pos} {tb : WX → TS} {Wo : WX}
theorem ps_try_all (stk : X.stack = X.env :: X.outer) (fr : X.env.frame = some X.env.locals) (nd : X.N.Nodup) (at_ : X.N[i]? = some n) (isL : X.env.kindOf n = some .local) (tk : Takes X Wo)
    (wb : ∀ (W : WX) (pn : List (Addr × Obj)) (xe : Value → Shared → Prop), Takes (X.tr pn xe) W → PassesOwn (model X.prog X.w) X.A X.env xe → PSs (X.tr pn xe) body (tb W)) (wh : Hds X n (h0 :: hs) l) :
    PS X (.Try body (h0 :: hs) [] [] pos) fun D σ H => tb (fun cls d σ1 H1 => σ1.length = X.N.length → wAll X.K i Wo D l cls d σ1 H1) D σ H := by
  refine ⟨fun pins s σ H D I prom => ?_⟩
  have ok := I.ok
  have frames : X.A.frames = some (X.env :: X.outer) := by rw [ok.frames, stk]
  refine wpAny_Try_except (wpAny_mono ((wb (fun cls d σ1 H1 => σ1.length = X.N.length → wAll X.K i Wo D l cls d σ1 H1) (X.pn ++ pins) (fun e s1 => wpAny (model X.prog X.w) X.A (noteFrame e X.env) (fun _ s2 => wpAny (model X.prog X.w) X.A (setFlight e none) (fun _ s3 =>
    wpAny (model X.prog X.w) X.A (handleBy e X.env (h0 :: hs)) (SP X pins D) X.xe s3) X.xe s2) X.xe s1) ?_ PassesOwn.looking).run [] s σ H D (I.toTry _) prom) ?_ fun _ _ z => z)
  · rintro u s1 ⟨a, B, s0, pins', σ1, H1, cls, d, rfl, J0, nb, up, sky, na, os, ag, w⟩
    have J : Inv X pins σ1 H1 s0 := J0.ofTry ok
    rw [show (X.tr (X.pn ++ pins) _).stack = X.env :: X.outer from stk] at sky
    show wpAny (model X.prog X.w) X.A (noteFrame (.ref a) X.env) _ _ _
    refine Sky.land Zc.steady frames fr sky fun h1 fl1 up1 => ?_
    have J1 : Inv X pins σ1 H1 { s1 with heap := h1 } := J.landed nb fl1.1 (up.trans up1) os ag
    obtain ⟨o1, f1, e1, z1, d1⟩ := fl1.there
    have nfr : a ∉ frs (X.env :: X.outer) := fun m => by
      obtain ⟨_, o2, e2, no⟩ := fl1.2.2.1.mem m
      rw [e1] at e2
      cases e2
      exact no _ d1
    have nL : a ≠ X.env.locals := fun z => nfr (List.mem_filterMap.mpr ⟨X.env, List.mem_cons_self, by rw [fr, z]⟩)
    have nF : a ∉ X.fs := fun m => by
      obtain ⟨e, he, q⟩ := List.mem_filterMap.mp m
      exact nfr (List.mem_filterMap.mpr ⟨e, List.mem_cons_of_mem _ he, q⟩)
    have S1 := J1.suite e1 d1 na nL nF
    suffices go : ∀ {hs' : List ExceptHandler} {l' : List (Value × TA1)}, Hds X n hs' l' → wAll X.K i Wo D l' cls d σ1 H1 → wpAny (model X.prog X.w) X.A (handleBy (.ref a) X.env hs') (SP X pins D) X.xe { s1 with heap := h1 } from go wh (w J.len)
    intro hs' l' k
    induction k with
    | nil =>
      intro w
      refine wpAny_handleBy_nil ?_
      obtain ⟨_, _, _, o3, f3, T, _, _, e3, _, d3, g3, _⟩ := id fl1
      unfold PySem.passOn
      refine wpAny_bind (wpAny_field e3 d3 g3 ?_)
      rw [if_neg (by simp : ¬ ((Value.ref T == Value.none) = true))]
      have last : wpAny (model X.prog X.w) X.A (setFlight (.ref a) X.env.frame) (fun _ s4 => wpAny (model X.prog X.w) X.A (throw (.ref a) : Sem Flow) (SP X pins D) X.xe s4) X.xe { s1 with heap := h1 } := by
        rw [fr]
        exact HandSPX.setFlight_upZ fl1 fun h4 hh4 up4 => wpAny_throw (tk _ _ ⟨a, B, s0, pins, σ1, H1, cls, d, rfl, J, nb, (up.trans up1).trans up4, .inr (.inr (by rw [stk]; exact hh4)), na, os, ag, w⟩)
      first
        | exact wpAny_bind (wpAny_pure (wpAny_bind last))
        | exact wpAny_bind last
    | @cons x c ts b0 su p1 p2 hs2 l2 names walk rest ih =>
      intro w
      obtain ⟨b, hit, yes, no⟩ := w
      refine wpAny_handleBy_cons (codeAny_handlers_test ?_) (by intro q; cases q)
      have look : PySem.W.Looks (model X.prog X.w) h1 (typeOf (.ref a)) cls := fun A Q E s k q => wpAny_typeOf_ref (k _ _ e1) (by rw [z1.1]; exact q)
      have LM := PySem.W.exm_one (M := model X.prog X.w) J1.kIn look hit
      have test : ∀ {Q E : Value → Shared → Prop}, Q c { s1 with heap := h1 } → wpAny (model X.prog X.w) (X.A.mark (some (.ref a))) (eval (.Name x p1) X.env) Q E { s1 with heap := h1 } := fun {Q E} q => by
        obtain ⟨g, db, m | ⟨m, v, nn⟩⟩ := names
        · exact ld_glob (X := X.suite a ((a, o1) :: (X.pn ++ pins))) S1 g m q db
        · exact ld_blt (X := X.suite a ((a, o1) :: (X.pn ++ pins))) S1 g m v q nn db
      refine test (LM.here ?_)
      cases b with
      | false => exact ih (no rfl)
      | true =>
        refine codeAny_handlers_suite_as (HandSPX.lands_againZ fl1 fun h4 fl4 up4 => ?_)
        have J4 : Inv X pins σ1 H1 { s1 with heap := h4 } := J.landed nb fl4.1 ((up.trans up1).trans up4) os ag
        obtain ⟨o4, f4, e4, z4, d4⟩ := fl4.there
        refine store_ok (X := X.suite a ((a, o4) :: (X.pn ++ pins))) (v := .ref a) (J4.suite e4 d4 na nL nF) nd at_ (.inl isL) rfl (fun s5 S5 => ?_) (.inr isL)
        refine wpAny_mono ((walk a o4 cls d (X.pn ++ pins) z4 ⟨_, d4⟩).run [] s5 _ H1 _ S5 (yes rfl a na)) (fun f s6 z => ?_) fun _ _ z => False.elim z
        have bye : ∀ {σ6 : L2.St} {H6 : Hp} {Q : Shared → Prop}, Inv (X.suite a ((a, o4) :: (X.pn ++ pins))) [] σ6 H6 s6 → (∀ s7, Inv X pins (σ6.set i none) H6 s7 → Q s7) →
            wpAny (model X.prog X.w) X.A (do bindName X.env n .none; unbindBehindTheSuite X.env n p2) (fun _ s7 => Q s7) X.xe s6 := fun {σ6 H6 Q} S6 q => gone_ok (S6.unsuite ok) nd at_ isL q
        match f, z with
        | .next, ⟨_, _, S6, q6⟩ => exact bye S6 fun s7 J7 => ⟨_, _, J7, q6⟩
        | .brk, ⟨_, _, S6, q6⟩ => exact bye S6 fun s7 J7 => ⟨_, _, J7, q6⟩
        | .cont, ⟨_, _, S6, q6⟩ => exact bye S6 fun s7 J7 => ⟨_, _, J7, q6⟩
        | .ret u, ⟨_, _, _, S6, r6, q6⟩ => exact bye S6 fun s7 J7 => ⟨_, _, _, J7, r6, q6⟩
  · intro f s1 z
    match f, z with
    | .next, ⟨_, _, J, q⟩ => exact wpAny_execs_nil ⟨_, _, J.ofTry ok, q⟩
    | .brk, ⟨_, _, J, q⟩ => exact ⟨_, _, J.ofTry ok, q⟩
    | .cont, ⟨_, _, J, q⟩ => exact ⟨_, _, J.ofTry ok, q⟩
    | .ret u, ⟨_, _, _, J, r, q⟩ => exact ⟨_, _, _, J.ofTry ok, r, q⟩
end
/-! ## repr where an exception is handled -/
theorem call_repU {X : Cx} (hg : X.A.guards = some []) (hu : X.A.units + 100 < cLine) : CallR X (.builtin "repr") (Gv.rReprV X.K) := by
  intro pins s σ H xs us Q I r h
  obtain ⟨v, d, rfl, hd, h1, h2, h3, h4, q⟩ := h
  obtain ⟨u, rfl, ru⟩ := vals1 r
  have keep := hd
  cases hd with
  | non => cases (show u = Value.none from ru); exact PySem.P.repr_of_none ⟨.str "None", H, I.tok _, ⟨_, rfl⟩, q⟩
  | bl b => cases (show u = Value.bool b from ru); exact PySem.P.repr_of_bool ⟨.str _, H, I.tok _, ⟨_, rfl⟩, q⟩
  | int i => obtain ⟨t, rfl⟩ := ru; exact PySem.P.repr_of_int (of_decide_eq_true h1) ⟨.str _, H, I.tok _, ⟨_, rfl⟩, q⟩
  | str x => obtain ⟨t, rfl⟩ := ru; exact PySem.P.repr_of_str ⟨.str _, H, I.tok _, ⟨_, rfl⟩, q⟩ h4
  | lst a b =>
    obtain ⟨as, rd⟩ := Dp.reads I _ _ u keep ru
    cases (show u = Value.ref _ from ru)
    exact repr_of_reads' rd h1 (fun z => by rw [h2] at z; cases z) hg (by omega) (fun _ _ e => e) (fun h' t tk hk => ⟨.str _, H, I.kept hk, ⟨t, rfl⟩, q⟩) h4
  | tup a b =>
    obtain ⟨as, rd⟩ := Dp.reads I _ _ u keep ru
    cases (show u = Value.ref _ from ru)
    exact repr_of_reads' rd h1 (fun z => by rw [h2] at z; cases z) hg (by omega) (fun _ _ e => e) (fun h' t tk hk => ⟨.str _, H, I.kept hk, ⟨t, rfl⟩, q⟩) h4
theorem call_repK {X : Cx} {K : PySem.W.Frag} (hK : X.K = K) (hg : X.A.guards = some []) (hu : X.A.units + 100 < cLine) : CallR X (.builtin "repr") (Gv.rReprV K) := hK ▸ call_repU hg hu
theorem pe_xfK {X : Cx} {K : PySem.W.Frag} {a C : Addr} {oe : Obj} {cls : Value} {d : Option Addr} {pn : List (Addr × Obj)} {e : Expr} {te : TE} {pos : Pos} {n : Str} (T : XfC K C) (hK : X.K = K) (hno : NoAttr K C n) (hz : Zc cls d oe) (hf : ∃ vs, oe.data = .fields vs)
    (he : PE (X.suite a ((a, oe) :: pn)) e te) (hb : attributeBase e n X.env (eval e X.env) = eval e X.env) : PE (X.suite a ((a, oe) :: pn)) (.Attribute e n pos) (tXf a cls d C n te) := by
  subst hK
  exact pe_xf T hno hz hf he hb
end Wy
namespace Ls
open PySem PySem.Spec PyProof.Rows L2 LamX
/-! ## A lambda that is kept: made here, called by a def later -/
theorem s_new {H : Hp} {a : Addr} {u : HO} (n : H a = none) : ∀ b o, H b = some o → upd H a u b = some o := fun _ _ e => (upd_ne (ne_of_none e n)).trans e
/-- the object at f is this lambda, its code object stands at c' -/
def LamO (f c' : Addr) (q : Str) (cl : List (Str × Addr)) (ar : Arguments) (ex : Expr) (sc : Scope) : HO :=
  .ext fun h => ∃ pm ctv : Value, h.get? f = some (PySem.W.kla_obj "<lambda>" q ar ex sc (cloFrom cl sc.names []) pm c' ctv)
theorem lamO_ok {P : Program} {w : World} {H : Hp} {h : Heap} {f c' : Addr} {q : Str} {cl : List (Str × Addr)} {ar : Arguments} {ex : Expr} {sc : Scope} {pm ctv : Value}
    (e : h.get? f = some (PySem.W.kla_obj "<lambda>" q ar ex sc (cloFrom cl sc.names []) pm c' ctv)) : ObjOk P w H h f (LamO f c' q cl ar ex sc) :=
  ⟨⟨pm, ctv, e⟩, ⟨_, e⟩, fun _ _ ⟨pm, ctv, a⟩ st => ⟨pm, ctv, st _ a⟩⟩
section
variable {X : Cx} {pins : List (Addr × Obj)} {σ : L2.St} {H HZ : Hp} {s s1 : Shared}
theorem lam_keep {T : List (Addr × Str)} {c tb : Addr} {ar : Arguments} {ex : Expr} {sc : Scope} {pos : Pos} {E Q : Value → Shared → Prop} (I : Inv X pins σ H s) (TB : TabB X.base X.mg c tb) (code : X.env.code = .ref c)
    (mem : (tb, X.env.qual ++ "<lambda>") ∈ T) (one : ∀ p ∈ T, p.1 = tb → p.2 = X.env.qual ++ "<lambda>") (hT : Tabs T H) (df : defaultsOf ar X.env = ([], [])) (fr : ∀ y ∈ sc.names, y.2 = .free → ∃ c, X.env.cells.lookup y.1 = some c)
    (k : ∀ (f c' : Addr) (H1 : Hp) (s' : Shared), Inv X pins σ H1 s' → ExtN H H1 → Tabs T H1 → H1 f = some (LamO f c' (X.env.qual ++ "<lambda>") X.env.cells ar ex sc) → H1 c' = some (CodeO c' (X.env.qual ++ "<lambda>")) → Q (.ref f) s') :
    wpAny (model X.prog X.w) X.A (eval (.Lambda ar ex sc pos) X.env) Q E s := by
  obtain ⟨ps, eP, tr, al⟩ := hT _ mem
  have bi : s.heap.BuiltinsAt X.mg tb := TB.bm.keeps I.bk
  have oP : s.heap.get? tb = some { cls := .none, data := .fields ps } := I.hok tb _ eP
  have gl := I.mod.glob.keeps I.bk
  have cd := TB.code.keeps I.bk
  refine PySem.W.kla_eval df ?_
  cases am : codeAmong pos ps.toList with
  | some cv =>
    obtain ⟨c', rfl, oc⟩ := al pos cv am
    refine PySem.W.kla_makeFunctionHit (mg := X.mg) (c := c) (P := tb) (ps := ps) (closure_ok fr)
      I.ok.glob gl code cd oP tr am bi fun ctv h1 tk keep sz => ?_
    have nf : H h1.objs.size = none := I.hok.fresh sz
    have J := I.laid (a := h1.objs.size) (o := LamO h1.objs.size c' (X.env.qual ++ "<lambda>") X.env.cells ar ex sc) (t' := tk)
      (h' := h1.push (PySem.W.kla_obj "<lambda>" (X.env.qual ++ "<lambda>") ar ex sc (cloFrom X.env.cells sc.names []) ((X.mg "__name__").getD .none) c' ctv))
      (fun b u e => Heap.get?_push_of_some _ (keep b u e)) sz (lamO_ok (Heap.get?_push_size _ rfl))
    have sn : ∀ b o, H b = some o → (upd H h1.objs.size (LamO h1.objs.size c' (X.env.qual ++ "<lambda>") X.env.cells ar ex sc)) b = some o := s_new nf
    exact k _ c' _ _ J (ExtN.of sn) (hT.ext sn) upd_same (sn _ _ oc)
  | none =>
    refine PySem.W.kla_makeFunction (mg := X.mg) (c := c) (P := tb) (ps := ps) (closure_ok fr)
      I.ok.glob gl code cd oP tr am TB.gP bi fun c' ctv h1 tk kp ge lt rec tab => ?_
    obtain ⟨c2, oc, vs, t, e2, hoc, hd, hv⟩ := rec
    cases e2
    have nC : H c' = none := I.hok.fresh ge
    have J1 := inv_table (t' := tk) (h' := h1) (q := X.env.qual ++ "<lambda>") (more := #[rawInt pos.line, rawInt pos.col, .ref c']) I eP (fun b o hb e => kp b o hb e) tab ge ⟨oc, vs, t, hoc, hd, hv⟩
    have x1 : ExtN H (upd (upd H tb (.tbl (ps ++ #[rawInt pos.line, rawInt pos.col, .ref c']))) c' (CodeO c' (X.env.qual ++ "<lambda>"))) := fun b o e n => by
      have bt : b ≠ tb := fun z => n ps (Option.some.inj (e.symm.trans (by rw [z]; exact eP)))
      rw [upd_ne (ne_of_none e nC), upd_ne bt]
      exact e
    have pl : (ps ++ #[rawInt pos.line, rawInt pos.col, .ref c']).toList = ps.toList ++ [rawInt pos.line, rawInt pos.col, .ref c'] := by simp
    have tc : tb ≠ c' := ne_of_none eP nC
    have t1 : Tabs T (upd (upd H tb (.tbl (ps ++ #[rawInt pos.line, rawInt pos.col, .ref c']))) c' (CodeO c' (X.env.qual ++ "<lambda>"))) := fun p hp => by
      by_cases hb : p.1 = tb
      · rw [one p hp hb, hb]
        refine ⟨_, (upd_ne tc).trans upd_same, by rw [pl]; exact PySem.TriplesOk_snoc _ _ _ _ tr, fun p' cv z => ?_⟩
        rw [pl] at z
        rcases among_app _ tr z with g | g
        · obtain ⟨c0, r1, r2⟩ := al p' cv g
          exact ⟨c0, r1, x1 _ _ r2 codeO_ne⟩
        · exact ⟨c', g, upd_same⟩
      · obtain ⟨ps', a1, a2, a3⟩ := hT p hp
        refine ⟨ps', (upd_ne (ne_of_none a1 nC)).trans ((upd_ne hb).trans a1), a2, fun p' cv z => ?_⟩
        obtain ⟨c0, r1, r2⟩ := a3 p' cv z
        exact ⟨c0, r1, x1 _ _ r2 codeO_ne⟩
    have c1 := upd_same (H := upd H tb (.tbl (ps ++ #[rawInt pos.line, rawInt pos.col, .ref c']))) (a := c') (o := CodeO c' (X.env.qual ++ "<lambda>"))
    generalize upd (upd H tb (.tbl (ps ++ #[rawInt pos.line, rawInt pos.col, .ref c']))) c' (CodeO c' (X.env.qual ++ "<lambda>")) = H1 at J1 x1 t1 c1
    have nf : H1 h1.objs.size = none := J1.hok.fresh (Nat.le_refl _)
    have J := J1.laid (a := h1.objs.size) (o := LamO h1.objs.size c' (X.env.qual ++ "<lambda>") X.env.cells ar ex sc) (t' := tk)
      (h' := h1.push (PySem.W.kla_obj "<lambda>" (X.env.qual ++ "<lambda>") ar ex sc (cloFrom X.env.cells sc.names []) ((X.mg "__name__").getD .none) c' ctv))
      (fun b u e => Heap.get?_push_of_some _ e) (Nat.le_refl _) (lamO_ok (Heap.get?_push_size _ rfl))
    have sn : ∀ b o, H1 b = some o → (upd H1 h1.objs.size (LamO h1.objs.size c' (X.env.qual ++ "<lambda>") X.env.cells ar ex sc)) b = some o := s_new nf
    exact k _ c' _ _ J (x1.trans (ExtN.of sn)) (t1.ext sn) upd_same (sn _ _ c1)
/-- a lambda as a value -/
def tLamK (T : List (Addr × Str)) (q : Str) (cl : List (Str × Addr)) (ar : Arguments) (ex : Expr) (sc : Scope) : TE := fun _ H Q => Tabs T H ∧
  ∀ (f c' : Addr) (H1 : Hp), ExtN H H1 → Tabs T H1 → H1 f = some (LamO f c' q cl ar ex sc) → H1 c' = some (CodeO c' q) → Q (.ref f) H1
theorem pe_lamK {T : List (Addr × Str)} {c tb : Addr} {ar : Arguments} {ex : Expr} {sc : Scope} {pos : Pos} (TB : TabB X.base X.mg c tb) (code : X.env.code = .ref c) (mem : (tb, X.env.qual ++ "<lambda>") ∈ T)
    (one : ∀ p ∈ T, p.1 = tb → p.2 = X.env.qual ++ "<lambda>") (L : LamS X.env.scope sc) (df : defaultsOf ar X.env = ([], [])) : PE X (.Lambda ar ex sc pos) (tLamK T (X.env.qual ++ "<lambda>") X.env.cells ar ex sc) :=
  ⟨fun pins s σ H Q I h => lam_keep I TB code mem one h.1 df (L.has I.ok) fun f c' H1 s' I1 e t l o => ⟨.ref f, H1, I1, rfl, h.2 f c' H1 e t l o⟩⟩
/-- a(), in the def that got the lambda -/
theorem pe_actK {CXg : CXT} {Eg : XK} {Ng : List Str} {qg : Str} {sg : Scope} {g f c' : Addr} {cdg : Value} {ar : Arguments} {ex : Expr} {sc : Scope} {k i : Nat} {a : Str} {pn : List (Addr × Obj)} {xe : Value → Shared → Prop} {W : WX} {E : XK} {tl : TE} {p1 p2 : Pos}
    (I : Inv X pins σ H s) (L : LamS X.env.scope sc) (bind : ∀ (q : Str) (cl : List (Str × Addr)) (pm cv ctv : Value), bindArgs (PySem.W.kla_fn "<lambda>" q ar ex sc cl pm cv ctv) ⟨[], []⟩ = pure [])
    (tk : Takes ((cxOf CXg X.prog X.w X.K X.mg X.base Ng qg sg g cdg X.A X.stack s H Eg).tr pn xe) W) (hW : ∀ cls d σ' H', E cls d H' → W cls d σ' H') (hr : Room (k + 1) (X.A.deeper (envOfC qg sg s.heap.objs.size g cdg)))
    (walk : ∀ (A : Around) (outer : List Env) (s : Shared) (H : Hp), Room k (A.deeper (lamEnv X sc s.heap.objs.size f c')) → PE (lamCx X A outer s H E sc f c') ex tl)
    (hN : Ng[i]? = some a) (hv : Vis sg a) (hd : (a == ("__debug__" : Str)) = false := by decide) (hcd : (a == ("__classdict__" : Str)) = false := by decide) :
    PE ((cxOf CXg X.prog X.w X.K X.mg X.base Ng qg sg g cdg X.A X.stack s H Eg).tr pn xe) (.Call (.Name a p1) [] [] p2)
      (fun σZ HZ Q => σZ[i]? = some (some (.ref f)) ∧ HZ c' = some (CodeO c' (X.env.qual ++ "<lambda>")) ∧ HZ f = some (LamO f c' (X.env.qual ++ "<lambda>") X.env.cells ar ex sc) ∧ tl σ HZ Q) := by
  refine ⟨fun pinsZ sZ σZ HZ Q IZ h => ?_⟩
  obtain ⟨hs, hc, hl, ht⟩ := h
  refine wpAny_Call_Name_kw (thn ((pe_var (pos := p1) (i := i) hN hv hd hcd).run pinsZ sZ σZ HZ
    (fun v H1 => v = .ref f ∧ H1 = HZ) IZ ⟨.ref f, hs, rfl, rfl⟩) fun u s1 ⟨v, H1, I1, r1, ev, eH⟩ => ?_)
  subst ev eH
  obtain rfl : u = Value.ref f := r1
  obtain ⟨⟨pm, ctv, of1⟩, _, _⟩ := I1.hok f _ hl
  obtain ⟨⟨oc, vs, t, hoc, hdc, hvc⟩, _, _⟩ := I1.hok c' _ hc
  refine PySem.W.callWith_F0 ⟨_, _, _, _, of1⟩ ?_
  have rc : codeAny (model X.prog X.w) (X.A.deeper (envOfC qg sg s.heap.objs.size g cdg)) (.call (.ref f) ⟨[], []⟩)
      (CR (L2.CX X.prog X.w) (envOfC qg sg s.heap.objs.size g cdg :: X.stack) X.prog X.w H1 s1 Q E) s1 := by
    refine PySem.W.kla_callFunE hr.depth of1 rfl L.co L.gen rfl ⟨c', oc, vs, t, rfl, hoc, hdc, hvc⟩ ?_
    rw [bind]
    refine wpAny_pure (wpAny_newFunctionEnv (fun y hy => (L.own y hy).2) (fun y hy => absurd hy (by simp))
      (fun h₁ hns hsb => ⟨I1.nolimit.fresh _ hsb, ?_⟩) L.kind)
    have kp : ∀ b o, s1.heap.get? b = some o → h₁.get? b = some o := fun b o e =>
      hsb.extBut b o (Nat.ne_of_lt (Heap.lt_size e)) (Heap.get?_push_of_some _ e)
    have J := lam_start2 (A := X.A.deeper (envOfC qg sg s.heap.objs.size g cdg)) (E := E) (f := f) (c' := c') (tk := s1.toks + ([] : List (Str × Value)).length) I L I1.env0 hr.hd I1.base hns kp
    refine PySem.W.kla_codeExpr (wpAny_mono ((walk _ _ s1 H1 (hr.deeper _)).run [] _ _ H1 Q J ht)
      (fun v s' hq => ?_) fun e s' hq => hq)
    obtain ⟨u', H', J', rv, q⟩ := hq
    exact ⟨u', H', J'.os, J'.bare, J'.base, J'.hok, rv, q⟩
  have hx : Passes (L2.CX X.prog X.w) ((cxOf CXg X.prog X.w X.K X.mg X.base Ng qg sg g cdg X.A X.stack s H Eg).tr pn xe) E := passes_call tk hW
  refine wpAny_call (codeAny_mono rc fun r s' hq => ?_)
  match r, hq with
  | .error e, hq => exact hx pinsZ σZ H1 s1 e s' I1 hq
  | .ok (.ret u), hq => exact I1.after hq
end
/-- the def that calls what it got, the lambda's object L known -/
def GivesK (X : Cx) (Ng : List Str) (x : Str) (sg : Scope) (g : Addr) (cdg : Value) (bg : List Stmt) (a : Str) (q : Str) (TT : (XK → Hp → VK → Prop) → Hp → VK → Prop) : Prop :=
  ∀ (f c' : Addr) (L : HO) (s : Shared) (H : Hp) (Q : VK) (tl : XK → Hp → VK → Prop), (∀ ps, L ≠ .tbl ps) →
    (∀ (W : WX) (pn : List (Addr × Obj)) (xe : Value → Shared → Prop) (E : XK) (p1 p2 : Pos), Takes ((cxOf C8.CX0 X.prog X.w X.K X.mg X.base Ng x sg g cdg X.A X.stack s H C8.E0).tr pn xe) W →
      (∀ cls d σ' H', E cls d H' → W cls d σ' H') →
      PE ((cxOf C8.CX0 X.prog X.w X.K X.mg X.base Ng x sg g cdg X.A X.stack s H C8.E0).tr pn xe) (.Call (.Name a p1) [] [] p2)
        (fun σZ HZ Q => σZ[0]? = some (some (.ref f)) ∧ HZ c' = some (CodeO c' q) ∧ HZ f = some L ∧ tl E HZ Q)) →
    H c' = some (CodeO c' q) → H f = some L → TT tl H Q →
    ∃ t, PSs (cxOf C8.CX0 X.prog X.w X.K X.mg X.base Ng x sg g cdg X.A X.stack s H C8.E0).nox bg t ∧ t { nx := fun _ H' => Q .non H', rt := Q } (L2.start Ng [.ref f]) H
structure Lam where
  ar : Arguments
  ex : Expr
  sc : Scope
  t : XK → TE
structure LamG (X : Cx) (k : Nat) (l : Lam) : Prop where
  L : LamS X.env.scope l.sc
  bind : ∀ (q : Str) (cl : List (Str × Addr)) (pm cv ctv : Value), bindArgs (PySem.W.kla_fn "<lambda>" q l.ar l.ex l.sc cl pm cv ctv) ⟨[], []⟩ = pure []
  walk : ∀ (A : Around) (outer : List Env) (s : Shared) (H : Hp) (E : XK) (f c' : Addr), Room k (A.deeper (lamEnv X l.sc s.heap.objs.size f c')) → PE (lamCx X A outer s H E l.sc f c') l.ex (l.t E)
inductive LamsG (X : Cx) (k : Nat) : List Lam → Prop
  | nil : LamsG X k []
  | cons {l : Lam} {ls : List Lam} : LamG X k l → LamsG X k ls → LamsG X k (l :: ls)
theorem LamsG.get {X : Cx} {k : Nat} : ∀ {ls : List Lam}, LamsG X k ls → ∀ l ∈ ls, LamG X k l
  | _ :: _, .cons a b, l, h => by
    rcases List.mem_cons.mp h with e | e
    · exact e ▸ a
    · exact b.get l e
def tWhyK (q : Str) (cl : List (Str × Addr)) (TT : (XK → Hp → VK → Prop) → Hp → VK → Prop) (ls : List Lam) (te : TE) : TE := fun σ H Q => te σ H fun v H1 =>
  ∃ (f c' : Addr) (l : Lam), v = .ref f ∧ H1 c' = some (CodeO c' q) ∧ l ∈ ls ∧ H1 f = some (LamO f c' q cl l.ar l.ex l.sc) ∧ TT (fun E H' Q' => l.t E σ H' Q') H1 Q
/-- x(e), e one of these lambdas -/
theorem pe_whyK {X : Cx} {TT : (XK → Hp → VK → Prop) → Hp → VK → Prop} {x a : Str} {g : Addr} {k : Nat} {pg : Arguments} {bg : List Stmt} {sg : Scope} {dV kV doc pm cdv ct oc : Value} {an od : Option Addr} {osl : Array (Option Value)} {Ng : List Str}
    {ls : List Lam} {y : Str} {te : TE} {p py pos : Pos} (hg : Gl X x) (hm : X.mg x = some (.ref g)) (hk : PySem.W.keepIn X.K (.ref g) = true)
    (lk : X.K.lookup g = some ⟨oc, od, .func (PySem.W.fnOf x x pg bg sg dV kV doc pm an cdv ct), osl⟩) (hcg : PySem.W.codeIn X.K cdv x = true) (hb : L2.Binds X.K (PySem.W.fnOf x x pg bg sg dV kV doc pm an cdv ct) [a] []) (Sg : FnScope Ng [a] sg) (hNg : Ng[0]? = some a) (hva : Vis sg a)
    (hG : GivesK X Ng x sg g cdv bg a (X.env.qual ++ "<lambda>") TT) (hr : Room (k + 2) X.A) (hl : LamsG X k ls) (he : PE X (.Name y py) te)
    (hdb : (x == ("__debug__" : Str)) = false := by decide) (hd : (a == ("__debug__" : Str)) = false := by decide) (hcd : (a == ("__classdict__" : Str)) = false := by decide) :
    PE X (.Call (.Name x p) [.Name y py] [] pos) (tWhyK (X.env.qual ++ "<lambda>") X.env.cells TT ls te) := by
  refine ⟨fun pins s σ H Q I h => ?_⟩
  refine wpAny_Call_Name_kw (ld_glob I hg hm ?_ hdb)
  refine PySem.W.callWith_K (h₀ := X.base) I.ok.mod.kin hk ?_ (by rfl) (by rfl)
  show wpAny _ _ (spliced ((false, eval (.Name y py) X.env) :: backTo pos (starEach [] X.env))) _ _ s
  refine Calls.spliced_cons (wpAny_mono (he.run pins s σ H _ I h) (fun u s' z => ?_) fun e s' z => z)
  obtain ⟨v, H1, I1, rv, f, c', l, rfl, hco, ml, hlo, q⟩ := z
  obtain rfl : u = Value.ref f := rv
  refine Calls.spliced_nil ⟨I1.kIn, ?_⟩
  obtain ⟨L, bind, walk⟩ := hl.get l ml
  have rc : codeAny (model X.prog X.w) X.A (.call (.ref g) ⟨[.ref f], []⟩) (CR C8.CX0 X.stack X.prog X.w H1 s' Q C8.E0) s' := by
    refine run_ofS (N := Ng) (ps := [a]) (us := [.ref f]) (vs := [.ref f]) lk hcg Sg hr I1.env0
      (hb s' [.ref f] I1.kIn rfl) (.cons rfl .nil) rfl fun hr' => ?_
    obtain ⟨t', ht', hq'⟩ := hG f c' _ s' H1 Q (fun E H' Q' => l.t E σ H' Q') (fun ps z => by unfold LamO at z; cases z)
      (fun W pn xe E p1 p2 tk hW => pe_actK (i := 0) I1 L bind tk hW hr' (fun A outer s H hr2 => walk A outer s H E f c' hr2) hNg hva hd hcd) hco hlo q
    exact ⟨t', ht'.nox, hq'⟩
  refine wpAny_call (codeAny_mono rc fun r s2 hq => ?_)
  match r, hq with
  | .error e, hq => exact (show False from hq).elim
  | .ok (.ret u), hq => exact I1.after hq
end Ls
namespace Yw
open PySem PySem.Spec PyProof.Rows L2 LamX Pen Wy Ls
/-! ## The def that tells what a call raised: a row that is none -/
abbrev wyN : List Str := ["_law_call", "_law_found", "e"]
theorem scWhy : FnScope wyN ["_law_call"] (defScope sWhy) := ⟨rfl, rfl, rfl, by decide +kernel, rfl, by decide +kernel, by decide +kernel⟩
structure Tw (K : PySem.W.Frag) (mg : Str → Option Value) (CR CN CL : Addr) : Prop where
  mR : mg "BadRow" = some (.ref CR)
  mN : mg "NoName" = some (.ref CN)
  mL : mg "BadLine" = some (.ref CL)
  rr : PySem.W.exmOne K (.ref CR) (.ref CR) = some true
  xR : XfC K CR
  nr : NoAttr K CR "row"
def WhyE (CR : Addr) (Q : VK) : XK := fun cls d H1 => ∃ (dd : Addr) (fs : List (Str × V)) (v : V), cls = .ref CR ∧ d = some dd ∧ H1 dd = some (.xd fs) ∧ fs.lookup ("row" : Str) = some v ∧ ∀ t, H1 t = none → Q (.ref t) (upd H1 t (.tup [.str "row", v]))
def TWhy (CR : Addr) : (XK → Hp → VK → Prop) → Hp → VK → Prop := fun tl H Q => ∀ t, H t = none → ∀ k : VK, (∀ v H1, Q (.ref t) H1 → k v H1) → tl (WhyE CR Q) (upd H t (.tup [.str "none"])) k
abbrev whyX (X : Cx) (g : Addr) (cdg : Value) (s : Shared) (H : Hp) : Cx := (cxOf C8.CX0 X.prog X.w X.K X.mg X.base wyN "_law_why" (defScope sWhy) g cdg X.A X.stack s H C8.E0).nox
theorem why_gives {X : Cx} {q : Str} {g CR CN CL : Addr} {cdg : Value} (T : Tw X.K X.mg CR CN CL) : GivesK X wyN "_law_why" (defScope sWhy) g cdg (defBody sWhy) "_law_call" q (TWhy CR) := by
  intro f c' L s H Q tl nL act hc hl h
  refine ⟨_, pss_cons (ps_set (i := 1) scWhy.nd rfl (Or.inl rfl) (pe_tup (pa_cons pe_str pa_nil))) (pss_cons (ps_try_all (i := 2) (n := "e") (X := whyX X g cdg s H)
      (tb := fun W D σ H => ∃ Ech : XK, (∀ cls d σ' H', Ech cls d H' → W cls d σ' H') ∧ σ[0]? = some (some (.ref f)) ∧ H c' = some (CodeO c' q) ∧ H f = some L ∧ tl Ech H fun _ H1 => D.nx σ H1)
      rfl rfl scWhy.nd rfl (by rfl) takes0 (fun W pn xe tk _ => ?_)
      (.cons (c := .ref CR) ⟨by rfl, by decide, .inl T.mR⟩ (fun a oe cls d pn hz hf => pss_one (ps_set (i := 1) scWhy.nd rfl (Or.inl rfl) (pe_tup (pa_cons pe_str (pa_cons (pe_xfK T.xR rfl T.nr hz hf (pv 2) rfl) pa_nil)))))
      (.cons (c := .ref CN) ⟨by rfl, by decide, .inl T.mN⟩ (fun a oe cls d pn hz hf => pss_one ps_never)
      (.cons (c := .ref CL) ⟨by rfl, by decide, .inl T.mL⟩ (fun a oe cls d pn hz hf => pss_one ps_never) .nil))))
    (pss_one (ps_ret (pv 1)))), ?_⟩
  · refine ⟨fun pins s' σ H' D I h' => ?_⟩
    obtain ⟨Ech, hW, h1, h2, h3, h4⟩ := h'
    exact (pss_one (ps_expr (act W pn xe Ech _ _ tk hW))).run pins s' σ H' D I ⟨h1, h2, h3, h4⟩
  · refine ⟨(by show 1 ≤ sizeLine; decide), fun t nt => ?_⟩
    have nc : c' ≠ t := ne_of_none hc nt
    have nf : f ≠ t := ne_of_none hl nt
    refine ⟨WhyE CR Q, fun cls d σ' H1 x lz => ?_, rfl, (upd_ne nc).trans hc, (upd_ne nf).trans hl, ?_⟩
    · obtain ⟨dd, fs, v, rfl, rfl, hd, hv, q⟩ := x
      obtain ⟨w0, w1, w2, rfl⟩ : ∃ w0 w1 w2 : Option V, σ' = [w0, w1, w2] := match σ', lz with | [w0, w1, w2], _ => ⟨w0, w1, w2, rfl⟩
      refine ⟨true, T.rr, fun _ a na => ?_, fun z => by cases z⟩
      exact ⟨_, rfl, rfl, rfl, dd, fs, v, rfl, hd, hv, (by show 2 ≤ sizeLine; decide), fun p np => ⟨_, rfl, q p np⟩⟩
    · exact h t nt _ fun v H1 q => ⟨_, rfl, q⟩
end Yw
namespace Yt
open PySem PySem.Spec PyProof.Rows L2 LamX Gd Wy
/-! ## A law that holds a lambda: its table; it may call repr -/
/-- from the def's body; its code object is told -/
theorem mk_ofC {P : Program} {w : World} {K : PySem.W.Frag} {mg : Str → Option Value} {base : Heap} {CX : CXT} {k : Nat} {f : Addr} {fd : FuncData} {ps : List Str} {sp : Sp} {x qual : Str} {params : Arguments} {body : List Stmt} {scope : Scope} {dvs : List V} {kws : List (Str × V)} {N : List Str}
    (F : FunD K x qual params body scope dvs kws f fd) (S : FnScope N ps scope) (many : ∀ vs H Q E, sp vs H Q E → vs.length = ps.length)
    (walk : ∀ (cv : Value) (A : Around) (fs : List Env) (s : Shared) (H : Hp) (vs : List V) (Q : VK) (E : XK), fd.code = cv → A.guards = some [] → Room k (A.deeper (envOfC qual scope s.heap.objs.size f cv)) → sp vs H Q E →
      ∃ t, PSs (cxOf CX P w K mg base N qual scope f cv A fs s H E) body t ∧ t { nx := fun _ H' => Q .non H', rt := Q } (L2.start N vs) H) :
    FnG P w K mg base CX (k + 1) f fd ps sp := by
  obtain ⟨_, _, _, _, _, _, _, cv, _, _, rfl, look, code, d1, d2⟩ := F.ex
  refine ⟨many, fun A fs s H ag us vs Q E hg room e bind rel prom => ?_⟩
  have kin : K.In s.heap := e.mod.kin.keeps fun b u z => (e.bs b u z).1
  have kinds : ∀ y ∈ ps.zip us, scope.names.lookup y.1 = some .local ∨ (scope.names.lookup y.1 = some .cell ∧ ((cellsFrom (s.heap.objs.size + 1) scope.names []).lookup y.1).isSome = true) := by
    rintro ⟨y, u⟩ hy
    rcases S.par y (List.of_mem_zip hy).1 with q | q
    · exact Or.inl q
    · exact Or.inr ⟨q, PySem.W.cellsFrom_some _ _ _ (Or.inl q)⟩
  refine codeAny_call_function room.depth (kin _ _ look) rfl S.co S.gen rfl (PySem.W.codeRec_of kin code) (bind _ _ _ _ ?_)
  refine wpAny_newFunctionEnv_cells S.kind kinds ?_
  rintro env rfl s1 hs1
  refine ⟨(e.mod.nolimit.keeps fun b u z => (e.bs b u z).1).keeps hs1.toInCall.keep, codeAny_func ?_⟩
  obtain ⟨t, ht, q⟩ := walk cv A fs s H vs Q E rfl hg (room.deeper _) prom
  have I := inv_start (CX := CX) (E := E) S room.hd e (many _ _ _ _ prom) rel hs1
  refine wpAny_mono (ht.run [] s1 (L2.start N vs) H _ I q) (fun fl s2 z => ?_) (fun _ _ z => z)
  match fl, z with
  | .ret u, ⟨v, σ', H', J, rv, q⟩ => exact ⟨v, H', J.os, J.bare, J.base, J.hok, rv, q⟩
  | .next, ⟨σ', H', J, q⟩ => exact ⟨V.non, H', J.os, J.bare, J.base, J.hok, rfl, q⟩
  | .brk, ⟨_, _, _, q⟩ => exact q.elim
  | .cont, ⟨_, _, _, q⟩ => exact q.elim
abbrev none_ : Obj := { cls := .none, data := .fields #[] }
/-- the heap in which the script, if the top did not write it, and the law's table are tracked -/
def scrT (K : PySem.W.Frag) (a T : Addr) (vs : List Value) (ns : List Int) : Hp := fun b => if b = T then some (.tbl #[]) else onlyScr K a vs ns b
theorem scrT_get {K : PySem.W.Frag} {a T b : Addr} {vs : List Value} {ns : List Int} {o : HO} (h : scrT K a T vs ns b = some o) : (b = T ∧ o = .tbl #[]) ∨ (b ≠ T ∧ b = a ∧ K.lookup a = none ∧ o = .frz (scr vs) (.lst (ns.map V.int))) := by
  unfold scrT at h
  by_cases e : b = T
  · rw [if_pos e] at h
    exact .inl ⟨e, (Option.some.inj h).symm⟩
  · rw [if_neg e] at h
    exact .inr ⟨e, onlyScr_get h⟩
theorem law_goT {P : Program} {w : World} {K : PySem.W.Frag} {mg mb : Str → Option Value} {CX : CXT} {k : Nat} {f a c T : Addr} {fd : FuncData} {x : Str} {sp : Sp} {s : Shared} {vs : List Value} {ns : List Int}
    (kin : K.In s.heap) (hm : s.heap.Ns mainGlobals mg) (hb : s.heap.Ns builtinsNs mb) (hbb : ∀ y : Str, y ≠ "__name__" → mb y = bootBuiltins y) (lim : s.heap.NoLimit) (hgen : s.gens = #[])
    (tab : s.heap.get? T = some none_) (out : K.lookup T = none) (hd : PySem.W.codeHdIn K c T = true) (bmain : ∃ (bm : Addr) (ob : Obj), mg "__builtins__" = some (.ref bm) ∧ bm ≠ builtinsNs ∧ s.heap.get? bm = some ob ∧ ob.cls = .type "module" ∧ ob.dict = some builtinsNs ∧ ob.data = .plain)
    (ha : s.heap.get? a = some (scr vs)) (hi : IntsAre vs ns) (hl : ns.length ≤ sizeLine) (hr : Room k callerA)
    (F : ∀ base : Heap, K.In base → base.Ns mainGlobals mg → TabB base mg c T → FnG P w K mg base CX k f fd [x] sp) (bind : ∀ (s : Shared) (u : Value), BindsTo s fd ⟨[u], []⟩ [(x, u)])
    (prom : ∀ H : Hp, H T = some (.tbl #[]) → SqL K H a (ns.map V.int) → sp [.ref a] H (fun v _ => v = .bl true) fun _ _ _ => False)
    (none_out : ∀ H e s', CX [] H s (fun _ _ _ => False) e s' → False) :
    codeAny (model P w) callerA (.call (.ref f) ⟨[.ref a], []⟩) (fun r s' => r = .ok (.ret (.bool true)) ∧ OldK s.heap s'.heap ∧ s'.os = s.os ∧ AllBare s'.gens) s := by
  have hv := vals_ints hi
  have hlen := hi.length
  have aT : a ≠ T := fun z => by
    rw [z, tab] at ha
    cases ha
  let H := scrT K a T vs ns
  have hT : H T = some (.tbl #[]) := if_pos rfl
  have gone : ∀ {b : Addr} {o : Obj}, K.lookup b = some o → H b = none := fun {b o} q => by
    cases e : H b with
    | none => rfl
    | some u =>
      rcases scrT_get e with ⟨rfl, _⟩ | ⟨_, rfl, n, _⟩
      · rw [out] at q
        cases q
      · rw [n] at q
        cases q
  have free : ∀ {b : Addr} {o : Obj}, s.heap.get? b = some o → (∀ (u : Array Value) (n : Nat), o.data ≠ .seq u n) → (∀ u, o.data ≠ .fields u) → H b = none := fun {b o} q d1 d2 => by
    cases e : H b with
    | none => rfl
    | some u =>
      rcases scrT_get e with ⟨rfl, _⟩ | ⟨_, rfl, _, _⟩
      · rw [tab] at q
        cases q
        exact (d2 _ rfl).elim
      · rw [ha] at q
        cases q
        exact (d1 _ _ rfl).elim
  have stays : ∀ {b : Addr} {m : Str → Option Value}, s.heap.Ns b m → (hidT s.heap H).Ns b m := fun ⟨o, es, ep, q, d, r⟩ =>
    ⟨o, es, ep, hidT_get q (free q (fun _ _ z => by rw [d] at z; cases z) fun _ z => by rw [d] at z; cases z), d, r⟩
  have kinT : K.In (hidT s.heap H) := fun b o q => hidT_get (kin b o q) (gone q)
  have hok : HOk P w H s.heap := fun b u q => by
    rcases scrT_get q with ⟨rfl, rfl⟩ | ⟨_, rfl, _, rfl⟩
    · exact tab
    · exact ⟨ha, by rw [List.length_map]; exact hl, vs, _, hv, ha⟩
  have hS : SqL K H a (ns.map V.int) := by
    cases e : K.lookup a with
    | none => exact .inl (.inr ⟨scr vs, (if_neg aT).trans (if_pos ⟨rfl, by rw [e]; rfl⟩)⟩)
    | some o =>
      have q := kin a o e
      rw [ha] at q
      cases q
      exact .inr ⟨_, vs.toArray, _, e, rfl, rfl, rfl, by rw [List.size_toArray, hlen]; exact hl, by simpa using hv⟩
  have notG : mainGlobals ≠ T := fun z => by
    obtain ⟨o, es, ep, q, d, _⟩ := hm
    rw [z, tab] at q
    cases q
    cases d
  have TB : TabB (hidT s.heap H) mg c T := by
    obtain ⟨bm, ob, b1, b2, b3, b4, b5, b6⟩ := bmain
    refine ⟨PySem.W.codeHd_of_K kinT hd, ⟨bm, ob, b1, b2, fun z => ?_, fun z => ?_, hidT_get b3 (free b3 (fun _ _ z => by rw [b6] at z; cases z) fun _ z => by rw [b6] at z; cases z), b4, b5, b6⟩, notG⟩
    · obtain ⟨o, es, ep, q, d, _⟩ := hm
      rw [z, q] at b3
      cases b3
      rw [d] at b6
      cases b6
    · rw [z, tab] at b3
      cases b3
      cases b6
  obtain ⟨mc, l1, l2⟩ := lim
  have e0 : Env0 P w K mg (hidT s.heap H) callerA [] s H := by
    refine ⟨rfl, ⟨kinT, stays hm, ⟨mb, stays hb, hbb⟩, ⟨mc, stays l1, l2⟩⟩, fun b o q => of_hidT q, Nat.le_of_eq (hidT_size _ _), trivial, fun b q => ?_, hok, .of_eq hgen⟩
    cases q
  refine codeAny_mono ((F _ kinT (stays hm) TB).go callerA [] s H ⟨[.ref a], []⟩ [.ref a] [.ref a] _ _ rfl hr e0 (bind s (.ref a)) (.cons rfl .nil) (prom H hT hS)) fun r s' h => ?_
  match r, h with
  | .error e, h => exact (none_out H e s' h).elim
  | .ok .next, h => exact h.elim
  | .ok .brk, h => exact h.elim
  | .ok .cont, h => exact h.elim
  | .ok (.ret u), ⟨v, H', os, bare, un, hok', rv, q⟩ =>
    have q' : v = .bl true := q
    subst q'
    have hu : u = Value.bool true := rv
    subst hu
    have rest : ∀ b o, b ≠ T → s.heap.get? b = some o → s'.heap.get? b = some o := fun b o nb z => by
      cases e : H b with
      | none => exact un.keep b o z e (by intro y; cases y) (by simp)
      | some t =>
        rcases scrT_get e with ⟨y, _⟩ | ⟨_, rfl, _, rfl⟩
        · exact absurd y nb
        · rw [ha] at z
          cases z
          exact (hok' b _ (un.frzs b _ _ e)).1
    obtain ⟨more, grown⟩ := un.tbls T #[] hT
    have hT2 : s'.heap.get? T = some { cls := .none, data := .fields (#[] ++ more) } := hok' T _ grown
    refine ⟨rfl, ⟨fun b o z => ?_, fun b o z => ?_⟩, os, bare⟩
    · by_cases nb : b = T
      · subst nb
        rw [tab] at z
        cases z
        exact .inr (.inl ⟨((PySem.W.codeHd_of_K kin hd).tab tab).isCodeTable, rfl, #[], more, rfl, hT2⟩)
      · exact .inl (rest b o nb z)
    · by_cases nb : b = T
      · subst nb
        exact ⟨_, hT2⟩
      · exact ⟨o, rest b o nb z⟩
theorem walk_goT {l : PySem.W.OpenLaw} {n k : Nat} {q : Program} {loose : List Str} {XP : (Str → Option Value) → Heap → Prop} {YP : World → Heap → Prop} {d : DefRec} {CX : World → CXT} {x : Str}
    (hn : l.most = some n) (hn2 : n ≤ sizeLine) (hdf : d.params.defaults = []) (hr : Room k callerA)
    (F : ∀ (w : World) (mg : Str → Option Value) (f : Addr) (h : Heap), YP w h → h.Ns mainGlobals mg → mg d.name = some (.ref f) → ∃ (K : PySem.W.Frag) (fd : FuncData) (sp : Sp) (c T : Addr), K.In h ∧ h.get? T = some none_ ∧ K.lookup T = none ∧ PySem.W.codeHdIn K c T = true ∧ (∀ (s : Shared) (u : Value), BindsTo s fd ⟨[u], []⟩ [(x, u)]) ∧
      (∀ (H : Hp) (a : Addr) (ns : List Int), ns.length ≤ n → H T = some (.tbl #[]) → SqL K H a (ns.map V.int) → sp [.ref a] H (fun v _ => v = .bl true) fun _ _ _ => False) ∧ ∀ base : Heap, K.In base → base.Ns mainGlobals mg → TabB base mg c T → FnG l.prog w K mg base (CX w) k f fd [x] sp)
    (none_out : ∀ (w : World) (H : Hp) (s : Shared) (e : Value) (s' : Shared), CX w [] H s (fun _ _ _ => False) e s' → False) : PySem.W.WalkO q loose XP YP l.row.toRowW d [] (fun f vs => PySem.call f vs) :=
  Att.attach_call hn hdf fun w _ s _ _ f _ _ _ _ a _ ns G Y _ _ _ hmg hobj hints hlen hgen =>
    let ⟨_, _, _, _, _, kin, tab, out, hd, bind, prom, ok⟩ := F w _ f _ Y G.T.g hmg
    law_goT kin G.T.g G.T.b G.T.builtins G.T.nolimit hgen tab out hd G.T.bmain hobj hints (Nat.le_trans hlen hn2) hr ok bind (fun H hT hS => prom H a ns hlen hT hS) fun H e s' => none_out w H s e s'
end Yt
namespace Tm
open PySem PySem.Spec PyProof.Rows L2
/-! ## tuple * int, the number 0 and 1 too -/
theorem mul_self (l : Addr) (us : Array Value) (n : Nat) (dd : Option Addr) (sl : Array (Option Value)) (tk : Tok) :
    Meets (Builtin.«tuple.__mul__» ⟨[.ref l, .int 1 tk], []⟩) (fun _ R s => s.heap.get? l = some { cls := .type "tuple", dict := dd, data := .seq us n, slots := sl } ∧ R (.ok (.ret (.ref l))) s) :=
  .of_wp fun prog w A R s h => by
    obtain ⟨hp, gs, dr, tks, os⟩ := s
    obtain ⟨hl, q⟩ := h
    have f1 := AutoSeq1.idx_int
    have c1 : (us.isEmpty || (1 : Int) == 1) = true := by simp
    wp_walk using wpAny_loadPart' hl
    repeat (first
      | (refine wpAny_ite_true (decide_eq_true c1) ?_; wp_walk using wpAny_loadPart' hl)
      | (refine wpAny_ite_true c1 ?_; wp_walk using wpAny_loadPart' hl))
    exact ⟨_, rfl, q⟩
theorem mul_nil (l : Addr) (us : Array Value) (n : Nat) (dd : Option Addr) (sl : Array (Option Value)) (tk : Tok) (ne : us.isEmpty = false) :
    Meets (Builtin.«tuple.__mul__» ⟨[.ref l, .int 0 tk], []⟩) (fun _ R s => s.heap.get? l = some { cls := .type "tuple", dict := dd, data := .seq us n, slots := sl } ∧
      R (.ok (.ret (.ref s.heap.objs.size))) { s with heap := s.heap.push { cls := .type "tuple", data := .seq #[] }, toks := s.toks }) :=
  .of_wp fun prog w A R s h => by
    obtain ⟨hp, gs, dr, tks, os⟩ := s
    obtain ⟨hl, q⟩ := h
    have f1 := AutoSeq1.idx_int
    have c1 : (us.isEmpty || (0 : Int) == 1) = false := by rw [ne]; rfl
    have c2 : (decide ((0 : Int) ≤ 0) || us.isEmpty) = true := by simp
    wp_walk using wpAny_loadPart' hl
    repeat (first
      | (refine wpAny_ite_false (decide_eq_false (by rw [c1]; exact Bool.false_ne_true)) ?_; wp_walk using wpAny_loadPart' hl)
      | (refine wpAny_ite_true (decide_eq_true c2) ?_; wp_walk using wpAny_loadPart' hl))
    exact ⟨_, rfl, q⟩
def rMulT (K : PySem.W.Frag) : R2 := fun x y H Q => ∃ l k xs, x = .ref l ∧ y = .int k ∧ SqT K H l xs ∧ xs ≠ [] ∧ xs.length ≤ 1000 ∧
  ((k = 0 ∧ ∀ p, H p = none → Q (.ref p) (upd H p (.tup []))) ∨ (k = 1 ∧ Q (.ref l) H) ∨ (2 ≤ k ∧ k ≤ 1000 ∧ ∀ p, H p = none → Q (.ref p) (upd H p (.tup (List.replicate k.toNat xs).flatten))))
section
variable {X : Cx}
theorem op_mulT : OpR X (binaryOp .Mult) (rMulT X.K) := by
  intro pins s σ H x y v u Q I rx ry h
  obtain ⟨l, k, xs, rfl, rfl, hT, hne, hz, h⟩ := h
  rcases h with ⟨rfl, q⟩ | ⟨rfl, q⟩ | ⟨h1, h2, q⟩
  · cases rx
    obtain ⟨t, rfl⟩ := ry
    obtain ⟨its, rv, ⟨⟨cl, dd, da, sl⟩, ho, hc, n, hd⟩, _⟩ := I.tuple hT
    simp only at hc hd
    subst hc hd
    have ne : its.toArray.isEmpty = false := by
      cases its with
      | nil =>
        have z := rv.length
        exact absurd (List.eq_nil_of_length_eq_zero z) hne
      | cons _ _ => rfl
    refine wpAny_binaryOp_repeat_ref (T := "tuple") (U := "int") (by decide) ⟨_, ho, rfl⟩ (fun s' => typeIs_int s' 0 t) noFill_tuple_mul F.fills_int_mul F.slot_int_rmul repeat_tuple F.slot_int_index.lookup
      (call_meets F.slot_int_rmul (typeIs_int s 0 t) F.entry_int_rmul (F.args_int_rmul_2 _ _) (int_rmul_tuple 0 t l its.toArray n dd sl)
        ⟨ho, rfl, ⟨_, ho, rfl⟩, call_meets F.slot_tuple_mul ⟨_, ho, rfl⟩ F.entry_tuple_mul (F.args_tuple_mul_2 _ _) (mul_nil l its.toArray n dd sl t ne) ⟨ho, ?_⟩⟩)
    exact ⟨.ref s.heap.objs.size, _, I.laid (t' := s.toks) (o := .tup []) (fun b ob q => Heap.get?_push_of_some _ q) (Nat.le_refl _) ⟨Nat.zero_le _, [], .nil, IsTup.new _ _⟩, rfl, q _ (I.hok.fresh (Nat.le_refl _))⟩
  · cases rx
    obtain ⟨t, rfl⟩ := ry
    obtain ⟨its, rv, ⟨⟨cl, dd, da, sl⟩, ho, hc, n, hd⟩, _⟩ := I.tuple hT
    simp only at hc hd
    subst hc hd
    exact wpAny_binaryOp_repeat_ref (T := "tuple") (U := "int") (by decide) ⟨_, ho, rfl⟩ (fun s' => typeIs_int s' 1 t) noFill_tuple_mul F.fills_int_mul F.slot_int_rmul repeat_tuple F.slot_int_index.lookup
      (call_meets F.slot_int_rmul (typeIs_int s 1 t) F.entry_int_rmul (F.args_int_rmul_2 _ _) (int_rmul_tuple 1 t l its.toArray n dd sl)
        ⟨ho, rfl, ⟨_, ho, rfl⟩, call_meets F.slot_tuple_mul ⟨_, ho, rfl⟩ F.entry_tuple_mul (F.args_tuple_mul_2 _ _) (mul_self l its.toArray n dd sl t) ⟨ho, .ref l, H, I, rfl, q⟩⟩)
  · exact op_repT pins s σ H _ _ v u Q I rx ry ⟨l, k, xs, rfl, rfl, hT, hne, h1, h2, hz, q⟩
end
end Tm
namespace Xe
open PySem PySem.Spec PyProof.Rows L2 LamX Pen Dat Ki Fi Ep Eq Es Ev Xm Xn Xd Xw Xg Xp Xq Zp Ab Xr Xs Xt Xu Xv Xz Xo Wy Yw
/-! ## Rows that are none; words of rows, bits of rows -/
abbrev sRowI : Stmt := inClass cBadR 0
abbrev riN : List Str := ["self", "row"]
theorem scRowI : FnScope riN riN (defScope sRowI) := ⟨rfl, rfl, rfl, by decide +kernel, rfl, by decide +kernel, by decide +kernel⟩
def spRowI (C : Addr) : Sp := fun vs H Q _ => ∃ (a : Addr) (v : V), vs = [.ref a, v] ∧ H a = some (exo a C none) ∧ ∀ d, H d = none → d ≠ a → Q .non (upd (upd H d (exd d [("row", v)])) a (exo a C (some d)))
def Row (CR : Addr) (E : XK) (H : Hp) (v : V) : Prop := ∀ d H', Same H H' → H' d = some (.xd [("row", v)]) → E (.ref CR) (some d) H'
theorem del_keep {H H2 : Hp} {a d : Addr} {u : HO} (na : H a = none) (nd : H d = none) (s : ∀ b o, H b = some o → b ≠ a → b ≠ d → H2 b = some o) : Same H (upd (del H2 a) d u) := fun b o e => by
  have ha : b ≠ a := ne_of_none e na
  have hd : b ≠ d := ne_of_none e nd
  rw [upd_ne hd, del_ne ha]
  exact s b o e ha hd
theorem mk_row {σ : L2.St} {H : Hp} {Q : XK} {CR : Addr} {v : V} {te : TE} (hv : ∀ R : VK, R v H → te σ H R) (q : Row CR Q H v) : tMkO CR (spRowI CR) [] (tCons te tNil) σ H Q := by
  refine hv _ ⟨(by show 1 ≤ 1000; decide), fun a na => ⟨a, v, rfl, upd_same, fun d nd dne => ?_⟩⟩
  rw [upd_ne dne] at nd
  refine ⟨rfl, d, _, upd_same, by rw [upd_ne dne, upd_same], nd, q d _ (del_keep na nd fun b o e ha hd => ?_) upd_same⟩
  rw [upd_ne ha, upd_ne hd, upd_ne ha]
  exact e
structure Xi (K : PySem.W.Frag) (C f : Addr) : Prop where
  oe : OexC K C
  ini : PySem.W.findIn K (.ref C) "__init__" = some (some (.ref f))
  fn : PySem.W.typeIn K (.ref f) = some (.type "function")
theorem fn_or {P : Program} {w : World} {K : PySem.W.Frag} {mg : Str → Option Value} {base : Heap} {CX : CXT} {k : Nat} {f : Addr} {fd : FuncData} {ps : List Str} {sp sp' : Sp} (a : FnOk P w K mg base CX k f fd ps sp) (b : FnOk P w K mg base CX k f fd ps sp') : FnOk P w K mg base CX k f fd ps fun vs H Q E => sp vs H Q E ∨ sp' vs H Q E :=
  ⟨fun vs H Q E h => h.elim (a.len vs H Q E) (b.len vs H Q E), fun A fs s H ag us vs Q E hr e bd r h => h.elim (a.run A fs s H ag us vs Q E hr e bd r) (b.run A fs s H ag us vs Q E hr e bd r)⟩
structure Te (K : PySem.W.Frag) (mg : Str → Option Value) (CR CN CL fR : Addr) : Prop where
  why : Yw.Tw K mg CR CN CL
  r : Xi K CR fR
def intD : PyData → Int
  | .int i => i
  | _ => 0
def intsD (e : PyData) : List Int := (rowsD e).map intD
theorem bet_int : ∀ {d : PyData} {lo hi : Int}, betD d lo hi = true → d = .int (intD d) ∧ lo ≤ intD d ∧ intD d ≤ hi
  | .int i, lo, hi, h => by
    obtain ⟨a, b⟩ := Bool.and_eq_true_iff.mp (show (decide (lo ≤ i) && decide (i ≤ hi)) = true from h)
    exact ⟨rfl, of_decide_eq_true a, of_decide_eq_true b⟩
  | .none, _, _, h => by cases h
  | .bool _, _, _, h => by cases h
  | .str _, _, _, h => by cases h
  | .list _, _, _, h => by cases h
  | .tuple _, _, _, h => by cases h
  | .dict _, _, _, h => by cases h
theorem all_ints : ∀ {es : List PyData}, (∀ x ∈ es, x = .int (intD x)) → es = (es.map intD).map PyData.int
  | [], _ => rfl
  | e :: es, h => by
    rw [List.map_cons, List.map_cons, ← h e List.mem_cons_self, ← all_ints fun x hx => h x (List.mem_cons_of_mem _ hx)]
theorem dps_ints {K : PySem.W.Frag} {H : Hp} : ∀ {xs : List Int} {vs : List V}, DpAll K H vs (xs.map PyData.int) → vs = xs.map V.int
  | [], _, h => by
    cases h
    rfl
  | x :: xs, _, h => by
    cases h with
    | cons a b =>
      cases a
      rw [dps_ints b]
      rfl
/-- a row of ints, as an object -/
theorem row_ints {K : PySem.W.Frag} {H : Hp} {v : V} {e : PyData} (h : Dp K H v e) (r : isRowD e = true) (k : ∀ x ∈ rowsD e, x = .int (intD x)) : ∃ t a, v = .ref a ∧ SqB K t H a ((intsD e).map V.int) := by
  obtain ⟨t, a, vs, rfl, s, dp⟩ := row_at h r
  rw [all_ints k] at dp
  exact ⟨t, a, rfl, dps_ints dp ▸ s⟩
theorem rowB_ints {e : PyData} {n : Nat} (h : rowB e n 0 1 = true) : isRowD e = true ∧ (∀ x ∈ rowsD e, x = .int (intD x)) ∧ (intsD e).length = n ∧ ∀ y ∈ intsD e, y = 0 ∨ y = 1 := by
  obtain ⟨r, h⟩ := Bool.and_eq_true_iff.mp (show (isRowD e && _) = true from h)
  obtain ⟨l, h⟩ := Bool.and_eq_true_iff.mp h
  have l := of_decide_eq_true l
  have h := List.all_eq_true.mp h
  refine ⟨r, fun x hx => (bet_int (h x hx)).1, ?_, fun y hy => ?_⟩
  · unfold intsD
    rw [List.length_map]
    omega
  · obtain ⟨x, hx, rfl⟩ := List.mem_map.mp hy
    obtain ⟨_, a, b⟩ := bet_int (h x hx)
    omega
theorem zip_words : ∀ {es : List PyData} {ws : List Nat}, es.length = ws.length → (List.zip es ws).all wordB = true → (∀ x ∈ es, x = .int (intD x)) ∧ InW ws (es.map intD)
  | [], [], _, _ => ⟨(fun _ h => by cases h), .nil⟩
  | e :: es, n :: ws, l, h => by
    obtain ⟨a, b⟩ := Bool.and_eq_true_iff.mp (show (wordB (e, n) && (List.zip es ws).all wordB) = true from h)
    obtain ⟨e1, e2, e3⟩ := bet_int (show betD e 0 (2 ^ n - 1) = true from a)
    obtain ⟨i1, i2⟩ := zip_words (Nat.succ.inj l) b
    refine ⟨fun x hx => ?_, .cons e2 (by omega) i2⟩
    rcases List.mem_cons.mp hx with g | g
    · rw [g]
      exact e1
    · exact i1 x g
theorem words_ints {e : PyData} {ws : List Nat} (h : wordsB e ws = true) : isRowD e = true ∧ (∀ x ∈ rowsD e, x = .int (intD x)) ∧ InW ws (intsD e) := by
  obtain ⟨r, h⟩ := Bool.and_eq_true_iff.mp (show (isRowD e && _) = true from h)
  obtain ⟨l, h⟩ := Bool.and_eq_true_iff.mp h
  obtain ⟨a, b⟩ := zip_words (of_decide_eq_true l) h
  exact ⟨r, a, b⟩
def wdsOf (m : Md) : List Nat := (insOf m.items).map wdN
theorem wds_v (m : Md) : (wdsOf m).map wV = (insOf m.items).map wdV := by
  unfold wdsOf
  rw [List.map_map]
  rfl
theorem wds_ok {m : Md} (ok : MdOk m) : (∀ n ∈ wdsOf m, 1 ≤ n ∧ n ≤ 8) ∧ (wdsOf m).length ≤ 40 ∧ (wdsOf m).sum ≤ 320 ∧ 1 ≤ (wdsOf m).length := by
  have i := ok.ins
  have l := ok.insl
  refine ⟨fun n hn => ?_, by unfold wdsOf; rw [List.length_map]; exact l, ?_, ?_⟩
  · obtain ⟨q, hq, rfl⟩ := List.mem_map.mp hn
    exact ⟨(i q hq).1, (i q hq).2.1⟩
  · have := wd_sum (insOf m.items) fun q hq => (i q hq).2.1
    unfold wdsOf
    omega
  · unfold wdsOf
    rw [List.length_map]
    exact List.length_pos_iff.mpr ok.one
theorem sum_cast : ∀ ws : List Nat, (ws.map fun n : Nat => (n : Int)).sum = ((ws.sum : Nat) : Int)
  | [] => rfl
  | n :: ws => by
    rw [List.map_cons, List.sum_cons, sum_cast ws, List.sum_cons]
    omega
def spNR (K : PySem.W.Frag) (CR : Addr) : Sp := fun vs H Q E => ∃ (d : Addr) (ds : List V) (A : List Md) (m : Md) (v : V) (dat : PyData), vs = [.ref d, v] ∧ DsAt K H d ds (A ++ [m]) ∧ Dp K H v dat ∧ (rowsD dat).length ≤ 1000 ∧
  ((wrowsB dat (wdsOf m) = true ∧ ∀ H', Same H H' → Q .non H') ∨ (wrowsB dat (wdsOf m) = false ∧ Row CR E H v))
def spWO (K : PySem.W.Frag) (CR : Addr) : Sp := fun vs H Q E => ∃ (d : Addr) (ds : List V) (A : List Md) (m : Md) (v : V) (dat : PyData), vs = [.ref d, v] ∧ DsAt K H d ds (A ++ [m]) ∧ Dp K H v dat ∧ (rowsD dat).length ≤ 1000 ∧ (∀ e ∈ rowsD dat, (rowsD e).length ≤ 1000) ∧
  ((brows dat ((wdsOf m).sum : Nat) = true ∧ ∀ (H' : Hp) (t : Addr) (tvs : List V), Same H H' → SqT K H' t tvs → All2 (fun v e => RwAt K H' v (wordsOf (wdsOf m) (intsD e))) tvs (rowsD dat) → Q (.ref t) H') ∨
   (brows dat ((wdsOf m).sum : Nat) = false ∧ Row CR E H v))
def spBO (K : PySem.W.Frag) (CR : Addr) : Sp := fun vs H Q E => ∃ (d : Addr) (ds : List V) (A : List Md) (m : Md) (v : V) (dat : PyData), vs = [.ref d, v] ∧ DsAt K H d ds (A ++ [m]) ∧ Dp K H v dat ∧ (rowsD dat).length ≤ 1000 ∧
  ((wrowsB dat (wdsOf m) = true ∧ ∀ (H' : Hp) (t : Addr) (tvs : List V), Same H H' → SqT K H' t tvs → All2 (fun v e => RwAt K H' v (bitsOf (wdsOf m) (intsD e))) tvs (rowsD dat) → Q (.ref t) H') ∨
   (wrowsB dat (wdsOf m) = false ∧ Row CR E H v))
section
variable {P : Program} {w : World} {K : PySem.W.Frag} {mg : Str → Option Value} {base : Heap} {f CR CN CL fRI : Addr} {fd dRI : FuncData}
theorem ok_rowi (F : FunD K "__init__" "BadRow.__init__" (defArgs sRowI) (defBody sRowI) (defScope sRowI) [] [] f fd) (T : Te K mg CR CN CL fRI) : FnOk P w K mg base CX0 1 f fd riN (spRowI CR) := by
  refine F.ok scRowI (fun vs H Q E h => ?_) (fun cdv A outer s H vs Q E hr h => ?_)
  · obtain ⟨a, v, rfl, _⟩ := h
    rfl
  · obtain ⟨a, v, rfl, ha, q⟩ := h
    refine ⟨_, PSs.nox (pss_one (ps_ost (pv 0) (pv 1))), ?_⟩
    exact ⟨_, rfl, _, rfl, a, CR, rfl, T.r.oe, T.why.nr, .inl ⟨ha, fun d hd dne => q d hd dne⟩⟩
abbrev nNR : List Str := ["design", "rows"]
theorem scNR : FnScope nNR ["design", "rows"] (defScope sNeedRows) := ⟨rfl, rfl, rfl, by decide +kernel, rfl, by decide +kernel, by decide +kernel⟩
theorem ok_nr (F : FnP K "need_rows" sNeedRows f fd) (T : Te K mg CR CN CL fRI) (GRI : FnOk P w K mg base CX0 1 fRI dRI riN (spRowI CR)) (bRI : Binds K dRI riN [])
    {fWID fAR : Addr} {dWID dAR : FuncData}
    (GWID : FnOk P w K mg base CX0 3 fWID dWID ["design"] ((spWID K))) (gWID : mg "widths_of_inputs" = some (.ref fWID)) (kWID : PySem.W.keepIn K (.ref fWID) = true) (bWID : Binds K dWID ["design"] [])
    (GAR : FnOk P w K mg base CX0 3 fAR dAR ["value", "widths"] ((spAR K))) (gAR : mg "are_word_rows" = some (.ref fAR)) (kAR : PySem.W.keepIn K (.ref fAR) = true) (bAR : Binds K dAR ["value", "widths"] [])
    : FnOk P w K mg base (L2.CX P w) 4 f fd ["design", "rows"] (spNR K CR) := by
  refine F.ok scNR (fun vs H Q E h => ?_) (fun cdv A0 outer s H vs Q E hr h => ?_)
  · obtain ⟨d, ds, A, m, v, dat, rfl, _⟩ := h
    rfl
  · obtain ⟨d, ds, A, m, v, dat, rfl, D0, hv, dl, h⟩ := h
    have tk : Takes (cxOf (L2.CX P w) P w K mg base nNR "need_rows" (defScope sNeedRows) f cdv A0 outer s H E) (fun cls d _ H => E cls d H) := takes_of rfl rfl rfl rfl
    refine ⟨_, (pss_one (ps_if (pt_not (pt_val (pe_call GAR (hr.mono (by decide)) (by rfl) gAR kAR bAR .nil pass0 (pa_cons (pv 1) (pa_cons (pe_call GWID (hr.mono (by decide)) (by rfl) gWID kWID bWID .nil pass0 (pa_cons (pv 0) pa_nil)) pa_nil)))))
        (pss_one (ps_raise rfl tk (pmk_oex T.r.oe T.r.ini T.r.fn GRI (hr.mono (by decide)) bRI .nil pass0 (by rfl) T.why.mR (pa_cons (pv 1) pa_nil))))
        pss_nil)), ?_⟩
    obtain ⟨wo, wl, _, _⟩ := wds_ok (D0.ok.ok m (by simp))
    refine ⟨_, rfl, _, rfl, d, ds, A, m, rfl, D0, fun H1 l s1 nl h1 => ?_⟩
    rw [← wds_v] at h1
    refine ⟨v, l, dat, wdsOf m, rfl, dp_same s1 hv, h1, fun n hn => Nat.le_trans (wo n hn).2 (by decide), Nat.le_trans wl (by decide), dl, fun H2 s2 => ⟨_, rfl, ?_⟩⟩
    rcases h with ⟨e, q⟩ | ⟨e, q⟩
    · rw [e]
      exact iteF (q _ (s1.trans s2))
    · rw [e]
      exact iteT (mk_row (te := tVar 1) (fun R r => ⟨_, rfl, r⟩) fun dd H' s' x => q dd H' ((s1.trans s2).trans s') x)
abbrev nWO : List Str := ["design", "rows", "widths", "row"]
theorem scWO : FnScope nWO ["design", "rows"] (defScope sWordsOf) := ⟨rfl, rfl, rfl, by decide +kernel, rfl, by decide +kernel, by decide +kernel⟩
theorem ok_wo (F : FnP K "words_of" sWordsOf f fd) (T : Te K mg CR CN CL fRI) (Ty : Xr.Ty mg) (GRI : FnOk P w K mg base CX0 1 fRI dRI riN (spRowI CR)) (bRI : Binds K dRI riN [])
    {fWID fARB fWN : Addr} {dWID dARB dWN : FuncData}
    (GWID : FnOk P w K mg base CX0 3 fWID dWID ["design"] ((spWID K))) (gWID : mg "widths_of_inputs" = some (.ref fWID)) (kWID : PySem.W.keepIn K (.ref fWID) = true) (bWID : Binds K dWID ["design"] [])
    (GARB : FnOk P w K mg base CX0 3 fARB dARB ["value", "many"] ((spARB K))) (gARB : mg "are_rows_of_bits" = some (.ref fARB)) (kARB : PySem.W.keepIn K (.ref fARB) = true) (bARB : Binds K dARB ["value", "many"] [])
    (GWN : FnOk P w K mg base CX0 2 fWN dWN ["widths", "bits"] ((spWN K))) (gWN : mg "words_in" = some (.ref fWN)) (kWN : PySem.W.keepIn K (.ref fWN) = true) (bWN : Binds K dWN ["widths", "bits"] [])
    : FnOk P w K mg base (L2.CX P w) 4 f fd ["design", "rows"] (spWO K CR) := by
  refine F.ok scWO (fun vs H Q E h => ?_) (fun cdv A0 outer s H vs Q E hr h => ?_)
  · obtain ⟨d, ds, A, m, v, dat, rfl, _⟩ := h
    rfl
  · obtain ⟨d, ds, A, m, v, dat, rfl, D0, hv, dl, dl2, h⟩ := h
    have tk : Takes (cxOf (L2.CX P w) P w K mg base nWO "words_of" (defScope sWordsOf) f cdv A0 outer s H E) (fun cls d _ H => E cls d H) := takes_of rfl rfl rfl rfl
    obtain ⟨tb, htb⟩ : ∃ tb, isRowD dat = true → ∃ a vs, v = .ref a ∧ SqB K tb H a vs ∧ DpAll K H vs (rowsD dat) := by
      cases r : isRowD dat with
      | false => exact ⟨true, fun z => by cases z⟩
      | true =>
        obtain ⟨tb, a, vs, e, x, y⟩ := row_at hv r
        exact ⟨tb, fun _ => ⟨a, vs, e, x, y⟩⟩
    refine ⟨_, (pss_cons (ps_set (i := 2) scWO.nd rfl (Or.inr rfl) (pe_call GWID (hr.mono (by decide)) (by rfl) gWID kWID bWID .nil pass0 (pa_cons (pv 0) pa_nil)))
      (pss_cons (ps_if (pt_not (pt_val (pe_call GARB (hr.mono (by decide)) (by rfl) gARB kARB bARB .nil pass0 (pa_cons (pv 1) (pa_cons (pe_callB (cr_sum rfl) (by rfl) Ty.sum (by decide +kernel) (pa_cons (pv 2) pa_nil)) pa_nil)))))
        (pss_one (ps_raise rfl tk (pmk_oex T.r.oe T.r.ini T.r.fn GRI (hr.mono (by decide)) bRI .nil pass0 (by rfl) T.why.mR (pa_cons (pv 1) pa_nil))))
        pss_nil)
      (pss_one (ps_ret (pe_callTy (T := "tuple") (r := rTupOf K) (by exact call_tuple_of) (by rfl) Ty.ki.tuple (by decide +kernel) (pa_cons (pe_lc (own := [("row", 3)]) (g := gName 3) (tt := tYes) rfl scWO.nd (Ab.pi_b (K := K) (t := tb) rfl (pv 1)) (blkOk_by (N := nWO) (sc := defScope sWordsOf) (by decide +kernel)) (fun _ _ _ _ _ => pg_name (i := 3) scWO.nd rfl (Or.inl rfl)) (fun _ _ _ _ _ => pts_nil) (fun _ _ _ _ _ => (pe_call GWN (hr.mono (by decide)) (by rfl) gWN kWN bWN .nil pass0 (pa_cons (pv 2) (pa_cons (pv 3) pa_nil))))) pa_nil)))))), ?_⟩
    obtain ⟨wo, wl, wsum, _⟩ := wds_ok (D0.ok.ok m (by simp))
    refine ⟨_, rfl, d, ds, A, m, rfl, D0, fun H1 l s1 nl h1 => ?_⟩
    rw [← wds_v] at h1
    refine ⟨_, rfl, _, rfl, l, (wdsOf m).map fun n : Nat => (n : Int), rfl, SqL.of (by rw [List.map_map]; exact h1), ?_⟩
    rw [sum_cast]
    refine ⟨v, _, dat, rfl, dp_same s1 hv, dl, dl2, fun H2 s2 => ⟨_, rfl, ?_⟩⟩
    have s12 := s1.trans s2
    have h2 := s2 _ _ h1
    rcases h with ⟨e, q⟩ | ⟨e, q⟩
    · rw [e]
      obtain ⟨r, e⟩ := Bool.and_eq_true_iff.mp (show (isRowD dat && _) = true from e)
      have e := List.all_eq_true.mp e
      obtain ⟨a, vs, rfl, sq, dp⟩ := htb r
      have dlen := dps_len dp
      have sq2 := sqB_same s12 sq
      refine iteF ⟨_, rfl, a, rfl, ⟨_, sq2⟩, fun D nD => ?_⟩
      refine lc_b (K := K) (a := a) (xs := vs) (fun i H' => Same H2 H' ∧ ∃ tvs, H' D = some (.lst tvs) ∧ tvs.length = i ∧ All2 (fun v e => RwAt K H' v (wordsOf (wdsOf m) (intsD e))) tvs ((rowsD dat).take i))
        ⟨same_new nD, [], upd_same, rfl, .nil⟩ (fun i H' _ ⟨s, _⟩ => sqB_same s sq2) ?_ ?_
      · rintro i y H3 hi ⟨s3, tvs, h3, l3, a3⟩
        obtain ⟨z, hz, hvz⟩ := dps_get dp hi
        have il := (List.getElem?_eq_some_iff.mp hz).1
        obtain ⟨rz, kz, lz, z01⟩ := rowB_ints (e z (List.mem_of_getElem? hz))
        obtain ⟨te, b, rfl, sb⟩ := row_ints (dp_same (s12.trans s3) hvz) rz kz
        refine ⟨rfl, yes_of ⟨_, rfl, _, rfl, l, b, te, wdsOf m, intsD z, rfl, s3 _ _ h2, sb, lz, fun n hn => Nat.le_trans (wo n hn).2 (by decide), Nat.le_trans wl (by decide), z01, fun H4 t s4 h4 => ?_⟩⟩
        have fu := Firm.upd (o := .lst (tvs ++ [.ref t])) (s4 _ _ h3) rfl
        refine ⟨tvs, s4 _ _ h3, Nat.lt_of_lt_of_le (by omega : tvs.length < 1001) (by decide), mk_same (s3.trans s4) nD, tvs ++ [.ref t], upd_same, by rw [List.length_append, l3]; rfl, ?_⟩
        rw [Xw.tk hz]
        exact (a3.imp fun _ _ h => h.firm ((Firm.of s4).trans fu)).append (.cons ⟨t, rfl, firm_seq fu (SqT.of h4)⟩ .nil)
      · rintro H3 ⟨s3, tvs, h3, l3, a3⟩
        rw [dlen, List.take_length] at a3
        refine ⟨D, tvs, rfl, .inl ⟨SqL.of h3, fun t nt => ?_⟩⟩
        have st := same_new (u := .tup tvs) nt
        exact q _ t tvs (s12.trans (s3.trans st)) (SqT.of upd_same) (a3.imp fun _ _ h => h.firm (Firm.of st))
    · rw [e]
      exact iteT (mk_row (te := tVar 1) (fun R r => ⟨_, rfl, r⟩) fun dd H' s' x => q dd H' (s12.trans s') x)
abbrev nBO : List Str := ["design", "rows", "widths", "row"]
theorem scBO : FnScope nBO ["design", "rows"] (defScope sBitsOf) := ⟨rfl, rfl, rfl, by decide +kernel, rfl, by decide +kernel, by decide +kernel⟩
theorem ok_bo {fNR : Addr} {dNR : FuncData} (F : FnP K "bits_of" sBitsOf f fd) (Ty : Xr.Ty mg) (GNR : FnOk P w K mg base (L2.CX P w) 4 fNR dNR ["design", "rows"] (spNR K CR)) (gNR : mg "need_rows" = some (.ref fNR)) (kNR : PySem.W.keepIn K (.ref fNR) = true) (bNR : Binds K dNR ["design", "rows"] [])
    {fWID fBN : Addr} {dWID dBN : FuncData}
    (GWID : FnOk P w K mg base CX0 3 fWID dWID ["design"] ((spWID K))) (gWID : mg "widths_of_inputs" = some (.ref fWID)) (kWID : PySem.W.keepIn K (.ref fWID) = true) (bWID : Binds K dWID ["design"] [])
    (GBN : FnOk P w K mg base CX0 2 fBN dBN ["widths", "words"] ((spBN K))) (gBN : mg "bits_in" = some (.ref fBN)) (kBN : PySem.W.keepIn K (.ref fBN) = true) (bBN : Binds K dBN ["widths", "words"] [])
    : FnOk P w K mg base (L2.CX P w) 5 f fd ["design", "rows"] (spBO K CR) := by
  refine F.ok scBO (fun vs H Q E h => ?_) (fun cdv A0 outer s H vs Q E hr h => ?_)
  · obtain ⟨d, ds, A, m, v, dat, rfl, _⟩ := h
    rfl
  · obtain ⟨d, ds, A, m, v, dat, rfl, D0, hv, dl, h⟩ := h
    have tk : Takes (cxOf (L2.CX P w) P w K mg base nBO "bits_of" (defScope sBitsOf) f cdv A0 outer s H E) (fun cls d _ H => E cls d H) := takes_of rfl rfl rfl rfl
    obtain ⟨tb, htb⟩ : ∃ tb, isRowD dat = true → ∃ a vs, v = .ref a ∧ SqB K tb H a vs ∧ DpAll K H vs (rowsD dat) := by
      cases r : isRowD dat with
      | false => exact ⟨true, fun z => by cases z⟩
      | true =>
        obtain ⟨tb, a, vs, e, x, y⟩ := row_at hv r
        exact ⟨tb, fun _ => ⟨a, vs, e, x, y⟩⟩
    refine ⟨_, (pss_cons (ps_expr (pe_call GNR (hr.mono (by decide)) (by rfl) gNR kNR bNR .nil (passes_call tk fun _ _ _ _ h => h) (pa_cons (pv 0) (pa_cons (pv 1) pa_nil))))
      (pss_cons (ps_set (i := 2) scBO.nd rfl (Or.inr rfl) (pe_call GWID (hr.mono (by decide)) (by rfl) gWID kWID bWID .nil pass0 (pa_cons (pv 0) pa_nil)))
      (pss_one (ps_ret (pe_callTy (T := "tuple") (r := rTupOf K) (by exact call_tuple_of) (by rfl) Ty.ki.tuple (by decide +kernel) (pa_cons (pe_lc (own := [("row", 3)]) (g := gName 3) (tt := tYes) rfl scBO.nd (Ab.pi_b (K := K) (t := tb) rfl (pv 1)) (blkOk_by (N := nBO) (sc := defScope sBitsOf) (by decide +kernel)) (fun _ _ _ _ _ => pg_name (i := 3) scBO.nd rfl (Or.inl rfl)) (fun _ _ _ _ _ => pts_nil) (fun _ _ _ _ _ => (pe_call GBN (hr.mono (by decide)) (by rfl) gBN kBN bBN .nil pass0 (pa_cons (pv 2) (pa_cons (pv 3) pa_nil))))) pa_nil)))))), ?_⟩
    obtain ⟨wo, wl, wsum, _⟩ := wds_ok (D0.ok.ok m (by simp))
    refine ⟨_, rfl, _, rfl, d, ds, A, m, v, dat, rfl, D0, hv, dl, ?_⟩
    rcases h with ⟨e, q⟩ | ⟨e, q⟩
    · refine .inl ⟨e, fun H1 s1 => ?_⟩
      have D1 := D0.firm (Firm.of s1)
      refine ⟨_, rfl, d, ds, A, m, rfl, D1, fun H2 l s2 nl h2 => ?_⟩
      rw [← wds_v] at h2
      have s12 := s1.trans s2
      obtain ⟨r, e⟩ := Bool.and_eq_true_iff.mp (show (isRowD dat && _) = true from e)
      have e := List.all_eq_true.mp e
      obtain ⟨a, vs, rfl, sq, dp⟩ := htb r
      have dlen := dps_len dp
      have sq2 := sqB_same s12 sq
      refine ⟨_, rfl, a, rfl, ⟨_, sq2⟩, fun D nD => ?_⟩
      refine lc_b (K := K) (a := a) (xs := vs) (fun i H' => Same H2 H' ∧ ∃ tvs, H' D = some (.lst tvs) ∧ tvs.length = i ∧ All2 (fun v e => RwAt K H' v (bitsOf (wdsOf m) (intsD e))) tvs ((rowsD dat).take i))
        ⟨same_new nD, [], upd_same, rfl, .nil⟩ (fun i H' _ ⟨s, _⟩ => sqB_same s sq2) ?_ ?_
      · rintro i y H3 hi ⟨s3, tvs, h3, l3, a3⟩
        obtain ⟨z, hz, hvz⟩ := dps_get dp hi
        have il := (List.getElem?_eq_some_iff.mp hz).1
        obtain ⟨rz, kz, iz⟩ := words_ints (e z (List.mem_of_getElem? hz))
        obtain ⟨te, b, rfl, sb⟩ := row_ints (dp_same (s12.trans s3) hvz) rz kz
        refine ⟨rfl, yes_of ⟨_, rfl, _, rfl, l, b, te, wdsOf m, intsD z, rfl, s3 _ _ h2, sb, iz.len.symm, fun n hn => Nat.le_trans (wo n hn).2 (by decide), Nat.le_trans wsum (by decide), fun H4 t s4 h4 => ?_⟩⟩
        have fu := Firm.upd (o := .lst (tvs ++ [.ref t])) (s4 _ _ h3) rfl
        refine ⟨tvs, s4 _ _ h3, Nat.lt_of_lt_of_le (by omega : tvs.length < 1001) (by decide), mk_same (s3.trans s4) nD, tvs ++ [.ref t], upd_same, by rw [List.length_append, l3]; rfl, ?_⟩
        rw [Xw.tk hz]
        exact (a3.imp fun _ _ h => h.firm ((Firm.of s4).trans fu)).append (.cons ⟨t, rfl, firm_seq fu (SqT.of h4)⟩ .nil)
      · rintro H3 ⟨s3, tvs, h3, l3, a3⟩
        rw [dlen, List.take_length] at a3
        refine ⟨D, tvs, rfl, .inl ⟨SqL.of h3, fun t nt => ?_⟩⟩
        have st := same_new (u := .tup tvs) nt
        exact q _ t tvs (s12.trans (s3.trans st)) (SqT.of upd_same) (a3.imp fun _ _ h => h.firm (Firm.of st))
    · exact .inr ⟨e, q⟩
end
end Xe
namespace Xy
open PySem PySem.Spec PyProof.Rows L2 LamX Pen Dat Ki Fi Ep Eq Es Ev Xm Xn Xd Xw Xg Xp Xq Zp Zp3 Ab Xr Xs Xt Xu Xv Xz Xo Xh Xa Wy Yw Ls Xe Yt Gd
/-! ## The law's facts -/
abbrev nLaw : List Str := ["_law_script", "_law_pen_here", "_law_lap", "_law_design", "_law_top", "_law_step", "_law_rows", "_law_bits_here", "_law_row", "_law_others", "_law_mask", "_law_told", "_law_kept", "_law_more", "_law_found", "_law_k", "_law_item", "_law_many", "_law_bad", "_law_odd", "_law_calls", "_law_call", "_law_value", "_law_refused"]
theorem scLaw : FnScope nLaw ["_law_script"] (defScope sLaw) := ⟨rfl, rfl, rfl, by decide +kernel, rfl, by decide +kernel, by decide +kernel⟩
abbrev lamQ : Str := (envOfC "law" (defScope sLaw) 0 0 .none).qual ++ "<lambda>"
def spLaw (K : PySem.W.Frag) (tb : Addr) : Sp := fun vs H Q _ => ∃ (a : Addr) (ns : List Int), vs = [.ref a] ∧ SqL K H a (ns.map V.int) ∧ ns.length ≤ 63 ∧ H tb = some (.tbl #[]) ∧ ∀ H', Q (.bl true) H'
theorem passF {P : Program} {w : World} {X : Cx} : Passes (L2.CX P w) X fun _ _ _ => False := fun _ _ _ _ _ _ _ c => by
  obtain ⟨_, _, _, _, _, _, _, _, _, _, _, _, z⟩ := c
  exact z.elim
/-! ### the law's two lambdas -/
def forIn : Stmt → List Stmt
  | .For _ _ b _ _ => b
  | _ => []
def valOf : Stmt → Expr
  | .Assign _ v _ => v
  | .Expr v _ => v
  | _ => .Tuple [] 0 ⟨0, 0, 0, 0⟩
def eltsOf : Expr → List Expr
  | .List es _ => es
  | .Tuple es _ _ => es
  | .Call _ es _ _ => es
  | _ => []
def exAt (es : List Expr) (i : Nat) : Expr := es.getD i (.Tuple [] 0 ⟨0, 0, 0, 0⟩)
def lamA : Expr → Arguments
  | .Lambda a _ _ _ => a
  | _ => defArgs sLaw
def lamE : Expr → Expr
  | .Lambda _ e _ _ => e
  | x => x
def lamC : Expr → Scope
  | .Lambda _ _ s _ => s
  | _ => defScope sLaw
def lapSt (i : Nat) : Stmt := (forIn ((defBody sLaw).getD 1 (.Pass ⟨0, 0, 0, 0⟩))).getD i (.Pass ⟨0, 0, 0, 0⟩)
def lam0 : Expr := exAt (eltsOf (exAt (eltsOf (valOf (lapSt 14))) 0)) 0
def lam1 : Expr := exAt (eltsOf (exAt (eltsOf (valOf (lapSt 15))) 0)) 0
theorem pe_lam {X : Cx} {c tb : Addr} {ar : Arguments} {ex : Expr} {sc : Scope} {pos : Pos} (TB : TabB X.base X.mg c tb) (hcode : X.env.code = .ref c) (hq : X.env.qual ++ "<lambda>" = lamQ) (L : LamS X.env.scope sc) (df : defaultsOf ar X.env = ([], [])) :
    PE X (.Lambda ar ex sc pos) (tLamK [(tb, lamQ)] (X.env.qual ++ "<lambda>") X.env.cells ar ex sc) :=
  pe_lamK (T := [(tb, lamQ)]) TB hcode (by rw [hq]; exact List.mem_cons_self) (fun p hp _ => by rw [hq, List.mem_singleton.mp hp]) L df
theorem pe_why {X : Cx} {g CR CN CL : Addr} {fd : FuncData} {k : Nat} {ls : List Lam} {te : TE} {y : Str} {p py pos : Pos} (F : FnP X.K "_law_why" sWhy g fd) (gW : X.mg "_law_why" = some (.ref g)) (T : Yw.Tw X.K X.mg CR CN CL) (hr : Room (k + 2) X.A) (gl : Gl X "_law_why")
    (hl : LamsG X k ls) (he : PE X (.Name y py) te) : PE X (.Call (.Name "_law_why" p) [.Name y py] [] pos) (tWhyK (X.env.qual ++ "<lambda>") X.env.cells (TWhy CR) ls te) := by
  obtain ⟨_, _, _, _, _, _, _, cdv, _, _, rfl, lk, hcd, _, _⟩ := F.ex
  exact pe_whyK (a := "_law_call") (Ng := wyN) gl gW F.kp lk hcd (F.bindsN fun _ _ _ _ _ _ us hl => match us, hl with | [_], _ => rfl) scWhy rfl (by exact Or.inl rfl) (why_gives T) hr hl he
theorem firm_extN {H H' : Hp} (s : ExtN H H') : Firm H H' := fun b o e f => s b o e fun ps z => by
  rw [z] at f
  cases f
theorem pen_extN {H H' : Hp} {p c : Addr} {m : Nat} (s : ExtN H H') (h : PenC H p c m) : PenC H' p c m := by
  obtain ⟨ns, a, d, n, f, h1, h2, r⟩ := h
  exact ⟨ns, a, d, n, f, s _ _ h1 (fun _ z => by cases z), s _ _ h2 (fun _ z => by cases z), r⟩
theorem pen_tbl {H : Hp} {p c b : Addr} {m : Nat} {ps : Array Value} (h : PenC H p c m) (e : H b = some (.tbl ps)) : b ≠ p := fun z => by
  obtain ⟨_, _, _, _, _, h1, _⟩ := h
  rw [z, h1] at e
  cases e
theorem tabs_but {T : List (Addr × Str)} {H H' : Hp} {p c : Addr} {m : Nat} (b : But p H H') (h : PenC H p c m) (t : Tabs T H) : Tabs T H' := fun q hq => by
  obtain ⟨ps, h1, h2, h3⟩ := t q hq
  refine ⟨ps, b _ _ h1 (pen_tbl h h1), h2, fun pos cv e => ?_⟩
  obtain ⟨c', e1, e2⟩ := h3 pos cv e
  refine ⟨c', e1, b _ _ e2 fun z => ?_⟩
  obtain ⟨_, _, _, _, _, k1, _⟩ := h
  rw [z, k1] at e2
  cases e2
/-! ### rows of ints, as objects and as data -/
def RowsAt (K : PySem.W.Frag) (H : Hp) (t : Addr) (R : List (List Int)) : Prop := ∃ tvs, SqT K H t tvs ∧ All2 (RwAt K H) tvs R
section
variable {K : PySem.W.Frag} {H H' : Hp}
theorem RowsAt.firm {t : Addr} {R : List (List Int)} (f : Firm H H') (h : RowsAt K H t R) : RowsAt K H' t R := by
  obtain ⟨tvs, s, a⟩ := h
  exact ⟨tvs, firm_seq f s, a.imp fun _ _ h => h.firm f⟩
theorem all2_map {α β : Type} {R : V → β → Prop} {f : α → β} : ∀ {vs : List V} {xs : List α}, All2 (fun v x => R v (f x)) vs xs → All2 R vs (xs.map f)
  | _, _, .nil => .nil
  | _, _, .cons h t => .cons h (all2_map t)
theorem all2_un {α β : Type} {R : V → β → Prop} {f : α → β} : ∀ {vs : List V} {xs : List α}, All2 R vs (xs.map f) → All2 (fun v x => R v (f x)) vs xs
  | _, [], h => by
    cases h
    exact .nil
  | _, _ :: _, h => by
    cases h with
    | cons a b => exact .cons a (all2_un b)
def rowD (r : List Int) : PyData := .tuple (r.map .int)
def rowsDat (R : List (List Int)) : PyData := .tuple (R.map rowD)
theorem ints_dp : ∀ r : List Int, DpAll K H (r.map V.int) (r.map .int)
  | [] => .nil
  | x :: r => .cons (.int x) (ints_dp r)
theorem rws_dp : ∀ {tvs : List V} {R : List (List Int)}, All2 (RwAt K H) tvs R → DpAll K H tvs (R.map rowD)
  | _, _, .nil => .nil
  | _, _, .cons h t => by
    obtain ⟨a, rfl, s⟩ := h
    exact .cons (.tup s (ints_dp _)) (rws_dp t)
theorem rows_dp {t : Addr} {R : List (List Int)} (h : RowsAt K H t R) : Dp K H (.ref t) (rowsDat R) := by
  obtain ⟨tvs, s, a⟩ := h
  exact .tup s (rws_dp a)
end
theorem ints_lay : ∀ r : List Int, PyData.canLayAll0 (r.map .int) = true ∧ PyData.depthAll (r.map .int) = 0
  | [] => ⟨rfl, rfl⟩
  | x :: r => by
    obtain ⟨a, b⟩ := ints_lay r
    exact ⟨by show (true && PyData.canLayAll0 (r.map .int)) = true; rw [a]; rfl, by show max 0 (PyData.depthAll (r.map .int)) = 0; rw [b]; rfl⟩
theorem rows_lay : ∀ R : List (List Int), PyData.canLayAll0 (R.map rowD) = true ∧ PyData.depthAll (R.map rowD) ≤ 1
  | [] => ⟨rfl, Nat.zero_le _⟩
  | r :: R => by
    obtain ⟨a, b⟩ := rows_lay R
    obtain ⟨c, d⟩ := ints_lay r
    refine ⟨by show (PyData.canLayAll0 (r.map .int) && PyData.canLayAll0 (R.map rowD)) = true; rw [a, c]; rfl, ?_⟩
    show max (PyData.depthAll (r.map .int) + 1) (PyData.depthAll (R.map rowD)) ≤ 1
    rw [d]
    omega
theorem rowsDat_sh (R : List (List Int)) : SeqAt.shaped (rowsDat R) = true := by
  obtain ⟨a, b⟩ := rows_lay R
  unfold SeqAt.shaped
  rw [Bool.and_eq_true]
  exact ⟨a, decide_eq_true (by show PyData.depthAll (R.map rowD) + 1 ≤ 64; omega)⟩
theorem rowsDat_eqv (R : List (List Int)) : PyData.eqv (rowsDat R) (rowsDat R) = true := SeqAt.eqv_refl _ (SeqAt.canLay_of_shaped (rowsDat_sh R))
/-! ### rows mixed of lists and tuples -/
theorem rowD_tr {k : Nat} (r : List Int) (l : r.length ≤ 400) : Tr (k + 1) (rowD r) := .tup (fun d hd => by
  obtain ⟨x, _, rfl⟩ := List.mem_map.mp hd
  exact .int _ x) (by rw [List.length_map]; exact l)
theorem rowsDat_tr {R : List (List Int)} (l : R.length ≤ 400) (h : ∀ r ∈ R, r.length ≤ 400) : Tr 2 (rowsDat R) := .tup (fun d hd => by
  obtain ⟨r, hr, rfl⟩ := List.mem_map.mp hd
  exact rowD_tr r (h r hr)) (by rw [List.length_map]; exact l)
theorem mix_ints : ∀ {r : List Int} {es : List PyData}, (r.map PyData.int).length = es.length → (∀ (i : Nat) (d e : PyData), (r.map PyData.int)[i]? = some d → es[i]? = some e → Mix d e) → es = r.map .int
  | [], [], _, _ => rfl
  | x :: r, e :: es, l, h => by
    have h0 := h 0 _ _ rfl rfl
    cases h0
    rw [List.map_cons, mix_ints (r := r) (Nat.succ.inj l) fun i d e hd he => h (i + 1) d e hd he]
theorem mix_row {r : List Int} {z : PyData} (h : Mix (rowD r) z) : isRowD z = true ∧ rowsD z = r.map .int := by
  cases h with
  | tup l k => exact ⟨rfl, mix_ints l k⟩
  | lst l k => exact ⟨rfl, mix_ints l k⟩
def isMx (z : PyData) (r : List Int) : Prop := isRowD z = true ∧ rowsD z = r.map .int
inductive AllM : List PyData → List (List Int) → Prop
  | nil : AllM [] []
  | cons {z : PyData} {zs : List PyData} {r : List Int} {R : List (List Int)} : isMx z r → AllM zs R → AllM (z :: zs) (r :: R)
theorem mix_all : ∀ {R : List (List Int)} {es : List PyData}, (R.map rowD).length = es.length → (∀ (i : Nat) (d e : PyData), (R.map rowD)[i]? = some d → es[i]? = some e → Mix d e) → AllM es R
  | [], [], _, _ => .nil
  | r :: R, e :: es, l, h => .cons (mix_row (h 0 _ _ rfl rfl)) (mix_all (Nat.succ.inj l) fun i d e hd he => h (i + 1) d e hd he)
theorem mix_rows {R : List (List Int)} {e : PyData} (h : Mix (rowsDat R) e) : isRowD e = true ∧ AllM (rowsD e) R := by
  cases h with
  | tup l k => exact ⟨rfl, mix_all l k⟩
  | lst l k => exact ⟨rfl, mix_all l k⟩
theorem AllM.len {zs : List PyData} {R : List (List Int)} (h : AllM zs R) : zs.length = R.length := by
  induction h with
  | nil => rfl
  | cons _ _ ih => exact congrArg Nat.succ ih
theorem AllM.mem {zs : List PyData} {R : List (List Int)} (h : AllM zs R) : ∀ z ∈ zs, ∃ r ∈ R, isMx z r := by
  induction h with
  | nil => exact fun _ h => by cases h
  | cons a _ ih =>
    intro z hz
    rcases List.mem_cons.mp hz with g | g
    · rw [g]
      exact ⟨_, List.mem_cons_self, a⟩
    · obtain ⟨r, hr, k⟩ := ih z g
      exact ⟨r, List.mem_cons_of_mem _ hr, k⟩
theorem mx_ints {z : PyData} {r : List Int} (h : isMx z r) : intsD z = r := by
  unfold intsD
  rw [h.2, List.map_map]
  exact List.map_id r
theorem all_mx {R' : V → List Int → Prop} {zs : List PyData} {R : List (List Int)} (h : AllM zs R) : ∀ {tvs : List V}, All2 (fun v z => R' v (intsD z)) tvs zs → All2 R' tvs R := by
  induction h with
  | nil =>
    intro tvs a
    cases a
    exact .nil
  | cons k _ ih =>
    intro tvs a
    cases a with
    | cons b c =>
      rw [mx_ints k] at b
      exact .cons b (ih c)
theorem in_zip {ws : List Nat} {r : List Int} (h : InW ws r) : (List.zip (r.map PyData.int) ws).all wordB = true := by
  induction h with
  | nil => rfl
  | @cons w x ws xs a b _ ih =>
    show (wordB (.int x, w) && (List.zip (xs.map PyData.int) ws).all wordB) = true
    rw [ih]
    show ((decide (0 ≤ x) && decide (x ≤ 2 ^ w - 1)) && true) = true
    rw [decide_eq_true a, decide_eq_true (by omega)]
    rfl
theorem mix_words {ws : List Nat} {R : List (List Int)} {e : PyData} (h : Mix (rowsDat R) e) (k : ∀ r ∈ R, InW ws r) : wrowsB e ws = true := by
  obtain ⟨a, b⟩ := mix_rows h
  unfold wrowsB
  rw [a, Bool.true_and, List.all_eq_true]
  intro z hz
  obtain ⟨r, hr, m1, m2⟩ := b.mem z hz
  have i := k r hr
  unfold wordsB
  rw [m1, m2, in_zip i, decide_eq_true (by rw [List.length_map, i.len])]
  rfl
theorem bits_all : ∀ {r : List Int}, (∀ y ∈ r, y = 0 ∨ y = 1) → (r.map PyData.int).all (fun e => betD e 0 1) = true
  | [], _ => rfl
  | x :: r, h => by
    show (betD (.int x) 0 1 && (r.map PyData.int).all fun e => betD e 0 1) = true
    rw [bits_all fun y hy => h y (List.mem_cons_of_mem _ hy)]
    rcases h x List.mem_cons_self with rfl | rfl <;> rfl
theorem mix_bits {n : Nat} {R : List (List Int)} {e : PyData} (h : Mix (rowsDat R) e) (k : ∀ r ∈ R, r.length = n ∧ ∀ y ∈ r, y = 0 ∨ y = 1) : brows e n = true := by
  obtain ⟨a, b⟩ := mix_rows h
  unfold brows
  rw [a, Bool.true_and, List.all_eq_true]
  intro z hz
  obtain ⟨r, hr, m1, m2⟩ := b.mem z hz
  obtain ⟨l, i⟩ := k r hr
  unfold rowB
  rw [m1, m2, bits_all i, decide_eq_true (by rw [List.length_map, l])]
  rfl
theorem mix_lens {R : List (List Int)} {e : PyData} (h : Mix (rowsDat R) e) (l : R.length ≤ 1000) (k : ∀ r ∈ R, r.length ≤ 1000) : (rowsD e).length ≤ 1000 ∧ ∀ z ∈ rowsD e, (rowsD z).length ≤ 1000 := by
  obtain ⟨a, b⟩ := mix_rows h
  refine ⟨by rw [b.len]; exact l, fun z hz => ?_⟩
  obtain ⟨r, hr, m1, m2⟩ := b.mem z hz
  rw [m2, List.length_map]
  exact k r hr
/-! ### a drawn row of words -/
theorem wds_row {ws : List V} {q : List (Str × Nat)} (h : All2 WdAt ws q) : ∃ r : List Int, ws = r.map V.int ∧ InW (q.map wdN) r := by
  induction h with
  | nil => exact ⟨[], rfl, .nil⟩
  | cons a _ ih =>
    obtain ⟨z, rfl, hz⟩ := a
    obtain ⟨r, rfl, i⟩ := ih
    exact ⟨(z : Int) :: r, rfl, .cons (Int.natCast_nonneg z) (by rw [← Xh.pow_cast]; exact Int.ofNat_lt.mpr hz) i⟩
/-! ### rows of triples -/
def tri : List Int → List Int → List Int → List Tri
  | a :: as, b :: bs, c :: cs => (a, b, c) :: tri as bs cs
  | _, _, _ => []
theorem tri_c {ws : List Nat} {a : List Int} (ha : InW ws a) : ∀ {b c : List Int}, InW ws b → InW ws c → c1 (tri a b c) = a ∧ c2 (tri a b c) = b ∧ c3 (tri a b c) = c ∧ (∀ p ∈ tri a b c, 0 ≤ p.1 ∧ 0 ≤ p.2.1 ∧ 0 ≤ p.2.2) := by
  induction ha with
  | nil =>
    intro b c hb hc
    cases hb
    cases hc
    exact ⟨rfl, rfl, rfl, fun _ h => by cases h⟩
  | @cons w x ws xs x0 x1 _ ih =>
    intro b c hb hc
    cases hb with
    | @cons _ y _ ys y0 y1 hb =>
    cases hc with
    | @cons _ z _ zs z0 z1 hc =>
    obtain ⟨e1, e2, e3, e4⟩ := ih hb hc
    refine ⟨congrArg (x :: ·) e1, congrArg (y :: ·) e2, congrArg (z :: ·) e3, fun p hp => ?_⟩
    rcases List.mem_cons.mp hp with g | g
    · rw [g]
      exact ⟨x0, y0, z0⟩
    · exact e4 p g
def tris : List (List Int) → List (List Int) → List (List Int) → List (List Tri)
  | a :: as, b :: bs, c :: cs => tri a b c :: tris as bs cs
  | _, _, _ => []
theorem tris_c {ws : List Nat} : ∀ {A B C : List (List Int)}, A.length = B.length → A.length = C.length → (∀ r ∈ A, InW ws r) → (∀ r ∈ B, InW ws r) → (∀ r ∈ C, InW ws r) →
    (tris A B C).map c1 = A ∧ (tris A B C).map c2 = B ∧ (tris A B C).map c3 = C ∧ ∀ r ∈ tris A B C, ∀ p ∈ r, 0 ≤ p.1 ∧ 0 ≤ p.2.1 ∧ 0 ≤ p.2.2
  | [], [], [], _, _, _, _, _ => ⟨rfl, rfl, rfl, fun _ h => by cases h⟩
  | a :: A, b :: B, c :: C, l1, l2, hA, hB, hC => by
    obtain ⟨e1, e2, e3, e4⟩ := tris_c (A := A) (B := B) (C := C) (Nat.succ.inj l1) (Nat.succ.inj l2) (fun r hr => hA r (List.mem_cons_of_mem _ hr)) (fun r hr => hB r (List.mem_cons_of_mem _ hr)) fun r hr => hC r (List.mem_cons_of_mem _ hr)
    obtain ⟨f1, f2, f3, f4⟩ := tri_c (hA a List.mem_cons_self) (hB b List.mem_cons_self) (hC c List.mem_cons_self)
    refine ⟨by show c1 (tri a b c) :: (tris A B C).map c1 = _; rw [e1, f1], by show c2 (tri a b c) :: (tris A B C).map c2 = _; rw [e2, f2], by show c3 (tri a b c) :: (tris A B C).map c3 = _; rw [e3, f3], fun r hr => ?_⟩
    rcases List.mem_cons.mp hr with g | g
    · rw [g]
      exact f4
    · exact e4 r g
theorem col_at {K : PySem.W.Frag} {H : Hp} {g : List Tri → List Int} {a : Addr} {R3 : List (List Tri)} (h : RowsAt K H a (R3.map g)) : ColAt K H g a R3 := by
  obtain ⟨tvs, s, x⟩ := h
  exact ⟨tvs, s, all2_un x⟩
theorem rows_get {K : PySem.W.Frag} {H : Hp} {t : Addr} {R3 : List (List Tri)} {g : List Tri → List Int} {i : Nat} {r : List Tri} (h : RowsAt K H t (R3.map g)) (hr : R3[i]? = some r) : ∃ tvs tr, SqT K H t tvs ∧ tvs[i]? = some (V.ref tr) ∧ SqT K H tr ((g r).map V.int) := by
  obtain ⟨tvs, s, a⟩ := h
  obtain ⟨v, hv, tr, rfl, k⟩ := (all2_un a).get' hr
  exact ⟨tvs, tr, s, hv, k⟩
theorem get_int {xs : List Int} {k : Nat} {z : Int} (h : xs[k]? = some z) : (xs.map V.int)[k]? = some (V.int z) := by
  rw [List.getElem?_map, h]
  rfl
theorem get_lt {xs : List Int} {k n : Nat} (h : xs.length = n) (l : k < n) : ∃ z, xs[k]? = some z := ⟨xs[k]'(by omega), List.getElem?_eq_getElem _⟩
/-! ### values that are no rows -/
def repD (k : Nat) (x : PyData) : PyData := .tuple [.tuple (List.replicate k x)]
def atomB (x : PyData) : Bool := x.showable && !x.hasDict && decide (x.depth = 0) && x.canLay0 && x.intsShort 13 && decide (x.weight ≤ 50) && noL x
theorem rep_all {x : PyData} (h : atomB x = true) : ∀ k : Nat, PyData.showableAll (List.replicate k x) = true ∧ PyData.hasDictAll (List.replicate k x) = false ∧ PyData.depthAll (List.replicate k x) = 0 ∧ PyData.canLayAll0 (List.replicate k x) = true ∧
    PyData.intsShortAll 13 (List.replicate k x) = true ∧ PyData.weightAll (List.replicate k x) ≤ 60 * k ∧ noLs (List.replicate k x) = true
  | 0 => ⟨rfl, rfl, rfl, rfl, rfl, Nat.zero_le _, rfl⟩
  | k + 1 => by
    obtain ⟨a, b, c, d, e, f, g⟩ := rep_all h k
    unfold atomB at h
    simp only [Bool.and_eq_true, Bool.not_eq_true', decide_eq_true_eq] at h
    obtain ⟨⟨⟨⟨⟨⟨h1, h2⟩, h3⟩, h4⟩, h5⟩, h6⟩, h7⟩ := h
    rw [List.replicate_succ]
    refine ⟨?_, ?_, ?_, ?_, ?_, ?_, ?_⟩
    · show (x.showable && PyData.showableAll (List.replicate k x)) = true
      rw [a, h1]
      rfl
    · show (x.hasDict || PyData.hasDictAll (List.replicate k x)) = false
      rw [b, h2]
      rfl
    · show max x.depth (PyData.depthAll (List.replicate k x)) = 0
      rw [c, h3]
      rfl
    · show (x.canLay0 && PyData.canLayAll0 (List.replicate k x)) = true
      rw [d, h4]
      rfl
    · show (x.intsShort 13 && PyData.intsShortAll 13 (List.replicate k x)) = true
      rw [e, h5]
      rfl
    · show x.weight + 1 + PyData.weightAll (List.replicate k x) ≤ 60 * (k + 1)
      omega
    · show (noL x && noLs (List.replicate k x)) = true
      rw [g, h7]
      rfl
/-- it may be shown -/
structure ShOk (d : PyData) : Prop where
  show_ : d.showable = true
  dict : d.hasDict = false
  deep : d.depth ≤ 60
  long : d.shown.length ≤ sizeLine
  flat : noL d = true
theorem rep_sh {x : PyData} (h : atomB x = true) {k : Nat} (hk : k ≤ 400) : ShOk (repD k x) := by
  obtain ⟨a, b, c, d, e, f, g⟩ := rep_all h k
  refine ⟨?_, ?_, ?_, PyData.shown_fits_of_layable0 (B := 13) (by decide) (by decide) ?_ ?_, ?_⟩
  · show (PyData.showableAll (List.replicate k x) && true) = true
    rw [a]
    rfl
  · show (PyData.hasDictAll (List.replicate k x) || false) = false
    rw [b]
    rfl
  · show max (PyData.depthAll (List.replicate k x) + 1) 0 + 1 ≤ 60
    rw [c]
    decide
  · show (((PyData.canLayAll0 (List.replicate k x) && true) && decide (max (PyData.depthAll (List.replicate k x) + 1) 0 + 1 ≤ 64)) && decide (PyData.weightAll (List.replicate k x) + 1 + 0 ≤ 2 ^ 20)) = true
    rw [c, d, decide_eq_true (p := PyData.weightAll (List.replicate k x) + 1 + 0 ≤ 2 ^ 20) (Nat.le_trans (by omega : _ ≤ 30000) (by decide))]
    rfl
  · show (PyData.intsShortAll 13 (List.replicate k x) && true) = true
    rw [e]
    rfl
  · show (noLs (List.replicate k x) && true) = true
    rw [g]
    rfl
theorem ShOk.rep {K : PySem.W.Frag} {H : Hp} {v : V} {d : PyData} {Q : VK} (s : ShOk d) (h : Dp K H v d) (q : Q (.str d.shown) H) : Gv.rReprV K [v] H Q := ⟨v, d, rfl, h, s.show_, s.dict, s.deep, s.long, q⟩
/-- no rows of n bits each -/
def BadB (K : PySem.W.Frag) (H : Hp) (n : Nat) (v : V) : Prop := ∃ d, Dp K H v d ∧ ShOk d ∧ (rowsD d).length ≤ 1000 ∧ (∀ e ∈ rowsD d, (rowsD e).length ≤ 1000) ∧ brows d n = false
/-- no rows of words of these widths -/
def BadW (K : PySem.W.Frag) (H : Hp) (ws : List Nat) (v : V) : Prop := ∃ d, Dp K H v d ∧ ShOk d ∧ (rowsD d).length ≤ 1000 ∧ wrowsB d ws = false
section
variable {K : PySem.W.Frag} {H H' : Hp}
theorem BadB.firm {n : Nat} {v : V} (f : Firm H H') (h : BadB K H n v) : BadB K H' n v := let ⟨d, a, b, c⟩ := h; ⟨d, dp_firm f b.flat a, b, c⟩
theorem BadW.firm {ws : List Nat} {v : V} (f : Firm H H') (h : BadW K H ws v) : BadW K H' ws v := let ⟨d, a, b, c⟩ := h; ⟨d, dp_firm f b.flat a, b, c⟩
theorem seven {α : Type} {a b c d e f g v : α} {i : Nat} (h : [a, b, c, d, e, f, g][i]? = some v) : v = a ∨ v = b ∨ v = c ∨ v = d ∨ v = e ∨ v = f ∨ v = g := by
  have m := List.mem_of_getElem? h
  simpa using m
theorem six {α : Type} {a b c d e f v : α} {i : Nat} (h : [a, b, c, d, e, f][i]? = some v) : v = a ∨ v = b ∨ v = c ∨ v = d ∨ v = e ∨ v = f := by
  have m := List.mem_of_getElem? h
  simpa using m
theorem tl {t : Addr} {xs : List V} {ds : List PyData} (e : H t = some (.tup xs)) (h : DpAll K H xs ds) : Dp K H (.ref t) (.tuple ds) := .tup (.inl (.inl e)) h
theorem reps_dp {x : V} {y : PyData} (h : Dp K H x y) : ∀ k : Nat, DpAll K H (List.replicate k x) (List.replicate k y)
  | 0 => .nil
  | k + 1 => .cons h (reps_dp h k)
theorem repD_dp {t u : Addr} {k : Nat} {x : V} {y : PyData} (h : Dp K H x y) (e : H u = some (.tup [.ref t])) (g : H t = some (.tup (List.replicate k x))) : Dp K H (.ref u) (repD k y) := tl e (.cons (tl g (reps_dp h k)) .nil)
theorem sh_non : ShOk .none := ⟨rfl, rfl, by decide, by decide +kernel, rfl⟩
theorem sh_five : ShOk (.int 5) := ⟨by decide +kernel, rfl, by decide, by decide +kernel, rfl⟩
theorem sh_ab : ShOk (.str "ab") := ⟨by decide +kernel, rfl, by decide, by decide +kernel, rfl⟩
theorem sh_non1 : ShOk (.tuple [.none]) := ⟨by decide +kernel, rfl, by decide +kernel, by decide +kernel, rfl⟩
theorem sh_emp1 : ShOk (.tuple [.tuple []]) := ⟨by decide +kernel, rfl, by decide +kernel, by decide +kernel, rfl⟩
theorem rep_lens {k : Nat} {x : PyData} (hk : k ≤ 400) : (rowsD (repD k x)).length ≤ 1000 ∧ ∀ e ∈ rowsD (repD k x), (rowsD e).length ≤ 1000 := by
  refine ⟨by show 1 ≤ 1000; decide, fun e he => ?_⟩
  rw [List.mem_singleton.mp (show e ∈ [PyData.tuple (List.replicate k x)] from he)]
  show (List.replicate k x).length ≤ 1000
  rw [List.length_replicate]
  omega
theorem rep_many {n : Nat} {x : PyData} : brows (repD (n + 1) x) n = false := by
  show (rowB (.tuple (List.replicate (n + 1) x)) n 0 1 && true) = false
  unfold rowB
  show ((decide (((List.replicate (n + 1) x).length : Int) = n) && _) && true) = false
  rw [decide_eq_false (by rw [List.length_replicate]; omega)]
  rfl
theorem rep_wrong {n : Nat} (hn : 1 ≤ n) {x : PyData} (h : betD x 0 1 = false) : brows (repD n x) n = false := by
  show (rowB (.tuple (List.replicate n x)) n 0 1 && true) = false
  unfold rowB
  show ((_ && (List.replicate n x).all fun e => betD e 0 1) && true) = false
  obtain ⟨k, rfl⟩ : ∃ k, n = k + 1 := ⟨n - 1, by omega⟩
  rw [List.replicate_succ, List.all_cons, h, Bool.false_and, Bool.and_false]
  rfl
theorem bad_pick {n : Nat} (hn : 1 ≤ n) (hk : n ≤ 320) {u1 u2 u3 u4 t1 t2 t3 : Addr} {v : V} {i : Nat} (h : [V.non, .int 5, .ref u1, .ref u2, .ref u3, .str "ab", .ref u4][i]? = some v) (e1 : H u1 = some (.tup [.ref t1])) (f1 : H t1 = some (.tup (List.replicate (n + 1) (.int 0))))
    (e2 : H u2 = some (.tup [.ref t2])) (f2 : H t2 = some (.tup (List.replicate n (.int 2)))) (e3 : H u3 = some (.tup [.ref t3])) (f3 : H t3 = some (.tup (List.replicate n (.bl true)))) (e4 : H u4 = some (.tup [.non])) : BadB K H n v := by
  rcases seven h with rfl | rfl | rfl | rfl | rfl | rfl | rfl
  · exact ⟨_, .non, sh_non, by decide, by decide, rfl⟩
  · exact ⟨_, .int _, sh_five, by decide, by decide, rfl⟩
  · obtain ⟨a, b⟩ := rep_lens (k := n + 1) (x := .int 0) (by omega)
    exact ⟨_, repD_dp (.int 0) e1 f1, rep_sh (by decide +kernel) (by omega), a, b, rep_many⟩
  · obtain ⟨a, b⟩ := rep_lens (k := n) (x := .int 2) (by omega)
    exact ⟨_, repD_dp (.int 2) e2 f2, rep_sh (by decide +kernel) (by omega), a, b, rep_wrong hn rfl⟩
  · obtain ⟨a, b⟩ := rep_lens (k := n) (x := .bool true) (by omega)
    exact ⟨_, repD_dp (.bl true) e3 f3, rep_sh (by decide +kernel) (by omega), a, b, rep_wrong hn rfl⟩
  · exact ⟨_, .str _, sh_ab, by decide, by decide, rfl⟩
  · exact ⟨_, tl e4 (.cons .non .nil), sh_non1, by decide, by decide, rfl⟩
theorem odd_pick {ws : List Nat} (hn : 1 ≤ ws.length) (hk : ws.length ≤ 320) {u1 u2 u3 t2 t3 : Addr} {v : V} {i : Nat} (h : [V.non, .int 5, .ref u1, .ref u2, .str "ab", .ref u3][i]? = some v) (e1 : H u1 = some (.tup [.non]))
    (e2 : H u2 = some (.tup [.ref t2])) (f2 : H t2 = some (.tup (List.replicate ws.length (.int (-1))))) (e3 : H u3 = some (.tup [.ref t3])) (f3 : H t3 = some (.tup [])) : BadW K H ws v := by
  obtain ⟨w, ws, rfl⟩ : ∃ w r, ws = w :: r := match ws, hn with | w :: r, _ => ⟨w, r, rfl⟩
  rcases six h with rfl | rfl | rfl | rfl | rfl | rfl
  · exact ⟨_, .non, sh_non, by decide, rfl⟩
  · exact ⟨_, .int _, sh_five, by decide, rfl⟩
  · exact ⟨_, tl e1 (.cons .non .nil), sh_non1, by decide, rfl⟩
  · refine ⟨_, repD_dp (.int (-1)) e2 f2, rep_sh (by decide +kernel) (by omega), (rep_lens (by omega)).1, ?_⟩
    show (wordsB (.tuple (List.replicate (ws.length + 1) (.int (-1)))) (w :: ws) && true) = false
    unfold wordsB
    show ((_ && (List.zip (List.replicate (ws.length + 1) (PyData.int (-1))) (w :: ws)).all wordB) && true) = false
    rw [List.replicate_succ, List.zip_cons_cons, List.all_cons]
    show ((_ && (false && _)) && true) = false
    rw [Bool.false_and, Bool.and_false]
    rfl
  · exact ⟨_, .str _, sh_ab, by decide, rfl⟩
  · refine ⟨_, tl e3 (.cons (tl f3 .nil) .nil), sh_emp1, by decide, ?_⟩
    show (wordsB (.tuple []) (w :: ws) && true) = false
    rfl
end
theorem flat_rep (k : Nat) (x : V) : (List.replicate k [x]).flatten = List.replicate k x := by
  induction k with
  | zero => rfl
  | succ k ih =>
    show [x] ++ (List.replicate k [x]).flatten = _
    rw [ih]
    rfl
theorem mulT_use {K : PySem.W.Frag} {H : Hp} {l : Addr} {k : Nat} {z : Int} {x : V} {Q : VK} (hz : z = (k : Int)) (h : H l = some (.tup [x])) (hk : k ≤ 1000) (q : ∀ t H', Same H H' → H' t = some (.tup (List.replicate k x)) → Q (.ref t) H') : Tm.rMulT K (.ref l) (.int z) H Q := by
  subst hz
  refine ⟨l, _, [x], rfl, rfl, SqT.of h, by simp, (by show 1 ≤ 1000; decide), ?_⟩
  match k, hk, q with
  | 0, _, q => exact .inl ⟨rfl, fun p np => q p _ (same_new np) upd_same⟩
  | 1, _, q => exact .inr (.inl ⟨rfl, q l H (fun _ _ e => e) h⟩)
  | k + 2, hk, q =>
    refine .inr (.inr ⟨by omega, by omega, fun p np => q p _ (same_new np) ?_⟩)
    rw [upd_same, show ((k + 2 : Nat) : Int).toNat = k + 2 from rfl, flat_rep]
/-! ### what stands in a lap -/
structure Fd (K : PySem.W.Frag) (H : Hp) (lim : Nat) (p c tb d : Addr) (ds : List V) (A : List Md) (m : Md) : Prop where
  pen : ∃ n, n ≤ lim ∧ PenC H p c n
  tab : Tabs [(tb, lamQ)] H
  des : DsAt K H d ds (A ++ [m])
section
variable {K : PySem.W.Frag} {H H' : Hp} {lim lim' n : Nat} {p c tb d : Addr} {ds : List V} {A : List Md} {m : Md}
theorem Fd.same (s : Same H H') (h : Fd K H lim p c tb d ds A m) : Fd K H' lim p c tb d ds A m := by
  obtain ⟨n, a, b⟩ := h.pen
  exact ⟨⟨n, a, b.same s⟩, h.tab.ext s, h.des.firm (Firm.of s)⟩
theorem Fd.ext (s : ExtN H H') (t : Tabs [(tb, lamQ)] H') (h : Fd K H lim p c tb d ds A m) : Fd K H' lim p c tb d ds A m := by
  obtain ⟨n, a, b⟩ := h.pen
  exact ⟨⟨n, a, pen_extN s b⟩, t, h.des.firm (firm_extN s)⟩
theorem Fd.firm (B : But p H H') (h : Fd K H lim p c tb d ds A m) : Firm H H' := by
  obtain ⟨n, a, b⟩ := h.pen
  exact Firm.pen B b
theorem Fd.to (B : But p H H') (P : PenC H' p c n) (l : n ≤ lim') (h : Fd K H lim p c tb d ds A m) : Fd K H' lim' p c tb d ds A m := by
  obtain ⟨n', a, b⟩ := h.pen
  exact ⟨⟨n, l, P⟩, tabs_but B b h.tab, h.des.firm (Firm.pen B b)⟩
theorem tabs_upd {T : List (Addr × Str)} {L : Addr} {xs : List V} {o : HO} (h : H L = some (.lst xs)) (t : Tabs T H) : Tabs T (upd H L o) := fun q hq => by
  obtain ⟨ps, h1, h2, h3⟩ := t q hq
  refine ⟨ps, (upd_ne (ne_of h1 h (by simp))).trans h1, h2, fun pos cv e => ?_⟩
  obtain ⟨c', e1, e2⟩ := h3 pos cv e
  exact ⟨c', e1, (upd_ne (ne_of e2 h (fun z => by unfold CodeO at z; cases z))).trans e2⟩
theorem Fd.lst {L : Addr} {xs ys : List V} (hL : H L = some (.lst xs)) (Lp : L ≠ p) (Lc : L ≠ c) (h : Fd K H lim p c tb d ds A m) : Fd K (upd H L (.lst ys)) lim p c tb d ds A m := by
  obtain ⟨n, a, b⟩ := h.pen
  exact ⟨⟨n, a, b.upd Lp Lc⟩, tabs_upd hL h.tab, h.des.firm (Firm.upd hL rfl)⟩
theorem Fd.apart {L : Addr} (nL : H L = none) (h : Fd K H lim p c tb d ds A m) : L ≠ p ∧ L ≠ c := by
  obtain ⟨n, a, b⟩ := h.pen
  exact b.free nL
end
end Xy
namespace Xy
open PySem PySem.Spec PyProof.Rows L2 LamX Pen Dat Ki Fi Ep Eq Es Ev Xm Xn Xd Xw Xg Xp Xq Zp Zp3 Ab Xr Xs Xt Xu Xv Xz Xo Xh Xa Wy Yw Ls Xe Yt Gd
section
variable {P : Program} {w : World} {K : PySem.W.Frag} {mg : Str → Option Value} {base : Heap} {f c tb CR CN CL fRI : Addr} {fd : FuncData}
theorem ok_law {g fWO fBO : Addr} {fdW dWO dBO : FuncData} (F : FnP K "law" sLaw f fd) (T : Xr.Ty mg) (XT : Xe.Te K mg CR CN CL fRI) (rep : mg "repr" = none) (TB : TabB base mg c tb) (hcv : ∀ cv, fd.code = cv → cv = .ref c)
    (FW : FnP K "_law_why" sWhy g fdW) (gW : mg "_law_why" = some (.ref g))
    (GWO : FnOk P w K mg base (L2.CX P w) 4 fWO dWO ["design", "rows"] (spWO K CR)) (gWO : mg "words_of" = some (.ref fWO)) (kWO : PySem.W.keepIn K (.ref fWO) = true) (bWO : Binds K dWO ["design", "rows"] [])
    (GBO : FnOk P w K mg base (L2.CX P w) 5 fBO dBO ["design", "rows"] (spBO K CR)) (gBO : mg "bits_of" = some (.ref fBO)) (kBO : PySem.W.keepIn K (.ref fBO) = true) (bBO : Binds K dBO ["design", "rows"] [])
    {fPN fWD fDR fPI fDI fBI fAL fFIL fPO : Addr} {dPN dWD dDR dPI dDI dBI dAL dFIL dPO : FuncData}
    (GPN : FnOk P w K mg base CX0 1 fPN dPN ["_law_script"] ((spPen K))) (gPN : mg "_law_pen" = some (.ref fPN)) (kPN : PySem.W.keepIn K (.ref fPN) = true) (bPN : Binds K dPN ["_law_script"] [])
    (GWD : FnOk P w K mg base CX0 7 fWD dWD ["_law_pen_here"] ((spWD K))) (gWD : mg "_law_wide_design" = some (.ref fWD)) (kWD : PySem.W.keepIn K (.ref fWD) = true) (bWD : Binds K dWD ["_law_pen_here"] [])
    (GDR : FnOk P w K mg base CX0 1 fDR dDR ["_law_pen_here", "_law_many"] (spDraw)) (gDR : mg "_law_draw" = some (.ref fDR)) (kDR : PySem.W.keepIn K (.ref fDR) = true) (bDR : Binds K dDR ["_law_pen_here", "_law_many"] [])
    (GPI : FnOk P w K mg base CX0 2 fPI dPI ["_law_pen_here", "_law_some"] ((spPick K))) (gPI : mg "_law_pick" = some (.ref fPI)) (kPI : PySem.W.keepIn K (.ref fPI) = true) (bPI : Binds K dPI ["_law_pen_here", "_law_some"] [])
    (GDI : FnOk P w K mg base CX0 3 fDI dDI ["_law_pen_here", "_law_design", "_law_name"] ((spDI K))) (gDI : mg "_law_drawn_inputs" = some (.ref fDI)) (kDI : PySem.W.keepIn K (.ref fDI) = true) (bDI : Binds K dDI ["_law_pen_here", "_law_design", "_law_name"] [])
    (GBI : FnOk P w K mg base CX0 3 fBI dBI ["_law_design", "_law_rows"] ((spBI K))) (gBI : mg "_law_bits" = some (.ref fBI)) (kBI : PySem.W.keepIn K (.ref fBI) = true) (bBI : Binds K dBI ["_law_design", "_law_rows"] [])
    (GAL : FnOk P w K mg base CX0 5 fAL dAL ["_law_pen_here", "_law_value"] ((spAL K 2))) (gAL : mg "_law_as_lists" = some (.ref fAL)) (kAL : PySem.W.keepIn K (.ref fAL) = true) (bAL : Binds K dAL ["_law_pen_here", "_law_value"] [])
    (GFIL : FnOk P w K mg base CX0 1 fFIL dFIL ["rows", "mask", "others"] ((spFIL K))) (gFIL : mg "filling" = some (.ref fFIL)) (kFIL : PySem.W.keepIn K (.ref fFIL) = true) (bFIL : Binds K dFIL ["rows", "mask", "others"] [])
    (GPO : FnOk P w K mg base CX0 2 fPO dPO ["_law_design", "_law_name"] ((spPO K))) (gPO : mg "_law_ports" = some (.ref fPO)) (kPO : PySem.W.keepIn K (.ref fPO) = true) (bPO : Binds K dPO ["_law_design", "_law_name"] [])
    : FnG P w K mg base CX0 8 f fd ["_law_script"] (spLaw K tb) := by
  refine mk_ofC F scLaw (fun vs H Q E h => ?_) (fun cdv A0 outer s H vs Q E hfc hg hr h => ?_)
  · obtain ⟨a, ns, rfl, _⟩ := h
    rfl
  · obtain ⟨a, ns, rfl, ha, hn, hT, q⟩ := h
    refine ⟨_, PSs.nox (pss_cons (ps_set (i := 1) scLaw.nd rfl (Or.inr rfl) (pe_call GPN (hr.mono (by decide)) (by rfl) gPN kPN bPN .nil pass0 (pa_cons (pv 0) pa_nil)))
      (pss_cons (ps_for PassesOwn.never rfl (pi_range1 (by rfl) T.range (pa_cons pe_int pa_nil)) (pg_name (i := 2) scLaw.nd rfl (Or.inl rfl))
        (pss_cons (ps_set (i := 3) scLaw.nd rfl (Or.inr rfl) (pe_call GWD (hr.mono (by decide)) (by rfl) gWD kWD bWD .nil pass0 (pa_cons (pv 1) pa_nil)))
        (pss_cons (ps_set (i := 4) scLaw.nd rfl (Or.inr rfl) (pe_ix (r := L2.rIxT K) (by exact ix_tup) (pe_ix (r := L2.rIxT K) (by exact ix_tup) (pv 3) (pe_un un_neg pe_int) (fun _ _ => rfl)) pe_int (fun _ _ => rfl)))
        (pss_cons (ps_set (i := 6) scLaw.nd rfl (Or.inl rfl) (pe_callTy (T := "tuple") (r := rTupOf K) (by exact call_tuple_of) (by rfl) T.ki.tuple (by decide +kernel) (pa_cons (pe_lc (own := [("_law_step", 5)]) (g := gName 5) (tt := tYes) rfl scLaw.nd (pi_range1 (by rfl) T.range (pa_cons (pe_call GDR (hr.mono (by decide)) (by rfl) gDR kDR bDR .nil pass0 (pa_cons (pv 1) (pa_cons pe_int pa_nil))) pa_nil)) (blkOk_by (N := nLaw) (sc := defScope sLaw) (by decide +kernel)) (fun _ _ _ _ _ => pg_name (i := 5) scLaw.nd rfl (Or.inl rfl)) (fun _ _ _ _ _ => pts_nil) (fun _ _ _ _ _ => (pe_call GDI (hr.mono (by decide)) (by rfl) gDI kDI bDI .nil pass0 (pa_cons (pv 1) (pa_cons (pv 3) (pa_cons (pv 4) pa_nil)))))) pa_nil)))
        (C8.pss_cut (ps_set (i := 7) scLaw.nd rfl (Or.inl rfl) (pe_call GBI (hr.mono (by decide)) (by rfl) gBI kBI bBI .nil pass0 (pa_cons (pv 3) (pa_cons (pv 6) pa_nil))))
        (C8.pss_cut (ps_if (PW.pt (pw_or (pt_cmpR (op_neD hr.units) (pe_call GBO (hr.mono (by decide)) (by rfl) gBO kBO bBO .nil passF (pa_cons (pv 3) (pa_cons (pe_call GAL (hr.mono (by decide)) (by rfl) gAL kAL bAL .nil pass0 (pa_cons (pv 1) (pa_cons (pv 6) pa_nil))) pa_nil))) (pv 7) (nomark _)) (pw_or1 (pt_cmpR (op_neD hr.units) (pe_call GWO (hr.mono (by decide)) (by rfl) gWO kWO bWO .nil passF (pa_cons (pv 3) (pa_cons (pe_call GAL (hr.mono (by decide)) (by rfl) gAL kAL bAL .nil pass0 (pa_cons (pv 1) (pa_cons (pv 7) pa_nil))) pa_nil))) (pv 6) (nomark _)))))
          (pss_one (ps_ret pe_bl))
          pss_nil)
        (pss_cons (ps_set (i := 9) scLaw.nd rfl (Or.inl rfl) (pe_callTy (T := "tuple") (r := rTupOf K) (by exact call_tuple_of) (by rfl) T.ki.tuple (by decide +kernel) (pa_cons (pe_lc (own := [("_law_row", 8)]) (g := gName 8) (tt := tYes) rfl scLaw.nd (pi_tup (pv 6)) (blkOk_by (N := nLaw) (sc := defScope sLaw) (by decide +kernel)) (fun _ _ _ _ _ => pg_name (i := 8) scLaw.nd rfl (Or.inl rfl)) (fun _ _ _ _ _ => pts_nil) (fun _ _ _ _ _ => (pe_call GDI (hr.mono (by decide)) (by rfl) gDI kDI bDI .nil pass0 (pa_cons (pv 1) (pa_cons (pv 3) (pa_cons (pv 4) pa_nil)))))) pa_nil)))
        (pss_cons (ps_set (i := 10) scLaw.nd rfl (Or.inl rfl) (pe_callTy (T := "tuple") (r := rTupOf K) (by exact call_tuple_of) (by rfl) T.ki.tuple (by decide +kernel) (pa_cons (pe_lc (own := [("_law_row", 8)]) (g := gName 8) (tt := tYes) rfl scLaw.nd (pi_tup (pv 6)) (blkOk_by (N := nLaw) (sc := defScope sLaw) (by decide +kernel)) (fun _ _ _ _ _ => pg_name (i := 8) scLaw.nd rfl (Or.inl rfl)) (fun _ _ _ _ _ => pts_nil) (fun _ _ _ _ _ => (pe_call GDI (hr.mono (by decide)) (by rfl) gDI kDI bDI .nil pass0 (pa_cons (pv 1) (pa_cons (pv 3) (pa_cons (pv 4) pa_nil)))))) pa_nil)))
        (pss_cons (ps_set (i := 11) scLaw.nd rfl (Or.inl rfl) (pe_call GFIL (hr.mono (by decide)) (by rfl) gFIL kFIL bFIL .nil pass0 (pa_cons (pv 6) (pa_cons (pv 10) (pa_cons (pv 9) pa_nil)))))
        (C8.pss_cut (ps_par3 (i := 12) (j := 13) (l := 14) rfl scLaw.nd rfl rfl rfl (by decide) (by decide) (by decide) rfl rfl rfl (pa_cons (pe_call GBI (hr.mono (by decide)) (by rfl) gBI kBI bBI .nil pass0 (pa_cons (pv 3) (pa_cons (pv 10) pa_nil))) (pa_cons (pe_call GBI (hr.mono (by decide)) (by rfl) gBI kBI bBI .nil pass0 (pa_cons (pv 3) (pa_cons (pv 9) pa_nil))) (pa_cons (pe_call GBI (hr.mono (by decide)) (by rfl) gBI kBI bBI .nil pass0 (pa_cons (pv 3) (pa_cons (pv 11) pa_nil))) pa_nil))) (by rfl))
        (pss_cons (ps_for PassesOwn.never rfl (pi_range1 (by rfl) T.range (pa_cons (pe_callB call_len_seq (by rfl) T.ki.len PySem.boot_len (pa_cons (pv 6) pa_nil)) pa_nil)) (pg_name (i := 5) scLaw.nd rfl (Or.inl rfl))
          (pss_one (ps_for PassesOwn.never rfl (pi_range1 (by rfl) T.range (pa_cons (pe_callB call_len_seq (by rfl) T.ki.len PySem.boot_len (pa_cons (pe_ix (r := L2.rIxT K) (by exact ix_tup) (pv 7) (pv 5) (fun _ _ => rfl)) pa_nil)) pa_nil)) (pg_name (i := 15) scLaw.nd rfl (Or.inl rfl))
            (pss_one (ps_if (pt_cmpR op_ne (pe_ix (r := L2.rIxT K) (by exact ix_tup) (pe_ix (r := L2.rIxT K) (by exact ix_tup) (pv 14) (pv 5) (fun _ _ => rfl)) (pv 15) (fun _ _ => rfl)) (pe_ifExp (pt_cmpR op_eq (pe_ix (r := L2.rIxT K) (by exact ix_tup) (pe_ix (r := L2.rIxT K) (by exact ix_tup) (pv 12) (pv 5) (fun _ _ => rfl)) (pv 15) (fun _ _ => rfl)) pe_int (nomark _)) (pe_ix (r := L2.rIxT K) (by exact ix_tup) (pe_ix (r := L2.rIxT K) (by exact ix_tup) (pv 7) (pv 5) (fun _ _ => rfl)) (pv 15) (fun _ _ => rfl)) (pe_ix (r := L2.rIxT K) (by exact ix_tup) (pe_ix (r := L2.rIxT K) (by exact ix_tup) (pv 13) (pv 5) (fun _ _ => rfl)) (pv 15) (fun _ _ => rfl))) (nomark _))
              (pss_one (ps_ret pe_bl))
              pss_nil)))))
        (C8.pss_cut (ps_if (pt_cmpR op_ne (pe_callB call_len_seq (by rfl) T.ki.len PySem.boot_len (pa_cons (pv 11) pa_nil)) (pe_callB call_len_seq (by rfl) T.ki.len PySem.boot_len (pa_cons (pv 6) pa_nil)) (nomark _))
          (pss_one (ps_ret pe_bl))
          pss_nil)
        (pss_cons (ps_set (i := 17) scLaw.nd rfl (Or.inl rfl) (pe_callB (cr_sum rfl) (by rfl) T.sum (by decide +kernel) (pa_cons (pe_lc (own := [("_law_item", 16)]) (g := gName 16) (tt := tYes) rfl scLaw.nd (pi_list (pe_call GPO (hr.mono (by decide)) (by rfl) gPO kPO bPO .nil pass0 (pa_cons (pv 3) (pa_cons (pv 4) pa_nil)))) (blkOk_by (N := nLaw) (sc := defScope sLaw) (by decide +kernel)) (fun _ _ _ _ _ => pg_name (i := 16) scLaw.nd rfl (Or.inl rfl)) (fun _ _ _ _ _ => pts_nil) (fun _ _ _ _ _ => (pe_ix (r := L2.rIxT K) (by exact ix_tup) (pv 16) pe_int (fun _ _ => rfl)))) pa_nil)))
        (pss_cons (ps_set (i := 18) scLaw.nd rfl (Or.inr rfl) (pe_call GPI (hr.mono (by decide)) (by rfl) gPI kPI bPI .nil pass0 (pa_cons (pv 1) (pa_cons (pe_lst (pa_cons pe_non (pa_cons pe_int (pa_cons (pe_tup (pa_cons (pe_op Tm.op_mulT (pe_tup (pa_cons pe_int pa_nil)) (pe_op op_add (pv 17) pe_int)) pa_nil)) (pa_cons (pe_tup (pa_cons (pe_op Tm.op_mulT (pe_tup (pa_cons pe_int pa_nil)) (pv 17)) pa_nil)) (pa_cons (pe_tup (pa_cons (pe_op Tm.op_mulT (pe_tup (pa_cons pe_bl pa_nil)) (pv 17)) pa_nil)) (pa_cons pe_str (pa_cons (pe_tup (pa_cons pe_non pa_nil)) pa_nil)))))))) pa_nil))))
        (C8.pss_cut (ps_set (i := 19) scLaw.nd rfl (Or.inr rfl) (pe_call GPI (hr.mono (by decide)) (by rfl) gPI kPI bPI .nil pass0 (pa_cons (pv 1) (pa_cons (pe_lst (pa_cons pe_non (pa_cons pe_int (pa_cons (pe_tup (pa_cons pe_non pa_nil)) (pa_cons (pe_tup (pa_cons (pe_op Tm.op_mulT (pe_tup (pa_cons (pe_un un_neg pe_int) pa_nil)) (pe_callB call_len_seq (by rfl) T.ki.len PySem.boot_len (pa_cons (pe_call GPO (hr.mono (by decide)) (by rfl) gPO kPO bPO .nil pass0 (pa_cons (pv 3) (pa_cons (pv 4) pa_nil))) pa_nil))) pa_nil)) (pa_cons pe_str (pa_cons (pe_tup (pa_cons (pe_tup pa_nil) pa_nil)) pa_nil))))))) pa_nil))))
        (pss_cons (ps_set (i := 20) scLaw.nd rfl (Or.inl rfl) (pe_lst (pa_cons (pe_tup (pa_cons (pe_lam TB (hcv cdv hfc) rfl (lamS_by (sc := defScope sLaw) (by decide +kernel)) (by rfl)) (pa_cons (pv 18) pa_nil))) pa_nil)))
        (pss_cons (ps_expr (pe_bm PySem.F.plainAttrs_list PySem.F.slot_list_append PySem.F.type_list_append mt_append (pv 20) (pa_cons (pe_tup (pa_cons (pe_lam TB (hcv cdv hfc) rfl (lamS_by (sc := defScope sLaw) (by decide +kernel)) (by rfl)) (pa_cons (pv 19) pa_nil))) pa_nil)))
        (pss_one (ps_for PassesOwn.never rfl (pi_list (pv 20)) (pg_tup rfl (pgs_cons (pg_name (i := 21) scLaw.nd rfl (Or.inl rfl)) (pgs_cons (pg_name (i := 22) scLaw.nd rfl (Or.inl rfl)) pgs_nil)))
          (pss_cons (ps_set (i := 23) scLaw.nd rfl (Or.inl rfl) (pe_why FW gW XT.why (k := 5) (hr.mono (by decide)) (by rfl) (.cons (l := ⟨lamA lam0, lamE lam0, lamC lam0, _⟩) ⟨lamS_by (sc := defScope sLaw) (scope := lamC lam0) (by decide +kernel), (by intros; rfl), fun A outer s H E f c2 hr2 => pe_call GWO (hr2.mono (by decide)) (by rfl) gWO kWO bWO .nil (passes_call (takes_of rfl rfl rfl rfl) fun _ _ _ _ h => h) (pa_cons (pv 3) (pa_cons (pv 18) pa_nil))⟩ (.cons (l := ⟨lamA lam1, lamE lam1, lamC lam1, _⟩) ⟨lamS_by (sc := defScope sLaw) (scope := lamC lam1) (by decide +kernel), (by intros; rfl), fun A outer s H E f c2 hr2 => pe_call GBO (hr2.mono (by decide)) (by rfl) gBO kBO bBO .nil (passes_call (takes_of rfl rfl rfl rfl) fun _ _ _ _ h => h) (pa_cons (pv 3) (pa_cons (pv 19) pa_nil))⟩ .nil)) (pv 21)))
          (pss_one (ps_if (PW.pt (pw_or (pt_cmpR op_ne (pe_ix (r := L2.rIxT K) (by exact ix_tup) (pv 23) pe_int (fun _ _ => rfl)) pe_str (nomark _)) (pw_or1 (pt_cmpR op_ne (pe_callB (Gv.call_reprV hg hr) (by rfl) rep (by decide +kernel) (pa_cons (pe_ix (r := L2.rIxT K) (by exact ix_tup) (pv 23) pe_int (fun _ _ => rfl)) pa_nil)) (pe_callB (Gv.call_reprV hg hr) (by rfl) rep (by decide +kernel) (pa_cons (pv 22) pa_nil)) (nomark _)))))
            (pss_one (ps_ret pe_bl))
            pss_nil))))))))))))))))))))))
      (pss_one (ps_ret pe_bl)))), ?_⟩
    refine ⟨_, rfl, a, ns, rfl, ha, hn, fun p c0 H1 np s1 hp1 => ?_⟩
    have T1 : Tabs [(tb, lamQ)] H1 := fun z hz => by
      rw [List.mem_singleton.mp hz]
      exact TabS.nil (s1 _ _ hT)
    refine ⟨3, rfl, by decide, by decide, for_range (lo := 0) (n := 3)
      (fun i σ H2 => ∃ x2 x3 x4 x5 x6 x7 x9 x10 x11 x12 x13 x14 x15 x17 x18 x19 x20 x21 x22 x23 : Option V, σ = [some (.ref a), some (.ref p), x2, x3, x4, x5, x6, x7, none, x9, x10, x11, x12, x13, x14, x15, none, x17, x18, x19, x20, x21, x22, x23] ∧ Tabs [(tb, lamQ)] H2 ∧ ∃ m, m ≤ 50000 * i ∧ PenC H2 p c0 m)
      ⟨none, none, none, none, none, none, none, none, none, none, none, none, none, none, none, none, none, none, none, none, rfl, T1, 0, Nat.zero_le _, hp1⟩ ?_ ?_⟩
    · rintro lap σ H2 hlap ⟨x2, x3, x4, x5, x6, x7, x9, x10, x11, x12, x13, x14, x15, x17, x18, x19, x20, x21, x22, x23, rfl, T2, m0, hm0, P2⟩
      refine ⟨_, rfl, p, c0, m0, rfl, P2, by omega, fun H3 d ds A1 P3 B3 hd3 a3 l1 l3 ok3 => ?_⟩
      obtain ⟨A, m, rfl⟩ : ∃ A m, A1 = A ++ [m] := by
        rcases List.eq_nil_or_concat A1 with z | ⟨A, m, z⟩
        · rw [z] at l1
          cases l1
        · exact ⟨A, m, by rw [z, List.concat_eq_append]⟩
      have D3 : DsAt K H3 d ds (A ++ [m]) := ⟨SqT.of hd3, a3, l1, l3, ok3⟩
      have mok := ok3.ok m (by simp)
      obtain ⟨wo, wl, wsum, w1⟩ := wds_ok mok
      obtain ⟨v, hv, dv⟩ := at_back a3 (j := A.length) (x := m) (by simp)
      obtain ⟨tm, ti, ixs, rfl, htm, hti, hix⟩ := md_at dv
      have dl := a3.len
      have dse : ds = ds.take A.length ++ [.ref tm] := by
        have := Xw.tk hv
        rw [List.take_of_length_le (by rw [dl, List.length_append]; exact Nat.le_refl _)] at this
        exact this
      have lst : atI ds (-1) = some (.ref tm) := by
        rw [dse]
        exact at_last
      refine ⟨_, rfl, 1, rfl, d, ds, -1, _, rfl, rfl, D3.seq, lst, tm, _, 1, _, rfl, rfl, htm, at_of (j := 1) rfl rfl, ?_⟩
      refine ⟨_, rfl, p, c0, _, 6, rfl, P3, by omega, by decide, by decide, fun many H4 n0 n6 P4 B4 => ⟨many, rfl, by omega, by omega, fun D nD => ?_⟩⟩
      have D4 : DsAt K H4 d ds (A ++ [m]) := D3.firm (Firm.pen B4 P3)
      have T4 := tabs_but B4 P3 (tabs_but B3 P2 T2)
      obtain ⟨Dp1, Dc1⟩ := P4.free nD
      refine lc_range (lo := 0) (n := many.toNat) (fun i H' => PenC H' p c0 (m0 + 30001 + 41 * i) ∧ But p H4 H' ∧ ∃ (us : List V) (R : List (List Int)), H' D = some (.lst us) ∧ All2 (RwAt K H') us R ∧ (∀ r ∈ R, InW (wdsOf m) r) ∧ R.length = i)
        ⟨(P4.same (same_new nD)).more (by omega), But.of_same (same_new nD), [], [], upd_same, .nil, (fun _ h => by cases h), rfl⟩ ?_ ?_
      · rintro i H5 hi ⟨P5, B5, us, R, h5, a5, w5, l5⟩
        have D5 := D4.firm (Firm.pen B5 P4)
        refine ⟨rfl, yes_of ⟨_, rfl, _, rfl, _, rfl, p, c0, d, _, ds, A ++ [m], A.length, m, rfl, P5, by omega, D5, by simp, fun H6 t ws P6 B6 ht aw => ?_⟩⟩
        obtain ⟨r, rfl, ir⟩ := wds_row aw
        have h6 := B6 _ _ h5 Dp1
        have fu := Firm.upd (o := .lst (us ++ [.ref t])) h6 rfl
        refine ⟨us, h6, ?_, (P6.upd Dp1 Dc1).more (by omega), fun b o e nb => ?_, us ++ [.ref t], R ++ [r], upd_same, (a5.imp fun _ _ h => h.firm ((Firm.pen B6 P5).trans fu)).append (.cons ⟨t, rfl, firm_seq fu ht⟩ .nil), fun z hz => ?_, by rw [List.length_append, l5]; rfl⟩
        · rw [a5.len, l5]
          exact Nat.lt_of_lt_of_le (by omega : i < 100) (by decide)
        · rw [upd_ne (ne_of_none e nD)]
          exact B6 _ _ (B5 _ _ e nb) nb
        · rcases List.mem_append.mp hz with g | g
          · exact w5 z g
          · rw [List.mem_singleton.mp g]
            exact ir
      rintro H5 ⟨P5, B5, us, R, h5, a5, w5, l5⟩
      refine ⟨D, us, rfl, .inl ⟨SqL.of h5, fun ta nta => ?_⟩⟩
      have s6 := same_new (u := .tup us) nta
      have R6 : RowsAt K (upd H5 ta (.tup us)) ta R := ⟨us, SqT.of upd_same, a5.imp fun _ _ h => h.firm (Firm.of s6)⟩
      have F6 : Fd K (upd H5 ta (.tup us)) (m0 + 40000) p c0 tb d ds A m := Fd.same s6 ⟨⟨_, by omega, P5⟩, tabs_but B5 P4 T4, D4.firm (Firm.pen B5 P4)⟩
      have rl : R.length ≤ 5 := by omega
      have lw : (wdsOf m).length = (insOf m.items).length := by
        unfold wdsOf
        rw [List.length_map]
      generalize upd H5 ta (.tup us) = H6 at R6 F6 ⊢
      clear P2 T2 P3 B3 hd3 a3 D3 htm hti hix P4 B4 D4 T4 Dp1 Dc1 P5 B5 h5 a5 s6
      refine ⟨fun σ H' => ∃ (tb2 : Addr) (x2 x5 x9 x10 x11 x12 x13 x14 x15 x17 x18 x19 x20 x21 x22 x23 : Option V), σ = [some (.ref a), some (.ref p), x2, some (.ref d), some (.str m.name), x5, some (.ref ta), some (.ref tb2), none, x9, x10, x11, x12, x13, x14, x15, none, x17, x18, x19, x20, x21, x22, x23] ∧
        Fd K H' (m0 + 40000) p c0 tb d ds A m ∧ RowsAt K H' ta R ∧ RowsAt K H' tb2 (R.map (bitsOf (wdsOf m))), ?_, ?_⟩
      · obtain ⟨us, hus, aus⟩ := id R6
        refine ⟨_, rfl, _, rfl, d, ta, ds, us, A, m, R, rfl, F6.des, hus, aus, by omega, fun r hr => by rw [← lw, (w5 r hr).len], fun H7 t tvs s7 ht a7 => ?_⟩
        exact ⟨t, _, _, _, _, _, _, _, _, _, _, _, _, _, _, _, _, rfl, F6.same s7, R6.firm (Firm.of s7), tvs, ht, all2_map a7⟩
      clear F6 R6
      rintro σ H7 ⟨tb2, x2, x5, x9, x10, x11, x12, x13, x14, x15, x17, x18, x19, x20, x21, x22, x23, rfl, F7, R7, S7⟩
      have bl : ∀ r ∈ R.map (bitsOf (wdsOf m)), r.length = (wdsOf m).sum ∧ ∀ y ∈ r, y = 0 ∨ y = 1 := fun z hz => by
        obtain ⟨r, hr, rfl⟩ := List.mem_map.mp hz
        exact ⟨bits_len _ _ (w5 r hr).len, bitsOf01 _ _⟩
      have wback : (R.map (bitsOf (wdsOf m))).map (wordsOf (wdsOf m)) = R := by
        rw [List.map_map]
        have : ∀ r ∈ R, (wordsOf (wdsOf m) ∘ bitsOf (wdsOf m)) r = id r := fun r hr => words_back (w5 r hr)
        rw [List.map_congr_left this, List.map_id]
      have r1000 : ∀ r ∈ R, r.length ≤ 400 := fun r hr => by
        have := (w5 r hr).len
        omega
      refine ⟨fun σ H' => ∃ (x2 x5 x9 x10 x11 x12 x13 x14 x15 x17 x18 x19 x20 x21 x22 x23 : Option V), σ = [some (.ref a), some (.ref p), x2, some (.ref d), some (.str m.name), x5, some (.ref ta), some (.ref tb2), none, x9, x10, x11, x12, x13, x14, x15, none, x17, x18, x19, x20, x21, x22, x23] ∧
        Fd K H' (m0 + 41000) p c0 tb d ds A m ∧ RowsAt K H' ta R ∧ RowsAt K H' tb2 (R.map (bitsOf (wdsOf m))), ?_, ?_⟩
      · obtain ⟨n7, l7, P7⟩ := F7.pen
        refine ⟨_, rfl, _, rfl, _, rfl, p, c0, n7, .ref ta, rowsDat R, rfl, P7, by show n7 + 401 ≤ 100000000; omega, rows_dp R7, rowsDat_tr (by omega) r1000, fun H8 v' e P8 B8 dv mx => ?_⟩
        have F8 := F7.to B8 P8 (by show n7 + 401 ≤ m0 + 40401; omega : _ ≤ m0 + 40401)
        have f8 := F7.firm B8
        have R8 := R7.firm f8
        have S8 := S7.firm f8
        obtain ⟨z1, z2⟩ := mix_lens mx (by omega) fun r hr => Nat.le_trans (r1000 r hr) (by decide)
        refine ⟨d, ds, A, m, v', e, rfl, F8.des, dp_same fresh_sub dv, z1, .inl ⟨mix_words mx w5, fun H9 t tvs s9 ht a9 => ?_⟩⟩
        have B9 : RowsAt K H9 t (R.map (bitsOf (wdsOf m))) := ⟨tvs, ht, all2_map (all_mx (R' := fun v r => RwAt K H9 v (bitsOf (wdsOf m) r)) (mix_rows mx).2 a9)⟩
        have F9 := F8.same s9
        have S9 := S8.firm (Firm.of s9)
        have R9 := R8.firm (Firm.of s9)
        refine ⟨_, rfl, _, _, rows_dp B9, rows_dp S9, rowsDat_sh _, rowsDat_sh _, _, rfl, goF (by rw [rowsDat_eqv]; rfl) ?_⟩
        obtain ⟨n9, l9, P9⟩ := F9.pen
        refine ⟨_, rfl, _, rfl, _, rfl, p, c0, n9, .ref tb2, rowsDat (R.map (bitsOf (wdsOf m))), rfl, P9, by show n9 + 401 ≤ 100000000; omega, rows_dp S9, rowsDat_tr (by rw [List.length_map]; omega) (fun r hr => by rw [(bl r hr).1]; omega), fun H10 v2 e2 P10 B10 dv2 mx2 => ?_⟩
        have F10 := F9.to B10 P10 (by show n9 + 401 ≤ m0 + 41000; omega : _ ≤ m0 + 41000)
        have f10 := F9.firm B10
        have R10 := R9.firm f10
        have S10 := S9.firm f10
        obtain ⟨z3, z4⟩ := mix_lens mx2 (by rw [List.length_map]; omega) fun r hr => by rw [(bl r hr).1]; omega
        refine ⟨d, ds, A, m, v2, e2, rfl, F10.des, dp_same fresh_sub dv2, z3, z4, .inl ⟨mix_bits mx2 bl, fun H11 t2 tvs2 s11 ht2 a11 => ?_⟩⟩
        have B11 : RowsAt K H11 t2 ((R.map (bitsOf (wdsOf m))).map (wordsOf (wdsOf m))) := ⟨tvs2, ht2, all2_map (all_mx (R' := fun v r => RwAt K H11 v (wordsOf (wdsOf m) r)) (mix_rows mx2).2 a11)⟩
        rw [wback] at B11
        refine ⟨_, rfl, _, _, rows_dp B11, rows_dp (R10.firm (Firm.of s11)), rowsDat_sh _, rowsDat_sh _, _, rfl, goF (by rw [rowsDat_eqv]; rfl) ?_⟩
        exact ⟨_, _, _, _, _, _, _, _, _, _, _, _, _, _, _, _, rfl, F10.same s11, R10.firm (Firm.of s11), S10.firm (Firm.of s11)⟩
      clear F7 R7 S7
      rintro σ H8 ⟨x2, x5, x9, x10, x11, x12, x13, x14, x15, x17, x18, x19, x20, x21, x22, x23, rfl, F8, R8, S8⟩
      obtain ⟨rvs, hrv, arv⟩ := id R8
      obtain ⟨n8, l8, P8⟩ := F8.pen
      refine ⟨_, rfl, ta, rfl, ⟨_, hrv⟩, fun D nD => ?_⟩
      obtain ⟨Dp1, Dc1⟩ := P8.free nD
      have rvl : rvs.length = R.length := arv.len
      refine lc_tup (K := K) (a := ta) (xs := rvs) (fun i H' => PenC H' p c0 (n8 + 41 * i) ∧ But p H8 H' ∧ ∃ (us : List V) (R : List (List Int)), H' D = some (.lst us) ∧ All2 (RwAt K H') us R ∧ (∀ r ∈ R, InW (wdsOf m) r) ∧ R.length = i)
        ⟨(P8.same (same_new nD)).more (by omega), But.of_same (same_new nD), [], [], upd_same, .nil, (fun _ h => by cases h), rfl⟩ (fun i H' _ ⟨_, B, _⟩ => firm_seq (Firm.pen B P8) hrv) ?_ ?_
      · rintro i y H5 hi ⟨P5, B5, us, R, h5, a5, w5, l5⟩
        have il := (List.getElem?_eq_some_iff.mp hi).1
        refine ⟨rfl, yes_of ⟨_, rfl, _, rfl, _, rfl, p, c0, d, _, ds, A ++ [m], A.length, m, rfl, P5, by omega, F8.des.firm (Firm.pen B5 P8), by simp, fun H6 t ws P6 B6 ht aw => ?_⟩⟩
        obtain ⟨r, rfl, ir⟩ := wds_row aw
        have h6 := B6 _ _ h5 Dp1
        have fu := Firm.upd (o := .lst (us ++ [.ref t])) h6 rfl
        refine ⟨us, h6, ?_, (P6.upd Dp1 Dc1).more (by omega), fun b o e nb => ?_, us ++ [.ref t], R ++ [r], upd_same, (a5.imp fun _ _ h => h.firm ((Firm.pen B6 P5).trans fu)).append (.cons ⟨t, rfl, firm_seq fu ht⟩ .nil), fun z hz => ?_, by rw [List.length_append, l5]; rfl⟩
        · rw [a5.len, l5]
          exact Nat.lt_of_lt_of_le (by omega : i < 100) (by decide)
        · rw [upd_ne (ne_of_none e nD)]
          exact B6 _ _ (B5 _ _ e nb) nb
        · rcases List.mem_append.mp hz with g | g
          · exact w5 z g
          · rw [List.mem_singleton.mp g]
            exact ir
      rintro H5 ⟨P5, B5, us, O, h5, a5, wO, lO⟩
      refine ⟨D, us, rfl, .inl ⟨SqL.of h5, fun to nta => ?_⟩⟩
      have s6 := same_new (u := .tup us) nta
      have O9 : RowsAt K (upd H5 to (.tup us)) to O := ⟨us, SqT.of upd_same, a5.imp fun _ _ h => h.firm (Firm.of s6)⟩
      have F9 : Fd K (upd H5 to (.tup us)) (m0 + 42000) p c0 tb d ds A m := (F8.to B5 P5 (by omega)).same s6
      have f9 := (F8.firm B5).trans (Firm.of s6)
      have R9 := R8.firm f9
      have S9 := S8.firm f9
      rw [rvl] at lO
      generalize upd H5 to (.tup us) = H9 at O9 F9 R9 S9 ⊢
      clear F8 R8 S8 P8 hrv arv P5 B5 h5 a5 s6 f9 nD Dp1 Dc1 rvl
      obtain ⟨rvs, hrv, arv⟩ := id R9
      obtain ⟨n9, l9, P9⟩ := F9.pen
      refine ⟨_, rfl, ta, rfl, ⟨_, hrv⟩, fun D nD => ?_⟩
      obtain ⟨Dp1, Dc1⟩ := P9.free nD
      have rvl : rvs.length = R.length := arv.len
      refine lc_tup (K := K) (a := ta) (xs := rvs) (fun i H' => PenC H' p c0 (n9 + 41 * i) ∧ But p H9 H' ∧ ∃ (us : List V) (R : List (List Int)), H' D = some (.lst us) ∧ All2 (RwAt K H') us R ∧ (∀ r ∈ R, InW (wdsOf m) r) ∧ R.length = i)
        ⟨(P9.same (same_new nD)).more (by omega), But.of_same (same_new nD), [], [], upd_same, .nil, (fun _ h => by cases h), rfl⟩ (fun i H' _ ⟨_, B, _⟩ => firm_seq (Firm.pen B P9) hrv) ?_ ?_
      · rintro i y H5 hi ⟨P5, B5, us, R, h5, a5, w5, l5⟩
        have il := (List.getElem?_eq_some_iff.mp hi).1
        refine ⟨rfl, yes_of ⟨_, rfl, _, rfl, _, rfl, p, c0, d, _, ds, A ++ [m], A.length, m, rfl, P5, by omega, F9.des.firm (Firm.pen B5 P9), by simp, fun H6 t ws P6 B6 ht aw => ?_⟩⟩
        obtain ⟨r, rfl, ir⟩ := wds_row aw
        have h6 := B6 _ _ h5 Dp1
        have fu := Firm.upd (o := .lst (us ++ [.ref t])) h6 rfl
        refine ⟨us, h6, ?_, (P6.upd Dp1 Dc1).more (by omega), fun b o e nb => ?_, us ++ [.ref t], R ++ [r], upd_same, (a5.imp fun _ _ h => h.firm ((Firm.pen B6 P5).trans fu)).append (.cons ⟨t, rfl, firm_seq fu ht⟩ .nil), fun z hz => ?_, by rw [List.length_append, l5]; rfl⟩
        · rw [a5.len, l5]
          exact Nat.lt_of_lt_of_le (by omega : i < 100) (by decide)
        · rw [upd_ne (ne_of_none e nD)]
          exact B6 _ _ (B5 _ _ e nb) nb
        · rcases List.mem_append.mp hz with g | g
          · exact w5 z g
          · rw [List.mem_singleton.mp g]
            exact ir
      rintro H5 ⟨P5, B5, us, M, h5, a5, wM, lM⟩
      refine ⟨D, us, rfl, .inl ⟨SqL.of h5, fun tk nta => ?_⟩⟩
      have s6 := same_new (u := .tup us) nta
      have M10 : RowsAt K (upd H5 tk (.tup us)) tk M := ⟨us, SqT.of upd_same, a5.imp fun _ _ h => h.firm (Firm.of s6)⟩
      have F10 : Fd K (upd H5 tk (.tup us)) (m0 + 43000) p c0 tb d ds A m := (F9.to B5 P5 (by omega)).same s6
      have f10 := (F9.firm B5).trans (Firm.of s6)
      have R10 := R9.firm f10
      have S10 := S9.firm f10
      have O10 := O9.firm f10
      rw [rvl] at lM
      generalize upd H5 tk (.tup us) = H10 at O10 M10 F10 R10 S10 ⊢
      clear F9 R9 S9 O9 P9 hrv arv P5 B5 h5 a5 s6 f10 nD Dp1 Dc1 rvl
      obtain ⟨e1, e2, e3, e4⟩ := tris_c (A := R) (B := M) (C := O) lM.symm lO.symm w5 wM wO
      have r3l : (tris R M O).length = R.length := by
        have := congrArg List.length e1
        rwa [List.length_map] at this
      have c1l : ∀ r ∈ tris R M O, r.length = (wdsOf m).length := fun r hr => by
        have h : c1 r ∈ R := by
          rw [← e1]
          exact List.mem_map.mpr ⟨r, hr, rfl⟩
        rw [(w5 _ h).len]
        unfold c1
        rw [List.length_map]
      generalize tris R M O = R3 at e1 e2 e3 e4 r3l c1l
      refine ⟨_, rfl, _, rfl, _, rfl, ta, tk, to, R3, rfl, col_at (by rw [e1]; exact R10), col_at (by rw [e2]; exact M10), col_at (by rw [e3]; exact O10), by omega, fun r hr => by rw [c1l r hr]; omega, e4, fun H11 tt tvs s11 ht11 a11 => ?_⟩
      have F11 := F10.same s11
      have R11 := R10.firm (Firm.of s11)
      have S11 := S10.firm (Firm.of s11)
      have M11 := M10.firm (Firm.of s11)
      have O11 := O10.firm (Firm.of s11)
      have T11 : RowsAt K H11 tt (R3.map fun r => r.map triF) := ⟨tvs, ht11, all2_map (f := fun r : List Tri => r.map triF) a11⟩
      clear F10 R10 S10 M10 O10 ht11 a11
      refine ⟨fun σ H' => ∃ (R3 : List (List Tri)) (to tk tt tkb tmb tfb : Addr) (x2 x5 x15 x17 x18 x19 x20 x21 x22 x23 : Option V), σ = [some (.ref a), some (.ref p), x2, some (.ref d), some (.str m.name), x5, some (.ref ta), some (.ref tb2), none, some (.ref to), some (.ref tk), some (.ref tt), some (.ref tkb), some (.ref tmb), some (.ref tfb), x15, none, x17, x18, x19, x20, x21, x22, x23] ∧
        Fd K H' (m0 + 43000) p c0 tb d ds A m ∧ R3.length = R.length ∧ (∀ r ∈ R3, r.length = (wdsOf m).length) ∧ (∀ r ∈ R3, ∀ p ∈ r, 0 ≤ p.1 ∧ 0 ≤ p.2.1 ∧ 0 ≤ p.2.2) ∧ RowsAt K H' ta R ∧ RowsAt K H' tt (R3.map fun r => r.map triF) ∧
        RowsAt K H' tb2 (R3.map fun r => bitsOf (wdsOf m) (c1 r)) ∧ RowsAt K H' tkb (R3.map fun r => bitsOf (wdsOf m) (c2 r)) ∧ RowsAt K H' tmb (R3.map fun r => bitsOf (wdsOf m) (c3 r)) ∧ RowsAt K H' tfb (R3.map fun r => bitsOf (wdsOf m) (r.map triF)), ?_, ?_⟩
      · have S11 : RowsAt K H11 tb2 (R3.map fun r => bitsOf (wdsOf m) (c1 r)) := by
          rw [← e1, List.map_map] at S11
          exact S11
        obtain ⟨mvs, hm1, am1⟩ := id M11
        refine ⟨_, rfl, _, rfl, d, tk, ds, mvs, A, m, M, rfl, F11.des, hm1, am1, by omega, fun r hr => by rw [← lw, (wM r hr).len], fun H12 tkb kvs s12 ht12 a12 => ?_⟩
        have F12 := F11.same s12
        have f12 := Firm.of s12
        obtain ⟨ovs, ho1, ao1⟩ := O11.firm f12
        refine ⟨_, rfl, _, rfl, d, to, ds, ovs, A, m, O, rfl, F12.des, ho1, ao1, by omega, fun r hr => by rw [← lw, (wO r hr).len], fun H13 tmb mvs2 s13 ht13 a13 => ?_⟩
        have F13 := F12.same s13
        have f13 := f12.trans (Firm.of s13)
        obtain ⟨qvs, hq1, aq1⟩ := T11.firm f13
        refine ⟨_, rfl, _, rfl, d, tt, ds, qvs, A, m, R3.map fun r => r.map triF, rfl, F13.des, hq1, aq1, by rw [List.length_map]; omega, fun r hr => ?_, fun H14 tfb fvs s14 ht14 a14 => ?_⟩
        · obtain ⟨z, hz, rfl⟩ := List.mem_map.mp hr
          rw [List.length_map, c1l z hz, lw]
        · have f14 := f13.trans (Firm.of s14)
          have K14 : RowsAt K H14 tkb (R3.map fun r => bitsOf (wdsOf m) (c2 r)) := by
            have : RowsAt K H12 tkb (M.map (bitsOf (wdsOf m))) := ⟨kvs, ht12, all2_map a12⟩
            rw [← e2, List.map_map] at this
            exact this.firm ((Firm.of s13).trans (Firm.of s14))
          have M14 : RowsAt K H14 tmb (R3.map fun r => bitsOf (wdsOf m) (c3 r)) := by
            have : RowsAt K H13 tmb (O.map (bitsOf (wdsOf m))) := ⟨mvs2, ht13, all2_map a13⟩
            rw [← e3, List.map_map] at this
            exact this.firm (Firm.of s14)
          have Q14 : RowsAt K H14 tfb (R3.map fun r => bitsOf (wdsOf m) (r.map triF)) := by
            have : RowsAt K H14 tfb ((R3.map fun r => r.map triF).map (bitsOf (wdsOf m))) := ⟨fvs, ht14, all2_map a14⟩
            rw [List.map_map] at this
            exact this
          exact ⟨_, _, _, rfl, R3, to, tk, tt, tkb, tmb, tfb, _, _, _, _, _, _, _, _, _, _, rfl, F13.same s14, r3l, c1l, e4, R11.firm f14, T11.firm f14, S11.firm f14, K14, M14, Q14⟩
      clear F11 R11 S11 M11 O11 T11 e1 e2 e3 e4 r3l c1l wM wO
      rintro σ H12 ⟨R3, to, tk, tt, tkb, tmb, tfb, x2, x5, x15, x17, x18, x19, x20, x21, x22, x23, rfl, F12, r3l, c1l, e4, R12, T12, S12, K12, M12, Q12⟩
      obtain ⟨rvs, hrv, arv⟩ := id R12
      have rvl : rvs.length = R.length := arv.len
      refine ⟨_, rfl, ta, rvs, rfl, .inr hrv, _, rfl, by omega, by omega, for_range (lo := 0) (n := rvs.length)
        (fun i σ H' => ∃ (x5 x15 : Option V), σ = [some (.ref a), some (.ref p), x2, some (.ref d), some (.str m.name), x5, some (.ref ta), some (.ref tb2), none, some (.ref to), some (.ref tk), some (.ref tt), some (.ref tkb), some (.ref tmb), some (.ref tfb), x15, none, x17, x18, x19, x20, x21, x22, x23] ∧ H' = H12)
        ⟨_, _, rfl, rfl⟩ ?_ ?_⟩
      · rintro i σ H13 hi ⟨x5, x15, rfl, rfl⟩
        obtain ⟨r, hr⟩ : ∃ r, R3[i]? = some r := ⟨R3[i]'(by omega), List.getElem?_eq_getElem _⟩
        have rm := List.mem_of_getElem? hr
        have rlen := c1l r rm
        obtain ⟨v1, r1, sv1, hv1, sr1⟩ := rows_get S12 hr
        obtain ⟨v2, r2, sv2, hv2, sr2⟩ := rows_get K12 hr
        obtain ⟨v3, r3, sv3, hv3, sr3⟩ := rows_get M12 hr
        obtain ⟨v4, r4, sv4, hv4, sr4⟩ := rows_get Q12 hr
        have b1 : (bitsOf (wdsOf m) (c1 r)).length = (wdsOf m).sum := bits_len _ _ (by unfold c1; rw [List.length_map, rlen])
        have b2 : (bitsOf (wdsOf m) (c2 r)).length = (wdsOf m).sum := bits_len _ _ (by unfold c2; rw [List.length_map, rlen])
        have b3 : (bitsOf (wdsOf m) (c3 r)).length = (wdsOf m).sum := bits_len _ _ (by unfold c3; rw [List.length_map, rlen])
        refine ⟨_, rfl, _, rfl, tb2, _, _, _, rfl, rfl, sv1, at_of (j := i) (by omega) hv1, r1, _, rfl, .inr sr1, _, rfl, by omega, by rw [List.length_map, b1]; omega, for_range (lo := 0) (n := ((bitsOf (wdsOf m) (c1 r)).map V.int).length)
          (fun k σ H' => ∃ (x15 : Option V), σ = [some (.ref a), some (.ref p), x2, some (.ref d), some (.str m.name), some (.int (0 + (i : Int))), some (.ref ta), some (.ref tb2), none, some (.ref to), some (.ref tk), some (.ref tt), some (.ref tkb), some (.ref tmb), some (.ref tfb), x15, none, x17, x18, x19, x20, x21, x22, x23] ∧ H' = H13) ⟨_, rfl, rfl⟩ ?_ ?_⟩
        · rintro k σ H14 hk ⟨x15, rfl, rfl⟩
          rw [List.length_map, b1] at hk
          obtain ⟨z1, hz1⟩ := get_lt b1 hk
          obtain ⟨z2, hz2⟩ := get_lt b2 hk
          obtain ⟨z3, hz3⟩ := get_lt b3 hk
          have hz4 := fill_bits (wdsOf m) r (e4 r rm) k z1 z2 z3 hz1 hz2 hz3
          refine ⟨_, rfl, _, rfl, tfb, _, _, _, rfl, rfl, sv4, at_of (j := i) (by omega) hv4, _, rfl, r4, _, _, _, rfl, rfl, sr4, at_of (j := k) (by omega) (get_int hz4), _, rfl, _, rfl, tkb, _, _, _, rfl, rfl, sv2, at_of (j := i) (by omega) hv2, _, rfl, r2, _, _, _, rfl, rfl, sr2, at_of (j := k) (by omega) (get_int hz2), rfl, _, rfl, ?_⟩
          by_cases one : z2 = 1
          · refine goT (decide_eq_true (by rw [one])) ⟨_, rfl, _, rfl, tb2, _, _, _, rfl, rfl, sv1, at_of (j := i) (by omega) hv1, _, rfl, r1, _, _, _, rfl, rfl, sr1, at_of (j := k) (by omega) (get_int hz1), rfl, _, rfl, goF (by rw [if_pos one]; simp) ?_⟩
            exact ⟨_, rfl, rfl⟩
          · refine goF (decide_eq_false fun z => one (V.int.inj z)) ⟨_, rfl, _, rfl, tmb, _, _, _, rfl, rfl, sv3, at_of (j := i) (by omega) hv3, _, rfl, r3, _, _, _, rfl, rfl, sr3, at_of (j := k) (by omega) (get_int hz3), rfl, _, rfl, goF (by rw [if_neg one]; simp) ?_⟩
            exact ⟨_, rfl, rfl⟩
        · rintro σ H14 ⟨x15, rfl, rfl⟩
          exact ⟨_, _, rfl, rfl⟩
      rintro σ H13 ⟨x5, x15, rfl, rfl⟩
      refine ⟨fun σ H' => ∃ (x2 x5 x6 x7 x9 x10 x11 x12 x13 x14 x15 x17 x18 x19 x20 x21 x22 x23 : Option V), σ = [some (.ref a), some (.ref p), x2, some (.ref d), some (.str m.name), x5, x6, x7, none, x9, x10, x11, x12, x13, x14, x15, none, x17, x18, x19, x20, x21, x22, x23] ∧ Fd K H' (m0 + 43000) p c0 tb d ds A m, ?_, ?_⟩
      · obtain ⟨tvs, htt, att⟩ := id T12
        have tl2 := att.len
        rw [List.length_map] at tl2
        refine ⟨_, rfl, tt, tvs, rfl, .inr htt, _, rfl, ta, rvs, rfl, .inr hrv, rfl, _, rfl, goF (by rw [show tvs.length = rvs.length by omega]; simp) ?_⟩
        exact ⟨_, _, _, _, _, _, _, _, _, _, _, _, _, _, _, _, _, _, rfl, F12⟩
      clear F12 R12 T12 S12 K12 M12 Q12 hrv arv
      rintro σ H14 ⟨x2, x5, x6, x7, x9, x10, x11, x12, x13, x14, x15, x17, x18, x19, x20, x21, x22, x23, rfl, F14⟩
      refine ⟨_, rfl, _, rfl, d, ds, A ++ [m], A.length, m, rfl, F14.des, by simp, fun H15 l pvs s15 nl h15 a15 => ?_⟩
      have F15 := F14.same s15
      have al := a15.len
      refine ⟨l, rfl, ⟨_, SqL.of h15⟩, fun W nW => ?_⟩
      refine lc_list (K := K) (a := l) (xs := pvs) (fun i H' => Same H15 H' ∧ H' W = some (.lst (((insOf m.items).take i).map wdV)))
        ⟨same_new nW, upd_same⟩ (fun i H' _ ⟨s, _⟩ => s.seq (SqL.of h15)) ?_ ?_
      · rintro i y H2 hy ⟨s2, h2⟩
        obtain ⟨q1, hq1, t1, rfl, ht1⟩ := a15.get hy
        have ht1 := seqT_same s2 ht1
        have iil := (List.getElem?_eq_some_iff.mp hy).1
        have insl := mok.insl
        refine ⟨rfl, yes_of ⟨_, rfl, t1, _, 2, _, rfl, rfl, ht1, at_of (j := 2) rfl rfl, _, h2, ?_, mk_same s2 nW, ?_⟩⟩
        · rw [List.length_map, List.length_take]
          exact Nat.lt_of_lt_of_le (by omega : _ < 900) (by decide)
        · rw [upd_same, Xw.tk hq1, List.map_append]
          rfl
      rintro H16 ⟨s16, h16⟩
      rw [al, List.take_length, ← wds_v] at h16
      have F16 := F15.same s16
      refine ⟨W, (wdsOf m).map fun n : Nat => (n : Int), rfl, SqL.of (by rw [List.map_map]; exact h16), ?_⟩
      rw [sum_cast]
      have one : 1 ≤ (wdsOf m).sum := by
        have key : ∀ ws : List Nat, 1 ≤ ws.length → (∀ n ∈ ws, 1 ≤ n ∧ n ≤ 8) → 1 ≤ ws.sum := fun ws h k => match ws, h, k with
          | n :: ws, _, k => by
            rw [List.sum_cons]
            have := (k n List.mem_cons_self).1
            omega
        exact key _ w1 wo
      clear F14 F15 s15 h15 a15 s16 h16 nl nW
      obtain ⟨n16, l16, P16⟩ := F16.pen
      refine ⟨_, rfl, len1, fun a1 na1 => ⟨_, rfl, _, _, rfl, rfl, mulT_use (k := (wdsOf m).sum + 1) (by omega) upd_same (by omega) fun b1 G1 s1 hb1 => ⟨len1, fun u1 nu1 => ⟨len1, fun a2 na2 => ⟨_, rfl, mulT_use (k := (wdsOf m).sum) rfl upd_same (by omega) fun b2 G2 s2 hb2 => ⟨len1, fun u2 nu2 => ⟨len1, fun a3 na3 => ⟨_, rfl, mulT_use (k := (wdsOf m).sum) rfl upd_same (by omega) fun b3 G3 s3 hb3 =>
        ⟨len1, fun u3 nu3 => ⟨len1, fun u4 nu4 => ⟨by show 7 ≤ sizeLine; decide, fun l nl => ?_⟩⟩⟩⟩⟩⟩⟩⟩⟩⟩⟩
      have i1 := same_new (u := .tup [V.int 0]) na1
      have i2 := same_new (u := .tup [V.ref b1]) nu1
      have i3 := same_new (u := .tup [V.int 2]) na2
      have i4 := same_new (u := .tup [V.ref b2]) nu2
      have i5 := same_new (u := .tup [V.bl true]) na3
      have i6 := same_new (u := .tup [V.ref b3]) nu3
      have i7 := same_new (u := .tup [V.non]) nu4
      have i8 := same_new (u := .lst [V.non, .int 5, .ref u1, .ref u2, .ref u3, .str "ab", .ref u4]) nl
      have j7 := i7.trans i8
      have j6 := i6.trans j7
      have j5 := i5.trans (s3.trans j6)
      have j4 := i4.trans j5
      have j3 := i3.trans (s2.trans j4)
      have j2 := i2.trans j3
      have j1 := i1.trans (s1.trans j2)
      have F17 := F16.same j1
      have P17 := P16.same j1
      obtain ⟨lp, _⟩ := ((P16.same ((i1.trans (s1.trans (i2.trans (i3.trans (s2.trans (i4.trans (i5.trans (s3.trans (i6.trans i7)))))))))))).free nl
      refine ⟨p, c0, l, _, _, rfl, P17, by omega, lp, SqL.of upd_same, (by show 0 < 7; decide), (by show 7 ≤ 1000; decide), fun vb kk H18 hv18 P18 B18 => ?_⟩
      have bad : BadB K H18 (wdsOf m).sum vb := (bad_pick one (by omega) hv18 (j3 _ _ upd_same) (j2 _ _ hb1) (j5 _ _ upd_same) (j4 _ _ hb2) (j7 _ _ upd_same) (j6 _ _ hb3) (i8 _ _ upd_same)).firm (F17.firm B18)
      have F18 := F17.to B18 P18 (by omega : _ ≤ m0 + 44000)
      clear F16 F17 P16 P17 P18 B18 i1 i2 i3 i4 i5 i6 i7 i8 j1 j2 j3 j4 j5 j6 j7 s1 s2 s3 hb1 hb2 hb3 na1 na2 na3 nu1 nu2 nu3 nu4 nl lp hv18
      refine ⟨fun σ H' => ∃ (vb vo : V) (x2 x5 x6 x7 x9 x10 x11 x12 x13 x14 x15 x17 x20 x21 x22 x23 : Option V), σ = [some (.ref a), some (.ref p), x2, some (.ref d), some (.str m.name), x5, x6, x7, none, x9, x10, x11, x12, x13, x14, x15, none, x17, some vb, some vo, x20, x21, x22, x23] ∧ Fd K H' (m0 + 45000) p c0 tb d ds A m ∧ BadB K H' (wdsOf m).sum vb ∧ BadW K H' (wdsOf m) vo, ?_, ?_⟩
      · obtain ⟨n18, l18, P18⟩ := F18.pen
        refine ⟨_, rfl, len1, fun u1 nu1 => ⟨1, rfl, len1, fun a2 na2 => ⟨_, rfl, _, rfl, d, ds, A ++ [m], A.length, m, rfl, ((F18.same (same_new nu1)).same (same_new na2)).des, by simp, fun G1 l1 pvs s1 nl1 h1 al1 => ⟨l1, pvs, rfl, .inl (SqL.of h1), mulT_use (k := (wdsOf m).length) (by rw [al1.len, ← lw]) (s1 _ _ upd_same) (by omega) fun b2 G2 s2 hb2 =>
          ⟨len1, fun u2 nu2 => ⟨by show 0 ≤ sizeLine; decide, fun t3 nt3 => ⟨len1, fun u3 nu3 => ⟨by show 6 ≤ sizeLine; decide, fun l nl => ?_⟩⟩⟩⟩⟩⟩⟩⟩
        have i1 := same_new (u := .tup [V.non]) nu1
        have i2 := same_new (u := .tup [V.int (-1)]) na2
        have i4 := same_new (u := .tup [V.ref b2]) nu2
        have i5 := same_new (u := .tup []) nt3
        have i6 := same_new (u := .tup [V.ref t3]) nu3
        have i8 := same_new (u := .lst [V.non, .int 5, .ref u1, .ref u2, .str "ab", .ref u3]) nl
        have j6 := i6.trans i8
        have j5 := i5.trans j6
        have j4 := i4.trans j5
        have j2 := i2.trans (s1.trans (s2.trans j4))
        have j1 := i1.trans j2
        have F19 := F18.same j1
        have P19 := P18.same j1
        obtain ⟨lp, _⟩ := (P18.same (i1.trans (i2.trans (s1.trans (s2.trans (i4.trans (i5.trans i6))))))).free nl
        refine ⟨p, c0, l, _, _, rfl, P19, by omega, lp, SqL.of upd_same, (by show 0 < 6; decide), (by show 6 ≤ 1000; decide), fun vo kk H20 hv20 P20 B20 => ?_⟩
        have odd : BadW K H20 (wdsOf m) vo := (odd_pick w1 (by omega) hv20 (j2 _ _ upd_same) (j5 _ _ upd_same) (j4 _ _ hb2) (i8 _ _ upd_same) (j6 _ _ upd_same)).firm (F19.firm B20)
        exact ⟨vb, vo, _, _, _, _, _, _, _, _, _, _, _, _, _, _, _, _, rfl, F19.to B20 P20 (by omega), bad.firm ((Firm.of j1).trans (F19.firm B20)), odd⟩
      clear F18 bad
      rintro σ H20 ⟨vb, vo, x2, x5, x6, x7, x9, x10, x11, x12, x13, x14, x15, x17, x20, x21, x22, x23, rfl, F20, bad, odd⟩
      refine ⟨F20.tab, fun f1 k1 H21 e21 t21 l21 o21 => ⟨_, rfl, len2, fun u1 nu1 => ⟨len1, fun L nL => ?_⟩⟩⟩
      have i1 := same_new (u := .tup [V.ref f1, vb]) nu1
      have i2 := same_new (u := .lst [V.ref u1]) nL
      have F21 := (F20.ext e21 t21).same i1
      obtain ⟨Lp, Lc⟩ := F21.apart nL
      have F22 := F21.same i2
      have f22 := (firm_extN e21).trans (Firm.of (i1.trans i2))
      have bad22 := bad.firm f22
      have odd22 := odd.firm f22
      have hu1 := i2 _ _ (upd_same (H := H21) (a := u1) (o := .tup [V.ref f1, vb]))
      have hL := upd_same (H := upd H21 u1 (.tup [V.ref f1, vb])) (a := L) (o := .lst [V.ref u1])
      have hf1 := i2 _ _ (i1 _ _ l21)
      have hk1 := i2 _ _ (i1 _ _ o21)
      generalize upd (upd H21 u1 (.tup [V.ref f1, vb])) L (.lst [V.ref u1]) = H22 at F22 bad22 odd22 hu1 hL hf1 hk1 ⊢
      clear F20 F21 bad odd e21 t21 l21 o21 nu1 nL i1 i2 f22
      refine ⟨_, rfl, .inl ⟨rfl, _, SqL.of hL⟩, F22.tab, fun f2 k2 H23 e23 t23 l23 o23 => ⟨_, rfl, len2, fun u2 nu2 => ?_⟩⟩
      have i3 := same_new (u := .tup [V.ref f2, vo]) nu2
      have hu1 := i3 _ _ (e23 _ _ hu1 fun _ z => by cases z)
      have hL := i3 _ _ (e23 _ _ hL fun _ z => by cases z)
      have hf1 := i3 _ _ (e23 _ _ hf1 fun _ z => by unfold LamO at z; cases z)
      have hk1 := i3 _ _ (e23 _ _ hk1 codeO_ne)
      have hu2 := upd_same (H := H23) (a := u2) (o := .tup [V.ref f2, vo])
      have hf2 := i3 _ _ l23
      have hk2 := i3 _ _ o23
      have F23 := (F22.ext e23 t23).same i3
      have f23 := (firm_extN e23).trans (Firm.of i3)
      have bad23 := bad22.firm f23
      have odd23 := odd22.firm f23
      generalize upd H23 u2 (.tup [V.ref f2, vo]) = H23 at F23 bad23 odd23 hu1 hL hf1 hk1 hu2 hf2 hk2 ⊢
      clear F22 bad22 odd22 e23 t23 l23 o23 nu2 i3 f23
      refine ⟨L, _, _, rfl, rfl, hL, (by show 1 < sizeLine; decide), ?_⟩
      have F24 : Fd K (upd H23 L (.lst ([V.ref u1] ++ [V.ref u2]))) (m0 + 45000) p c0 tb d ds A m := F23.lst hL Lp Lc
      have f24 : Firm H23 (upd H23 L (.lst ([V.ref u1] ++ [V.ref u2]))) := Firm.upd hL rfl
      have bad24 := bad23.firm f24
      have odd24 := odd23.firm f24
      have nl : ∀ {b : Addr} {o : HO}, H23 b = some o → (∀ xs, o ≠ .lst xs) → upd H23 L (.lst ([V.ref u1] ++ [V.ref u2])) b = some o := fun e n => (upd_ne (ne_of e hL (n _))).trans e
      have hu1 := nl hu1 fun _ z => by cases z
      have hu2 := nl hu2 fun _ z => by cases z
      have hf1 := nl hf1 fun _ z => by unfold LamO at z; cases z
      have hf2 := nl hf2 fun _ z => by unfold LamO at z; cases z
      have hk1 := nl hk1 fun _ z => by unfold CodeO at z; cases z
      have hk2 := nl hk2 fun _ z => by unfold CodeO at z; cases z
      have hL := upd_same (H := H23) (a := L) (o := .lst ([V.ref u1] ++ [V.ref u2]))
      clear nl f24
      generalize upd H23 L (.lst ([V.ref u1] ++ [V.ref u2])) = H24 at F24 bad24 odd24 hu1 hu2 hf1 hf2 hk1 hk2 hL ⊢
      refine ⟨_, rfl, L, rfl, ⟨_, SqL.of hL⟩, for_list (a := L) (xs := [V.ref u1, V.ref u2]) (fun i σ H' => ∃ (x21 x22 x23 : Option V), σ = [some (.ref a), some (.ref p), x2, some (.ref d), some (.str m.name), x5, x6, x7, none, x9, x10, x11, x12, x13, x14, x15, none, x17, some vb, some vo, some (.ref L), x21, x22, x23] ∧ Same H24 H')
        ⟨_, _, _, rfl, fun _ _ e => e⟩ (fun i σ H' _ ⟨_, _, _, _, s⟩ => SqL.of (s _ _ hL)) ?_ ?_⟩
      · rintro i y σ H25 hy ⟨x21, x22, x23, rfl, s25⟩
        have F25 := F24.same s25
        match i, hy with
        | 0, hy =>
          cases hy
          refine ⟨u1, _, rfl, SqT.of (s25 _ _ hu1), rfl, _, _, rfl, _, _, rfl, rfl, ?_⟩
          obtain ⟨dat, dv, sh, z1, z2, z3⟩ := bad24.firm (Firm.of s25)
          refine ⟨_, rfl, f1, k1, _, rfl, s25 _ _ hk1, List.mem_cons_self, s25 _ _ hf1, fun t nt k hk => ?_⟩
          have st := same_new (u := .tup [.str "none"]) nt
          refine ⟨_, rfl, _, rfl, d, ds, A, m, vb, dat, rfl, (F25.same st).des, dp_same st dv, z1, z2, .inr ⟨z3, fun dd H26 s26 hx => ?_⟩⟩
          refine ⟨dd, _, vb, rfl, rfl, hx, rfl, fun t2 nt2 => ?_⟩
          have s27 := same_new (u := .tup [.str "row", vb]) nt2
          have dv2 := dp_same (st.trans (s26.trans s27)) dv
          refine ⟨_, rfl, t2, _, 0, _, rfl, rfl, SqT.of upd_same, at_of (j := 0) rfl rfl, rfl, _, rfl, goF (by simp) ?_⟩
          refine ⟨_, rfl, t2, _, 1, _, rfl, rfl, SqT.of upd_same, at_of (j := 1) rfl rfl, _, _, rfl, dv2, sh.show_, sh.dict, sh.deep, sh.long, _, rfl, _, _, rfl, dv2, sh.show_, sh.dict, sh.deep, sh.long, rfl, _, rfl, goF (by simp) ?_⟩
          exact ⟨_, _, _, rfl, s25.trans (st.trans (s26.trans s27))⟩
        | 1, hy =>
          cases hy
          refine ⟨u2, _, rfl, SqT.of (s25 _ _ hu2), rfl, _, _, rfl, _, _, rfl, rfl, ?_⟩
          obtain ⟨dat, dv, sh, z1, z3⟩ := odd24.firm (Firm.of s25)
          refine ⟨_, rfl, f2, k2, _, rfl, s25 _ _ hk2, List.mem_cons_of_mem _ List.mem_cons_self, s25 _ _ hf2, fun t nt k hk => ?_⟩
          have st := same_new (u := .tup [.str "none"]) nt
          refine ⟨_, rfl, _, rfl, d, ds, A, m, vo, dat, rfl, (F25.same st).des, dp_same st dv, z1, .inr ⟨z3, fun dd H26 s26 hx => ?_⟩⟩
          refine ⟨dd, _, vo, rfl, rfl, hx, rfl, fun t2 nt2 => ?_⟩
          have s27 := same_new (u := .tup [.str "row", vo]) nt2
          have dv2 := dp_same (st.trans (s26.trans s27)) dv
          refine ⟨_, rfl, t2, _, 0, _, rfl, rfl, SqT.of upd_same, at_of (j := 0) rfl rfl, rfl, _, rfl, goF (by simp) ?_⟩
          refine ⟨_, rfl, t2, _, 1, _, rfl, rfl, SqT.of upd_same, at_of (j := 1) rfl rfl, _, _, rfl, dv2, sh.show_, sh.dict, sh.deep, sh.long, _, rfl, _, _, rfl, dv2, sh.show_, sh.dict, sh.deep, sh.long, rfl, _, rfl, goF (by simp) ?_⟩
          exact ⟨_, _, _, rfl, s25.trans (st.trans (s26.trans s27))⟩
        | i + 2, hy => simp at hy
      · rintro σ H25 ⟨x21, x22, x23, rfl, s25⟩
        have F25 := F24.same s25
        obtain ⟨n25, l25, P25⟩ := F25.pen
        exact ⟨_, _, _, _, _, _, _, _, _, _, _, _, _, _, _, _, _, _, _, _, rfl, F25.tab, n25, by omega, P25⟩
    · rintro σ H2 ⟨x2, x3, x4, x5, x6, x7, x9, x10, x11, x12, x13, x14, x15, x17, x18, x19, x20, x21, x22, x23, rfl, T2, m0, hm0, P2⟩
      exact q _
end
end Xy
namespace Exo
open PySem PySem.Spec PyProof.Rows L2
/-! ## Own exceptions as values: made by a call, with or without an own __init__, their fields, isinstance -/
/-- the class at C: an own exception class over ValueError -/
def oexB (K : PySem.W.Frag) (C : Addr) : Bool := match K.lookup C with
  | some ⟨.type "type", _, .cls cd, sl⟩ =>
    (match cd.mro, sl.toList with
    | .ref D :: bm, [_, _, _, _, some (.builtin n), _] => (decide (D = C) && decide (n = "ValueError.__new__")) && ((!cd.hasDel && cd.hasDict) && PySem.HandSPX.refsVE bm)
    | _, _ => false)
  | _ => false
theorem and2 {a b : Bool} (h : (a && b) = true) : a = true ∧ b = true := Bool.and_eq_true_iff.mp h
theorem oexB_ok {K : PySem.W.Frag} {C : Addr} (h : oexB K C = true) :
    ∃ nm q N bs bm sn sub ab col dd k0 k1 k2 k3 k5, K.lookup C = some (excClassObj nm q C N bs bm true sn sub ab col dd k0 k1 k2 k3 k5 "ValueError.__new__") ∧ PySem.HandSPX.refsVE bm = true := by
  unfold oexB at h
  split at h
  · rename_i dd cd sl ho
    split at h
    · rename_i D bm k0 k1 k2 k3 n k5 hm hs
      obtain ⟨h1, h2⟩ := and2 h
      obtain ⟨e1, e2⟩ := and2 h1
      obtain ⟨h3, h4⟩ := and2 h2
      obtain ⟨e3, e4⟩ := and2 h3
      have e1 := of_decide_eq_true e1
      have e2 := of_decide_eq_true e2
      subst e1 e2
      obtain ⟨nm, bs, mro, ns, qn, hd, sn, sub, ab, col, del⟩ := cd
      dsimp only at hm e3 e4
      have e3 : del = false := by
        cases del with
        | false => rfl
        | true => cases e3
      subst hm e3 e4
      have hsl : sl = #[k0, k1, k2, k3, some (.builtin "ValueError.__new__"), k5] := by
        obtain ⟨l⟩ := sl
        have hs : l = _ := hs
        rw [hs]
      subst hsl
      exact ⟨nm, qn, ns, bs, bm, sn, sub, ab, col, dd, k0, k1, k2, k3, k5, ho, h4⟩
    · cases h
  · cases h
/-- all that is asked of such a class, decided -/
def okB (K : PySem.W.Frag) (C : Addr) : Bool :=
  (oexB K C && decide (PySem.W.findIn K (.ref C) "__setattr__" = some (some (.builtin "object.__setattr__")))) &&
  ((decide (PySem.W.subIn K (.ref C) (.type "BaseException") = some true) && decide (PySem.W.typeIn K (.ref C) = some (.type "type"))) &&
  ((PySem.W.keepIn K (.ref C) && decide (PySem.W.findIn K (.ref C) "__getattribute__" = some (some (.builtin "BaseException.__getattribute__")))) &&
  ((decide (PySem.W.findIn K (.ref C) "__getattr__" = some none) && PySem.W.hasDictIn K C) &&
  ((decide (PySem.W.findIn K (.ref C) "__class__" = some (some (.builtin "object.__class__"))) && decide (PySem.W.specialIn K (.builtin "object.__class__") "__get__" = some (some (.builtin "getset_descriptor.__get__")))) &&
  (decide (PySem.W.takesIn K (.builtin "object.__class__") = some true) && decide (PySem.W.mroIn K C (.type "object") = some true))))))
structure Cl (K : PySem.W.Frag) (C : Addr) : Prop where
  oe : OexC K C
  ex : ExcC K C
theorem okB_ok {K : PySem.W.Frag} {C : Addr} (h : okB K C = true) : Cl K C := by
  obtain ⟨h1, h⟩ := and2 h
  obtain ⟨a1, a2⟩ := and2 h1
  obtain ⟨h2, h⟩ := and2 h
  obtain ⟨a3, a4⟩ := and2 h2
  obtain ⟨h3, h⟩ := and2 h
  obtain ⟨a5, a6⟩ := and2 h3
  obtain ⟨h4, h⟩ := and2 h
  obtain ⟨a7, a8⟩ := and2 h4
  obtain ⟨h5, h6⟩ := and2 h
  obtain ⟨a9, b1⟩ := and2 h5
  obtain ⟨b2, b3⟩ := and2 h6
  exact ⟨⟨oexB_ok a1, of_decide_eq_true a2, of_decide_eq_true a3, of_decide_eq_true a4, a5⟩,
    ⟨of_decide_eq_true a6, of_decide_eq_true a7, of_decide_eq_true a3, a8, of_decide_eq_true a9, of_decide_eq_true b1, of_decide_eq_true b2, of_decide_eq_true b3⟩⟩
end Exo
namespace E50
open PySem PySem.Spec PyProof.Rows L2 Pen Dat Ki Fi Ep Eq Es Ev Xm Xn Xd Xw Xg Xp Xq Zp Zp3 Ab Xr Xs Xt Xu Xv Xz Xo Xh Xa Wy Yw Ls Xe Yt Xy Gd He
def ds_is_between : DefD := ⟨("is_between", none), "is_between", "is_between", defArgs sBetween, defBody sBetween, defScope sBetween, [], []⟩
def ds_is_row : DefD := ⟨("is_row", none), "is_row", "is_row", defArgs sRow, defBody sRow, defScope sRow, [], []⟩
def ds_is_row_between : DefD := ⟨("is_row_between", none), "is_row_between", "is_row_between", defArgs sRowB, defBody sRowB, defScope sRowB, [], []⟩
def ds_are_rows_of_bits : DefD := ⟨("are_rows_of_bits", none), "are_rows_of_bits", "are_rows_of_bits", defArgs sRowsBits, defBody sRowsBits, defScope sRowsBits, [], []⟩
def ds_word_number : DefD := ⟨("word_number", none), "word_number", "word_number", defArgs sWordNumber, defBody sWordNumber, defScope sWordNumber, [], []⟩
def ds_number_bits : DefD := ⟨("number_bits", none), "number_bits", "number_bits", defArgs sNumberBits, defBody sNumberBits, defScope sNumberBits, [], []⟩
def ds_of_kinds : DefD := ⟨("of_kinds", none), "of_kinds", "of_kinds", defArgs sOfKinds, defBody sOfKinds, defScope sOfKinds, [], []⟩
def ds_greatest : DefD := ⟨("greatest", none), "greatest", "greatest", defArgs sGreatest, defBody sGreatest, defScope sGreatest, [], []⟩
def ds_are_words : DefD := ⟨("are_words", none), "are_words", "are_words", defArgs sAreWords, defBody sAreWords, defScope sAreWords, [], []⟩
def ds_input_widths : DefD := ⟨("input_widths", none), "input_widths", "input_widths", defArgs sInputWidths, defBody sInputWidths, defScope sInputWidths, [], []⟩
def ds_top_items : DefD := ⟨("top_items", none), "top_items", "top_items", defArgs sTopItems, defBody sTopItems, defScope sTopItems, [], []⟩
def ds_are_word_rows : DefD := ⟨("are_word_rows", none), "are_word_rows", "are_word_rows", defArgs sAreWordRows, defBody sAreWordRows, defScope sAreWordRows, [], []⟩
def ds_widths_of_inputs : DefD := ⟨("widths_of_inputs", none), "widths_of_inputs", "widths_of_inputs", defArgs sWidthsOfInputs, defBody sWidthsOfInputs, defScope sWidthsOfInputs, [], []⟩
def ds_need_rows : DefD := ⟨("need_rows", none), "need_rows", "need_rows", defArgs sNeedRows, defBody sNeedRows, defScope sNeedRows, [], []⟩
def ds_words_of : DefD := ⟨("words_of", none), "words_of", "words_of", defArgs sWordsOf, defBody sWordsOf, defScope sWordsOf, [], []⟩
def ds_words_in : DefD := ⟨("words_in", none), "words_in", "words_in", defArgs sWordsIn, defBody sWordsIn, defScope sWordsIn, [], []⟩
def ds_bits_of : DefD := ⟨("bits_of", none), "bits_of", "bits_of", defArgs sBitsOf, defBody sBitsOf, defScope sBitsOf, [], []⟩
def ds_bits_in : DefD := ⟨("bits_in", none), "bits_in", "bits_in", defArgs sBitsIn, defBody sBitsIn, defScope sBitsIn, [], []⟩
def ds_filling : DefD := ⟨("filling", none), "filling", "filling", defArgs sFilling, defBody sFilling, defScope sFilling, [], []⟩
def ds__law_pen : DefD := ⟨("_law_pen", none), "_law_pen", "_law_pen", defArgs sPen, defBody sPen, defScope sPen, [], []⟩
def ds__law_draw : DefD := ⟨("_law_draw", none), "_law_draw", "_law_draw", defArgs sDraw, defBody sDraw, defScope sDraw, [], []⟩
def ds__law_pick : DefD := ⟨("_law_pick", none), "_law_pick", "_law_pick", defArgs sPick, defBody sPick, defScope sPick, [], []⟩
def ds__law_drawn_expression : DefD := ⟨("_law_drawn_expression", none), "_law_drawn_expression", "_law_drawn_expression", defArgs sLDrawnExpression, defBody sLDrawnExpression, defScope sLDrawnExpression, [], []⟩
def ds__law_module : DefD := ⟨("_law_module", none), "_law_module", "_law_module", defArgs sLModule, defBody sLModule, defScope sLModule, [], []⟩
def ds__law_why : DefD := ⟨("_law_why", none), "_law_why", "_law_why", defArgs sWhy, defBody sWhy, defScope sWhy, [], []⟩
def ds__law_ports : DefD := ⟨("_law_ports", none), "_law_ports", "_law_ports", defArgs sLPorts, defBody sLPorts, defScope sLPorts, [], []⟩
def ds__law_drawn_inputs : DefD := ⟨("_law_drawn_inputs", none), "_law_drawn_inputs", "_law_drawn_inputs", defArgs sLDrawnInputs, defBody sLDrawnInputs, defScope sLDrawnInputs, [], []⟩
def ds__law_wide_module : DefD := ⟨("_law_wide_module", none), "_law_wide_module", "_law_wide_module", defArgs sLWideModule, defBody sLWideModule, defScope sLWideModule, [], []⟩
def ds__law_drawn_write : DefD := ⟨("_law_drawn_write", none), "_law_drawn_write", "_law_drawn_write", defArgs sLDrawnWrite, defBody sLDrawnWrite, defScope sLDrawnWrite, [], []⟩
def ds__law_wide_design : DefD := ⟨("_law_wide_design", none), "_law_wide_design", "_law_wide_design", defArgs sLWideDesign, defBody sLWideDesign, defScope sLWideDesign, [], []⟩
def ds__law_as_lists : DefD := ⟨("_law_as_lists", none), "_law_as_lists", "_law_as_lists", defArgs sLAsLists, defBody sLAsLists, defScope sLAsLists, [], []⟩
def ds__law_bits : DefD := ⟨("_law_bits", none), "_law_bits", "_law_bits", defArgs sLBits, defBody sLBits, defScope sLBits, [], []⟩
def ds_law : DefD := ⟨("law", none), "law", "law", defArgs sLaw, defBody sLaw, defScope sLaw, [], []⟩
def di_BadRow___init__ : DefD := ⟨("BadRow", some "__init__"), "__init__", "BadRow.__init__", defArgs sRowI, defBody sRowI, defScope sRowI, [], []⟩
def fn : List DefD := [ds_is_between, ds_is_row, ds_is_row_between, ds_are_rows_of_bits, ds_word_number, ds_number_bits, ds_of_kinds, ds_greatest, ds_are_words, ds_input_widths, ds_top_items, ds_are_word_rows, ds_widths_of_inputs, ds_need_rows, ds_words_of, ds_words_in, ds_bits_of, ds_bits_in, ds_filling, ds__law_pen, ds__law_draw, ds__law_pick, ds__law_drawn_expression, ds__law_module, ds__law_why, ds__law_ports, ds__law_drawn_inputs, ds__law_wide_module, ds__law_drawn_write, ds__law_wide_design, ds__law_as_lists, ds__law_bits, ds_law, di_BadRow___init__]
def fa : List Fa := [.glo "is_between", .glo "is_row", .glo "is_row_between", .glo "are_rows_of_bits", .glo "word_number", .glo "number_bits", .glo "of_kinds", .glo "greatest", .glo "are_words", .glo "input_widths", .glo "top_items", .glo "are_word_rows", .glo "widths_of_inputs", .glo "need_rows", .glo "words_of", .glo "words_in", .glo "bits_of", .glo "bits_in", .glo "filling", .glo "_law_pen", .glo "_law_draw", .glo "_law_pick", .glo "_law_drawn_expression", .glo "_law_module", .glo "_law_why", .glo "_law_ports", .glo "_law_drawn_inputs", .glo "_law_wide_module", .glo "_law_drawn_write", .glo "_law_wide_design", .glo "_law_as_lists", .glo "_law_bits", .glo "law", .glo "BadRow", .glo "NoName", .glo "BadLine", .free "isinstance", .free "int", .free "bool", .free "tuple", .free "list", .free "len", .free "all", .free "range", .free "repr", .free "zip", .free "sum", .free "enumerate", .free "str"]
def exB (K : PySem.W.Frag) : Bool := (decide (PySem.W.exmOne K (.ref (ga K "BadRow")) (.ref (ga K "BadRow")) = some true) && (decide (xfB K (ga K "BadRow") = true) && (decide (PySem.W.findIn K (.ref (ga K "BadRow")) "row" = some none) && (decide (Exo.okB K (ga K "BadRow") = true) && (decide (PySem.W.findIn K (.ref (ga K "BadRow")) "__init__" = some (some (.ref (fAd K ("BadRow", some "__init__"))))) && (decide (PySem.W.typeIn K (.ref (fAd K ("BadRow", some "__init__"))) = some (.type "function")) && true))))))
abbrev R : PySem.W.OpenRow := PySem.W.OpenLaw.row PySem.Challenge.rw_everycycle_k50_whole_words_and_bits
abbrev hk : PySem.W.Hook := hookX 6 fa fn [] [("law", none)] exB
def ob (s : PySem.W.SharedT) : AlX := obsX 6 fa fn [] [("law", none)] exB (HandSHeadRun.getT s)
theorem ob_eq (s : PySem.W.SharedT) : ob s = hk.obs s.abs := obsX_eq (HandSHeadRun.getT_eq s)
theorem run (w : World) : HandSHeadRun.RunEq R (PySem.W.view R.prog [42]) hk ob 4000 [("CycleError" : PySem.Str), ("BadLine" : PySem.Str), ("BadRow" : PySem.Str), ("NoName" : PySem.Str), ("is_between" : PySem.Str), ("is_row" : PySem.Str), ("is_row_between" : PySem.Str), ("are_rows_of_bits" : PySem.Str), ("word_number" : PySem.Str), ("number_bits" : PySem.Str), ("of_kinds" : PySem.Str), ("greatest" : PySem.Str), ("are_words" : PySem.Str), ("input_widths" : PySem.Str), ("top_items" : PySem.Str), ("are_word_rows" : PySem.Str), ("widths_of_inputs" : PySem.Str), ("need_rows" : PySem.Str), ("words_of" : PySem.Str), ("words_in" : PySem.Str), ("bits_of" : PySem.Str), ("bits_in" : PySem.Str), ("filling" : PySem.Str), ("_law_pen" : PySem.Str), ("_law_draw" : PySem.Str), ("_law_pick" : PySem.Str), ("_law_drawn_expression" : PySem.Str), ("_law_module" : PySem.Str), ("_law_why" : PySem.Str), ("_law_ports" : PySem.Str), ("_law_drawn_inputs" : PySem.Str), ("_law_wide_module" : PySem.Str), ("_law_drawn_write" : PySem.Str), ("_law_wide_design" : PySem.Str), ("_law_as_lists" : PySem.Str), ("_law_bits" : PySem.Str)] w := by
  intro os
  kernel_rfl
theorem and2 {a b : Bool} (h : (a && b) = true) : a = true ∧ b = true := Bool.and_eq_true_iff.mp h
theorem facts {P : Program} {w : World} {K : PySem.W.Frag} {h : Heap} {mg : Str → Option Value} {f : Addr} (X : K.In h) (G : h.Ns mainGlobals mg) (hfa : mg ("law" : Str) = some (.ref f)) (c : SaysX fa fn [] [("law", none)] exB w h K) :
    ∃ fd : FuncData, (∀ (s : Shared) (v : Value), BindsTo s fd ⟨[v], []⟩ [("_law_script", v)]) ∧ ∀ base : Heap, K.In base → base.Ns mainGlobals mg → LamX.TabB base mg (cT K ("law", none)).1 (cT K ("law", none)).2 → FnG P w K mg base CX0 8 f fd ["_law_script"] (Xy.spLaw K (cT K ("law", none)).2) := by
  have cd := c.t.d
  obtain ⟨fd0, F0⟩ := cd.def_ 0 (d := ds_is_between) rfl
  obtain ⟨fd1, F1⟩ := cd.def_ 1 (d := ds_is_row) rfl
  obtain ⟨fd2, F2⟩ := cd.def_ 2 (d := ds_is_row_between) rfl
  obtain ⟨fd3, F3⟩ := cd.def_ 3 (d := ds_are_rows_of_bits) rfl
  obtain ⟨fd4, F4⟩ := cd.def_ 4 (d := ds_word_number) rfl
  obtain ⟨fd5, F5⟩ := cd.def_ 5 (d := ds_number_bits) rfl
  obtain ⟨fd6, F6⟩ := cd.def_ 6 (d := ds_of_kinds) rfl
  obtain ⟨fd7, F7⟩ := cd.def_ 7 (d := ds_greatest) rfl
  obtain ⟨fd8, F8⟩ := cd.def_ 8 (d := ds_are_words) rfl
  obtain ⟨fd9, F9⟩ := cd.def_ 9 (d := ds_input_widths) rfl
  obtain ⟨fd10, F10⟩ := cd.def_ 10 (d := ds_top_items) rfl
  obtain ⟨fd11, F11⟩ := cd.def_ 11 (d := ds_are_word_rows) rfl
  obtain ⟨fd12, F12⟩ := cd.def_ 12 (d := ds_widths_of_inputs) rfl
  obtain ⟨fd13, F13⟩ := cd.def_ 13 (d := ds_need_rows) rfl
  obtain ⟨fd14, F14⟩ := cd.def_ 14 (d := ds_words_of) rfl
  obtain ⟨fd15, F15⟩ := cd.def_ 15 (d := ds_words_in) rfl
  obtain ⟨fd16, F16⟩ := cd.def_ 16 (d := ds_bits_of) rfl
  obtain ⟨fd17, F17⟩ := cd.def_ 17 (d := ds_bits_in) rfl
  obtain ⟨fd18, F18⟩ := cd.def_ 18 (d := ds_filling) rfl
  obtain ⟨fd19, F19⟩ := cd.def_ 19 (d := ds__law_pen) rfl
  obtain ⟨fd20, F20⟩ := cd.def_ 20 (d := ds__law_draw) rfl
  obtain ⟨fd21, F21⟩ := cd.def_ 21 (d := ds__law_pick) rfl
  obtain ⟨fd22, F22⟩ := cd.def_ 22 (d := ds__law_drawn_expression) rfl
  obtain ⟨fd23, F23⟩ := cd.def_ 23 (d := ds__law_module) rfl
  obtain ⟨fd24, F24⟩ := cd.def_ 24 (d := ds__law_why) rfl
  obtain ⟨fd25, F25⟩ := cd.def_ 25 (d := ds__law_ports) rfl
  obtain ⟨fd26, F26⟩ := cd.def_ 26 (d := ds__law_drawn_inputs) rfl
  obtain ⟨fd27, F27⟩ := cd.def_ 27 (d := ds__law_wide_module) rfl
  obtain ⟨fd28, F28⟩ := cd.def_ 28 (d := ds__law_drawn_write) rfl
  obtain ⟨fd29, F29⟩ := cd.def_ 29 (d := ds__law_wide_design) rfl
  obtain ⟨fd30, F30⟩ := cd.def_ 30 (d := ds__law_as_lists) rfl
  obtain ⟨fd31, F31⟩ := cd.def_ 31 (d := ds__law_bits) rfl
  obtain ⟨fd32, F32⟩ := cd.def_ 32 (d := ds_law) rfl
  obtain ⟨fd33, F33⟩ := cd.def_ 33 (d := di_BadRow___init__) rfl
  have glo : ∀ i x, fa[i]? = some (Fa.glo x) → mg x = some (.ref (ga K x)) := fun i x e => glo_ok X G (cd.fact i e)
  have fre : ∀ i x, fa[i]? = some (Fa.free x) → mg x = none := fun i x e => free_ok X G (cd.fact i e)
  have e := hfa.symm.trans (glo 32 "law" rfl)
  cases e
  have b0 : Binds K fd0 ["value", "least", "most"] [] := F0.bindsN fun _ _ _ _ _ _ us hl => match us, hl with | [_, _, _], _ => rfl
  have b1 : Binds K fd1 ["value"] [] := F1.bindsN fun _ _ _ _ _ _ us hl => match us, hl with | [_], _ => rfl
  have b2 : Binds K fd2 ["value", "many", "least", "most"] [] := F2.bindsN fun _ _ _ _ _ _ us hl => match us, hl with | [_, _, _, _], _ => rfl
  have b3 : Binds K fd3 ["value", "many"] [] := F3.bindsN fun _ _ _ _ _ _ us hl => match us, hl with | [_, _], _ => rfl
  have b4 : Binds K fd4 ["bits"] [] := F4.bindsN fun _ _ _ _ _ _ us hl => match us, hl with | [_], _ => rfl
  have b5 : Binds K fd5 ["width", "number"] [] := F5.bindsN fun _ _ _ _ _ _ us hl => match us, hl with | [_, _], _ => rfl
  have b6 : Binds K fd6 ["items", "kinds"] [] := F6.bindsN fun _ _ _ _ _ _ us hl => match us, hl with | [_, _], _ => rfl
  have b7 : Binds K fd7 ["width"] [] := F7.bindsN fun _ _ _ _ _ _ us hl => match us, hl with | [_], _ => rfl
  have b8 : Binds K fd8 ["value", "widths"] [] := F8.bindsN fun _ _ _ _ _ _ us hl => match us, hl with | [_, _], _ => rfl
  have b9 : Binds K fd9 ["items"] [] := F9.bindsN fun _ _ _ _ _ _ us hl => match us, hl with | [_], _ => rfl
  have b10 : Binds K fd10 ["design"] [] := F10.bindsN fun _ _ _ _ _ _ us hl => match us, hl with | [_], _ => rfl
  have b11 : Binds K fd11 ["value", "widths"] [] := F11.bindsN fun _ _ _ _ _ _ us hl => match us, hl with | [_, _], _ => rfl
  have b12 : Binds K fd12 ["design"] [] := F12.bindsN fun _ _ _ _ _ _ us hl => match us, hl with | [_], _ => rfl
  have b13 : Binds K fd13 ["design", "rows"] [] := F13.bindsN fun _ _ _ _ _ _ us hl => match us, hl with | [_, _], _ => rfl
  have b14 : Binds K fd14 ["design", "rows"] [] := F14.bindsN fun _ _ _ _ _ _ us hl => match us, hl with | [_, _], _ => rfl
  have b15 : Binds K fd15 ["widths", "bits"] [] := F15.bindsN fun _ _ _ _ _ _ us hl => match us, hl with | [_, _], _ => rfl
  have b16 : Binds K fd16 ["design", "rows"] [] := F16.bindsN fun _ _ _ _ _ _ us hl => match us, hl with | [_, _], _ => rfl
  have b17 : Binds K fd17 ["widths", "words"] [] := F17.bindsN fun _ _ _ _ _ _ us hl => match us, hl with | [_, _], _ => rfl
  have b18 : Binds K fd18 ["rows", "mask", "others"] [] := F18.bindsN fun _ _ _ _ _ _ us hl => match us, hl with | [_, _, _], _ => rfl
  have b19 : Binds K fd19 ["_law_script"] [] := F19.bindsN fun _ _ _ _ _ _ us hl => match us, hl with | [_], _ => rfl
  have b20 : Binds K fd20 ["_law_pen_here", "_law_many"] [] := F20.bindsN fun _ _ _ _ _ _ us hl => match us, hl with | [_, _], _ => rfl
  have b21 : Binds K fd21 ["_law_pen_here", "_law_some"] [] := F21.bindsN fun _ _ _ _ _ _ us hl => match us, hl with | [_, _], _ => rfl
  have b22 : Binds K fd22 ["_law_pen_here", "_law_width", "_law_names", "_law_deep"] [] := F22.bindsN fun _ _ _ _ _ _ us hl => match us, hl with | [_, _, _, _], _ => rfl
  have b23 : Binds K fd23 ["_law_design", "_law_name"] [] := F23.bindsN fun _ _ _ _ _ _ us hl => match us, hl with | [_, _], _ => rfl
  have b24 : Binds K fd24 ["_law_call"] [] := F24.bindsN fun _ _ _ _ _ _ us hl => match us, hl with | [_], _ => rfl
  have b25 : Binds K fd25 ["_law_design", "_law_name"] [] := F25.bindsN fun _ _ _ _ _ _ us hl => match us, hl with | [_, _], _ => rfl
  have b26 : Binds K fd26 ["_law_pen_here", "_law_design", "_law_name"] [] := F26.bindsN fun _ _ _ _ _ _ us hl => match us, hl with | [_, _, _], _ => rfl
  have b27 : Binds K fd27 ["_law_pen_here", "_law_name", "_law_ahead"] [] := F27.bindsN fun _ _ _ _ _ _ us hl => match us, hl with | [_, _, _], _ => rfl
  have b28 : Binds K fd28 ["_law_pen_here", "_law_memory", "_law_names"] [] := F28.bindsN fun _ _ _ _ _ _ us hl => match us, hl with | [_, _, _], _ => rfl
  have b29 : Binds K fd29 ["_law_pen_here"] [] := F29.bindsN fun _ _ _ _ _ _ us hl => match us, hl with | [_], _ => rfl
  have b30 : Binds K fd30 ["_law_pen_here", "_law_value"] [] := F30.bindsN fun _ _ _ _ _ _ us hl => match us, hl with | [_, _], _ => rfl
  have b31 : Binds K fd31 ["_law_design", "_law_rows"] [] := F31.bindsN fun _ _ _ _ _ _ us hl => match us, hl with | [_, _], _ => rfl
  have b33 : Binds K fd33 ["self", "row"] [] := F33.bindsN fun _ _ _ _ _ _ us hl => match us, hl with | [_, _], _ => rfl
  have b := FunD.bindsA (ps := ["_law_script"]) F32 fun _ _ _ _ _ _ us hl => match us, hl with | [_], _ => rfl
  have g0 := glo 0 "is_between" rfl
  have g1 := glo 1 "is_row" rfl
  have g2 := glo 2 "is_row_between" rfl
  have g3 := glo 3 "are_rows_of_bits" rfl
  have g4 := glo 4 "word_number" rfl
  have g5 := glo 5 "number_bits" rfl
  have g6 := glo 6 "of_kinds" rfl
  have g7 := glo 7 "greatest" rfl
  have g8 := glo 8 "are_words" rfl
  have g9 := glo 9 "input_widths" rfl
  have g10 := glo 10 "top_items" rfl
  have g11 := glo 11 "are_word_rows" rfl
  have g12 := glo 12 "widths_of_inputs" rfl
  have g13 := glo 13 "need_rows" rfl
  have g14 := glo 14 "words_of" rfl
  have g15 := glo 15 "words_in" rfl
  have g16 := glo 16 "bits_of" rfl
  have g17 := glo 17 "bits_in" rfl
  have g18 := glo 18 "filling" rfl
  have g19 := glo 19 "_law_pen" rfl
  have g20 := glo 20 "_law_draw" rfl
  have g21 := glo 21 "_law_pick" rfl
  have g22 := glo 22 "_law_drawn_expression" rfl
  have g23 := glo 23 "_law_module" rfl
  have g24 := glo 24 "_law_why" rfl
  have g25 := glo 25 "_law_ports" rfl
  have g26 := glo 26 "_law_drawn_inputs" rfl
  have g27 := glo 27 "_law_wide_module" rfl
  have g28 := glo 28 "_law_drawn_write" rfl
  have g29 := glo 29 "_law_wide_design" rfl
  have g30 := glo 30 "_law_as_lists" rfl
  have g31 := glo 31 "_law_bits" rfl
  have g32 := glo 32 "law" rfl
  have gBadRow := glo 33 "BadRow" rfl
  have gNoName := glo 34 "NoName" rfl
  have gBadLine := glo 35 "BadLine" rfl
  have z_isinstance := fre 36 "isinstance" rfl
  have z_int := fre 37 "int" rfl
  have z_bool := fre 38 "bool" rfl
  have z_tuple := fre 39 "tuple" rfl
  have z_list := fre 40 "list" rfl
  have z_len := fre 41 "len" rfl
  have z_all := fre 42 "all" rfl
  have z_range := fre 43 "range" rfl
  have z_repr := fre 44 "repr" rfl
  have z_zip := fre 45 "zip" rfl
  have z_sum := fre 46 "sum" rfl
  have z_enumerate := fre 47 "enumerate" rfl
  have z_str := fre 48 "str" rfl
  have r0 := c.more
  obtain ⟨q0, r1⟩ := and2 r0
  have x3 := of_decide_eq_true q0
  obtain ⟨q1, r2⟩ := and2 r1
  have x5 := of_decide_eq_true q1
  obtain ⟨q2, r3⟩ := and2 r2
  have y3 := of_decide_eq_true q2
  obtain ⟨q3, r4⟩ := and2 r3
  have o2 := of_decide_eq_true q3
  obtain ⟨q4, r5⟩ := and2 r4
  have j1 := of_decide_eq_true q4
  obtain ⟨q5, r6⟩ := and2 r5
  have j2 := of_decide_eq_true q5
  have ki : Ki.Tx mg := ⟨z_isinstance, z_int, z_bool, z_tuple, z_list, z_len, z_all⟩
  have pt : Pen.Txt mg := ⟨z_len, z_int, z_list⟩
  have T : Xr.Ty mg := ⟨ki, z_zip, z_range, z_sum, z_enumerate⟩
  have tw : Xw.Tx mg := ⟨z_range, z_tuple, z_list, z_str⟩
  have wy : Yw.Tw K mg (ga K "BadRow") (ga K "NoName") (ga K "BadLine") := ⟨gBadRow, gNoName, gBadLine, x3, xfB_ok x5, y3⟩
  have XT : Xe.Te K mg (ga K "BadRow") (ga K "NoName") (ga K "BadLine") (fAd K ("BadRow", some "__init__")) := ⟨wy, ⟨(Exo.okB_ok o2).oe, j1, j2⟩⟩
  refine ⟨fd32, fun s v => b s [v] rfl, fun base _ _ TB => ?_⟩
  have hcv : ∀ cv, fd32.code = cv → cv = .ref (cT K ("law", none)).1 := fun cv hc => by
    obtain ⟨_, _, _, _, _, _, _, cdv, _, _, e, lk, hcd, _, _⟩ := F32.ex
    obtain ⟨c0, rfl⟩ := codeIn_ref hcd
    have hf : fd32.code = .ref c0 := by rw [e]
    rw [← hc, hf]
    exact congrArg Value.ref (codeOf_eq (p := ("law", none)) lk hf).symm
  have G0 : FnOk P w K mg base CX0 _ _ _ _ _ := ok_between F0 ki
  have G1 : FnOk P w K mg base CX0 _ _ _ _ _ := ok_row F1 ki
  have G2 : FnOk P w K mg base CX0 _ _ _ _ _ := ok_rowB F2 ki F0 g0 F1 g1
  have G3 : FnOk P w K mg base CX0 _ _ _ _ _ := ok_arb F3 T G1 g1 F1.kp b1 G2 g2 F2.kp b2
  have G4 : FnOk P w K mg base CX0 _ _ _ _ _ := ok_wordn F4 T
  have G5 : FnOk P w K mg base CX0 _ _ _ _ _ := ok_numb F5 T
  have G6 : FnOk P w K mg base CX0 _ _ _ _ _ := ok_ok F6
  have G7 : FnOk P w K mg base CX0 _ _ _ _ _ := ok_gr F7
  have G8 : FnOk P w K mg base CX0 _ _ _ _ _ := ok_aw F8 T G1 g1 F1.kp b1 G0 g0 F0.kp b0 G7 g7 F7.kp b7
  have G9 : FnOk P w K mg base CX0 _ _ _ _ _ := ok_iwd F9 G6 g6 F6.kp b6
  have G10 : FnOk P w K mg base CX0 _ _ _ _ _ := ok_ti F10
  have G11 : FnOk P w K mg base CX0 _ _ _ _ _ := ok_ar F11 T G1 g1 F1.kp b1 G8 g8 F8.kp b8
  have G12 : FnOk P w K mg base CX0 _ _ _ _ _ := ok_wid F12 G9 g9 F9.kp b9 G10 g10 F10.kp b10
  have G15 : FnOk P w K mg base CX0 _ _ _ _ _ := ok_wn F15 T G4 g4 F4.kp b4
  have G17 : FnOk P w K mg base CX0 _ _ _ _ _ := ok_bn F17 T G5 g5 F5.kp b5
  have G18 : FnOk P w K mg base CX0 _ _ _ _ _ := ok_fil F18 T
  have G33 : FnOk P w K mg base CX0 _ _ _ _ _ := Xe.ok_rowi F33 XT
  have GNR : FnOk P w K mg base (L2.CX P w) 4 _ _ _ (spNR K (ga K "BadRow")) := ok_nr F13 XT G33 b33 G12 g12 F12.kp b12 G11 g11 F11.kp b11
  have GWO : FnOk P w K mg base (L2.CX P w) 4 _ _ _ (spWO K (ga K "BadRow")) := ok_wo F14 XT T G33 b33 G12 g12 F12.kp b12 G3 g3 F3.kp b3 G15 g15 F15.kp b15
  have GBO : FnOk P w K mg base (L2.CX P w) 5 _ _ _ (spBO K (ga K "BadRow")) := ok_bo F16 T GNR g13 F13.kp b13 G12 g12 F12.kp b12 G17 g17 F17.kp b17
  have G19 : FnOk P w K mg base CX0 _ _ _ _ _ := ok_pen F19 pt
  have G20 : FnOk P w K mg base CX0 _ _ _ _ _ := ok_draw F20 pt
  have G21 : FnOk P w K mg base CX0 _ _ _ _ _ := ok_pick F21 pt F20 g20
  have GD := Ev.ok_de F22 G20 g20 F20.kp b20 G21 g21 F21.kp b21 g22 F22.kp b22
  have G28 : FnOk P w K mg base CX0 _ _ _ _ _ := ok_dw F28 (GD 1) g22 F22.kp b22 G20 g20 F20.kp b20
  have GDS : FnOk P w K mg base CX0 5 _ _ _ (Xw.spDEs K) := Xe.fn_or ((GD 1).mono (by decide)) (GD 2)
  have G27 : FnOk P w K mg base CX0 _ _ _ _ _ := ok_wm F27 tw G20 g20 F20.kp b20 G21 g21 F21.kp b21 GDS g22 F22.kp b22 G28 g28 F28.kp b28
  have G29 : FnOk P w K mg base CX0 _ _ _ _ _ := ok_wd F29 tw G20 g20 F20.kp b20 G21 g21 F21.kp b21 G27 g27 F27.kp b27
  have G23 : FnOk P w K mg base CX0 _ _ _ _ _ := ok_mo F23
  have G25 : FnOk P w K mg base CX0 _ _ _ _ _ := ok_po F25 G23 g23 F23.kp b23
  have G26 : FnOk P w K mg base CX0 _ _ _ _ _ := ok_di F26 tw G20 g20 F20.kp b20 G25 g25 F25.kp b25
  have G30 : FnOk P w K mg base CX0 _ _ _ _ _ := ok_al F30 T G21 g21 F21.kp b21 g30 F30.kp b30
  have G31 : FnOk P w K mg base CX0 _ _ _ _ _ := ok_bi F31 T G25 g25 F25.kp b25
  exact ok_law F32 T XT z_repr TB hcv F24 g24 GWO g14 F14.kp b14 GBO g16 F16.kp b16 G19 g19 F19.kp b19 G29 g29 F29.kp b29 G20 g20 F20.kp b20 G21 g21 F21.kp b21 G26 g26 F26.kp b26 G31 g31 F31.kp b31 G30 g30 F30.kp b30 G18 g18 F18.kp b18 G25 g25 F25.kp b25
end E50
open PySem PySem.W PySem.Calls PyProof.Rows
theorem PySem.Challenge.cw_everycycle_k50_whole_words_and_bits_holds : PySem.Challenge.rw_everycycle_k50_whole_words_and_bits.Holds := by
  w_on; o_law
  refine HandSHeadRun.head_any (r := OpenLaw.row PySem.Challenge.rw_everycycle_k50_whole_words_and_bits) (q := view (OpenLaw.row PySem.Challenge.rw_everycycle_k50_whole_words_and_bits).prog [42]) (H := E50.hk) (ob := E50.ob) (M := 4000) (loose := [("CycleError" : PySem.Str), ("BadLine" : PySem.Str), ("BadRow" : PySem.Str), ("NoName" : PySem.Str), ("is_between" : PySem.Str), ("is_row" : PySem.Str), ("is_row_between" : PySem.Str), ("are_rows_of_bits" : PySem.Str), ("word_number" : PySem.Str), ("number_bits" : PySem.Str), ("of_kinds" : PySem.Str), ("greatest" : PySem.Str), ("are_words" : PySem.Str), ("input_widths" : PySem.Str), ("top_items" : PySem.Str), ("are_word_rows" : PySem.Str), ("widths_of_inputs" : PySem.Str), ("need_rows" : PySem.Str), ("words_of" : PySem.Str), ("words_in" : PySem.Str), ("bits_of" : PySem.Str), ("bits_in" : PySem.Str), ("filling" : PySem.Str), ("_law_pen" : PySem.Str), ("_law_draw" : PySem.Str), ("_law_pick" : PySem.Str), ("_law_drawn_expression" : PySem.Str), ("_law_module" : PySem.Str), ("_law_why" : PySem.Str), ("_law_ports" : PySem.Str), ("_law_drawn_inputs" : PySem.Str), ("_law_wide_module" : PySem.Str), ("_law_drawn_write" : PySem.Str), ("_law_wide_design" : PySem.Str), ("_law_as_lists" : PySem.Str), ("_law_bits" : PySem.Str)]) (d := HandSHeadRun.topDef (OpenLaw.row PySem.Challenge.rw_everycycle_k50_whole_words_and_bits).prog 42) (kwd := []) E50.ob_eq
    (by kernel_rfl) (fun s => by kernel_rfl) E50.run (by kernel_rfl) (by kernel_rfl) (by kernel_rfl) (by rfl) (by first | assumption | decide +kernel) (by decide +kernel) ⟨rfl, rfl, rfl, rfl, rfl, by decide +kernel⟩ ?hw ?hc
  case hw => w_witness2
  case hc =>
    refine Yt.walk_goT (l := PySem.Challenge.rw_everycycle_k50_whole_words_and_bits) (n := 63) (k := 8) (x := "_law_script") (CX := fun _ => L2.CX0) rfl (by decide) (by kernel_rfl) ⟨rfl, by decide, by decide⟩ ?F (fun _ _ _ _ _ z => z)
    intro w mg fa h Y G hmg0
    obtain ⟨K, KX, c⟩ := Y
    have hmg : mg ("law" : PySem.Str) = some (.ref fa) := by
      have e : (HandSHeadRun.topDef (OpenLaw.row PySem.Challenge.rw_everycycle_k50_whole_words_and_bits).prog 42).name = ("law" : PySem.Str) := by kernel_rfl
      rw [← e]
      exact hmg0
    obtain ⟨fd, hb, hF⟩ := E50.facts (P := (PySem.Challenge.rw_everycycle_k50_whole_words_and_bits).prog) (w := w) KX G hmg c
    exact ⟨K, fd, Xy.spLaw K (He.cT K ("law", none)).2, (He.cT K ("law", none)).1, (He.cT K ("law", none)).2, KX, c.empty _ List.mem_cons_self, c.out _ List.mem_cons_self, c.hd _ List.mem_cons_self, hb, fun H a ns hl hT hS => ⟨a, ns, rfl, hS, hl, hT, fun _ => rfl⟩, hF⟩
