import PyProof.Rows.All
import Wide.All
import OpenK.AllK
import Wide.FinOn
import Lean
import HandS.ForMost
import HandS.Codes
import HandS.Defaults
import HandS.Wide
import HandS.DeepEq
import HandS.Exc
import HandS.ExcInit
import HandS.ExcValue
import HandS.IsInst
import HandS.TupAny
import HandS.OwnEq
import HandS.Star
import HandS.SortInts
import HandS.Conv
import HandS.Style
import HandS.Head0
import HandS.Head1
import HandS.Head2
import HandS.HeadEnd
import HandS.HeadHook1
import HandS.HeadHook2
import HandS.HeadHook3
import HandS.HeadHook4
import HandS.ExcIs
import HandS.ExcField
import KE.KExcIs
import KE.GoesEnum
import HandS.Lambda
import HandS.EndTab
import HandS.ExcField
import HandS.ExcInit
import HandS.ExcIs
import PySem.Challenge.RW_everycycle_k18_whole_sure_values
import HandS.NoneIn
import KE.GoesMore
import KE.GoesZip
import KE.GoesEnum
import HandS.TupMul
import HandS.Deep
set_option Elab.async false
set_option linter.all false
set_option maxRecDepth 100000
set_option maxHeartbeats 4000000
namespace Gd
open PySem PySem.Spec PyProof.Rows L2
/-! ## What a def does where no repr is under way: the promise of FnOk, for such callers alone -/
structure FnG (P : Program) (w : World) (K : PySem.W.Frag) (mg : Str → Option Value) (base : Heap) (CX : CXT) (k : Nat) (f : Addr) (fd : FuncData) (ps : List Str) (sp : Sp) : Prop where
  many : ∀ vs H Q E, sp vs H Q E → vs.length = ps.length
  go : ∀ (A : Around) (fs : List Env) (s : Shared) (H : Hp) (ag : Args) (us : List Value) (vs : List V) (Q : VK) (E : XK), A.guards = some [] → Room k A → Env0 P w K mg base A fs s H →
    BindsTo s fd ag (ps.zip us) → Vals vs us → sp vs H Q E → codeAny (model P w) A (.call (.ref f) ag) (CR CX fs P w H s Q E) s
section
variable {P : Program} {w : World} {K : PySem.W.Frag} {mg : Str → Option Value} {base : Heap} {CX : CXT} {k : Nat} {f : Addr} {fd : FuncData} {ps : List Str} {sp : Sp}
theorem FnG.of (F : FnOk P w K mg base CX k f fd ps sp) : FnG P w K mg base CX k f fd ps sp := ⟨F.len, fun A fs s H ag us vs Q E _ => F.run A fs s H ag us vs Q E⟩
/-- from the def's body -/
theorem FnG.mk_of {x qual : Str} {params : Arguments} {body : List Stmt} {scope : Scope} {dvs : List V} {kws : List (Str × V)} {N : List Str}
    (F : FunD K x qual params body scope dvs kws f fd) (S : FnScope N ps scope) (many : ∀ vs H Q E, sp vs H Q E → vs.length = ps.length)
    (walk : ∀ (cv : Value) (A : Around) (fs : List Env) (s : Shared) (H : Hp) (vs : List V) (Q : VK) (E : XK), A.guards = some [] → Room k (A.deeper (envOfC qual scope s.heap.objs.size f cv)) → sp vs H Q E →
      ∃ t, PSs (cxOf CX P w K mg base N qual scope f cv A fs s H E) body t ∧ t { nx := fun _ H' => Q .non H', rt := Q } (start N vs) H) :
    FnG P w K mg base CX (k + 1) f fd ps sp := by
  obtain ⟨_, _, _, _, _, _, _, cv, _, _, rfl, look, code, _, _⟩ := F.ex
  refine ⟨many, fun A fs s H ag us vs Q E hg room e bind rel prom => ?_⟩
  have kin : K.In s.heap := e.mod.kin.keeps fun b u z => (e.bs b u z).1
  have kinds : ∀ y ∈ ps.zip us, scope.names.lookup y.1 = some .local ∨ (scope.names.lookup y.1 = some .cell ∧ ((cellsFrom (s.heap.objs.size + 1) scope.names []).lookup y.1).isSome = true) := by
    rintro ⟨y, u⟩ hy
    rcases S.par y (List.of_mem_zip hy).1 with q | q
    · exact Or.inl q
    · exact Or.inr ⟨q, PySem.W.cellsFrom_some _ _ _ (Or.inl q)⟩
  refine codeAny_call_function room.depth (kin _ _ look) rfl S.co S.gen rfl (PySem.W.codeRec_of kin code) (bind _ _ _ _ ?_)
  refine wpAny_newFunctionEnv_cells S.kind kinds ?_
  rintro env rfl s1 hs1
  refine ⟨(e.mod.nolimit.keeps fun b u z => (e.bs b u z).1).keeps hs1.toInCall.keep, codeAny_func ?_⟩
  obtain ⟨t, ht, q⟩ := walk cv A fs s H vs Q E hg (room.deeper _) prom
  have I := inv_start (CX := CX) (E := E) S room.hd e (many _ _ _ _ prom) rel hs1
  refine wpAny_mono (ht.run [] s1 (start N vs) H _ I q) (fun fl s2 z => ?_) (fun _ _ z => z)
  match fl, z with
  | .ret u, ⟨v, σ', H', J, rv, q⟩ => exact ⟨v, H', J.os, J.bare, J.base, J.hok, rv, q⟩
  | .next, ⟨σ', H', J, q⟩ => exact ⟨V.non, H', J.os, J.bare, J.base, J.hok, rfl, q⟩
  | .brk, ⟨_, _, _, q⟩ => exact q.elim
  | .cont, ⟨_, _, _, q⟩ => exact q.elim
end
/-- the script's object -/
abbrev scr (vs : List Value) : Obj := { cls := .type "list", data := .seq vs.toArray }
/-- the heap in which the script alone is tracked, if the top did not write it -/
def onlyScr (K : PySem.W.Frag) (a : Addr) (vs : List Value) (ns : List Int) : Hp := fun b => if b = a ∧ (K.lookup a).isNone = true then some (.frz (scr vs) (.lst (ns.map V.int))) else none
theorem onlyScr_get {K : PySem.W.Frag} {a b : Addr} {vs : List Value} {ns : List Int} {o : HO} (h : onlyScr K a vs ns b = some o) : b = a ∧ K.lookup a = none ∧ o = .frz (scr vs) (.lst (ns.map V.int)) := by
  unfold onlyScr at h
  split at h
  · rename_i c
    exact ⟨c.1, Option.isNone_iff_eq_none.mp c.2, (Option.some.inj h).symm⟩
  · cases h
/-- the law is called with its script -/
theorem law_go {P : Program} {w : World} {K : PySem.W.Frag} {mg mb : Str → Option Value} {CX : CXT} {k : Nat} {f a : Addr} {fd : FuncData} {x : Str} {sp : Sp} {s : Shared} {vs : List Value} {ns : List Int}
    (kin : K.In s.heap) (hm : s.heap.Ns mainGlobals mg) (hb : s.heap.Ns builtinsNs mb) (hbb : ∀ y : Str, y ≠ "__name__" → mb y = bootBuiltins y) (lim : s.heap.NoLimit) (hgen : s.gens = #[])
    (ha : s.heap.get? a = some (scr vs)) (hi : IntsAre vs ns) (hl : ns.length ≤ sizeLine) (hr : Room k callerA)
    (F : ∀ base : Heap, K.In base → base.Ns mainGlobals mg → FnG P w K mg base CX k f fd [x] sp) (bind : ∀ (s : Shared) (u : Value), BindsTo s fd ⟨[u], []⟩ [(x, u)])
    (prom : ∀ H : Hp, Only H → SqL K H a (ns.map V.int) → sp [.ref a] H (fun v _ => v = .bl true) fun _ _ _ => False)
    (none_out : ∀ H e s', CX [] H s (fun _ _ _ => False) e s' → False) :
    codeAny (model P w) callerA (.call (.ref f) ⟨[.ref a], []⟩) (fun r s' => r = .ok (.ret (.bool true)) ∧ OldK s.heap s'.heap ∧ s'.os = s.os ∧ AllBare s'.gens) s := by
  have hv := vals_ints hi
  have hlen := hi.length
  let H := onlyScr K a vs ns
  have gone : ∀ {b : Addr} {o : Obj}, K.lookup b = some o → H b = none := fun {b o} q => by
    cases e : H b with
    | none => rfl
    | some u =>
      obtain ⟨rfl, n, _⟩ := onlyScr_get e
      rw [n] at q
      cases q
  have ns_free : ∀ {b : Addr} {o : Obj} {es : Array DictEntry} {ep : Nat}, s.heap.get? b = some o → o.data = .dict es ep → H b = none := fun {b o es ep} q d => by
    cases e : H b with
    | none => rfl
    | some u =>
      obtain ⟨rfl, _, _⟩ := onlyScr_get e
      rw [ha] at q
      cases q
      cases d
  have stays : ∀ {b : Addr} {m : Str → Option Value}, s.heap.Ns b m → (hidT s.heap H).Ns b m := fun ⟨o, es, ep, q, d, r⟩ => ⟨o, es, ep, hidT_get q (ns_free q d), d, r⟩
  have kinT : K.In (hidT s.heap H) := fun b o q => hidT_get (kin b o q) (gone q)
  have hok : HOk P w H s.heap := fun b u q => by
    obtain ⟨rfl, _, rfl⟩ := onlyScr_get q
    exact ⟨ha, by rw [List.length_map]; exact hl, vs, _, hv, ha⟩
  have hO : Only H := fun b => by
    cases e : H b with
    | none => exact Or.inl rfl
    | some u =>
      obtain ⟨_, _, rfl⟩ := onlyScr_get e
      exact Or.inr ⟨_, _, rfl⟩
  have hS : SqL K H a (ns.map V.int) := by
    cases e : K.lookup a with
    | none => exact .inl (.inr ⟨scr vs, if_pos ⟨rfl, by rw [e]; rfl⟩⟩)
    | some o =>
      have q := kin a o e
      rw [ha] at q
      cases q
      exact .inr ⟨_, vs.toArray, _, e, rfl, rfl, rfl, by rw [List.size_toArray, hlen]; exact hl, by simpa using hv⟩
  obtain ⟨mc, l1, l2⟩ := lim
  have e0 : Env0 P w K mg (hidT s.heap H) callerA [] s H := by
    refine ⟨rfl, ⟨kinT, stays hm, ⟨mb, stays hb, hbb⟩, ⟨mc, stays l1, l2⟩⟩, fun b o q => of_hidT q, Nat.le_of_eq (hidT_size _ _), trivial, fun b q => ?_, hok, .of_eq hgen⟩
    cases q
  refine codeAny_mono ((F _ kinT (stays hm)).go callerA [] s H ⟨[.ref a], []⟩ [.ref a] [.ref a] _ _ rfl hr e0 (bind s (.ref a)) (.cons rfl .nil) (prom H hO hS)) fun r s' h => ?_
  match r, h with
  | .error e, h => exact (none_out H e s' h).elim
  | .ok .next, h => exact h.elim
  | .ok .brk, h => exact h.elim
  | .ok .cont, h => exact h.elim
  | .ok (.ret u), ⟨v, H', os, bare, un, hok', rv, q⟩ =>
    have q' : v = .bl true := q
    subst q'
    have hu : u = Value.bool true := rv
    subst hu
    refine ⟨rfl, OldK.of_keep fun b o z => ?_, os, bare⟩
    cases e : H b with
    | none => exact un.keep b o z e (by intro y; cases y) (by simp)
    | some t =>
      obtain ⟨rfl, _, rfl⟩ := onlyScr_get e
      rw [ha] at z
      cases z
      exact (hok' b _ (un.frzs b _ _ e)).1
/-- the end of a law -/
theorem walk_go {l : PySem.W.OpenLaw} {n k : Nat} {q : Program} {loose : List Str} {XP : (Str → Option Value) → Heap → Prop} {YP : World → Heap → Prop} {d : DefRec} {CX : CXT} {x : Str}
    (hn : l.most = some n) (hn2 : n ≤ sizeLine) (hdf : d.params.defaults = []) (hr : Room k callerA)
    (F : ∀ (w : World) (mg : Str → Option Value) (f : Addr) (h : Heap), YP w h → h.Ns mainGlobals mg → mg d.name = some (.ref f) → ∃ (K : PySem.W.Frag) (fd : FuncData) (sp : Sp), K.In h ∧ (∀ (s : Shared) (u : Value), BindsTo s fd ⟨[u], []⟩ [(x, u)]) ∧
      (∀ (H : Hp) (a : Addr) (ns : List Int), ns.length ≤ n → Only H → SqL K H a (ns.map V.int) → sp [.ref a] H (fun v _ => v = .bl true) fun _ _ _ => False) ∧ ∀ base : Heap, K.In base → base.Ns mainGlobals mg → FnG l.prog w K mg base CX k f fd [x] sp)
    (none_out : ∀ (H : Hp) (s : Shared) (e : Value) (s' : Shared), CX [] H s (fun _ _ _ => False) e s' → False) : PySem.W.WalkO q loose XP YP l.row.toRowW d [] (fun f vs => PySem.call f vs) :=
  Att.attach_call hn hdf fun w _ s _ _ f _ _ _ _ a _ ns G Y _ _ _ hmg hobj hints hlen hgen =>
    let ⟨_, _, _, kin, bind, prom, ok⟩ := F w _ f _ Y G.T.g hmg
    law_go kin G.T.g G.T.b G.T.builtins G.T.nolimit hgen hobj hints (Nat.le_trans hlen hn2) hr ok bind (fun H hO hS => prom H a ns hlen hO hS) fun H e s' => none_out H s e s'
/-! ## repr of data -/
section
variable {X : Cx}
/-- repr(x), x data of any depth but dicts -/
def rRepr (K : PySem.W.Frag) : List V → Hp → VK → Prop := fun xs H Q => ∃ (a : Addr) (d : PyData), xs = [.ref a] ∧ Dp K H (.ref a) d ∧ d.showable = true ∧ d.hasDict = false ∧ d.depth ≤ 60 ∧ d.shown.length ≤ sizeLine ∧ Q (.str d.shown) H
theorem call_repr {k : Nat} (hg : X.A.guards = some []) (hr : Room k X.A) : CallR X (.builtin "repr") (rRepr X.K) := by
  intro pins s σ H xs us Q I r h
  obtain ⟨a, d, rfl, hd, h1, h2, h3, h4, q⟩ := h
  obtain ⟨u, rfl, ru⟩ := vals1 r
  obtain ⟨as, rd⟩ := Dp.reads I d _ u hd ru
  have hu : u = Value.ref a := ru
  subst hu
  have room := hr.un
  refine repr_of_reads' rd h1 (fun z => by rw [h2] at z; cases z) hg (by omega) (fun _ _ e => e) (fun h' t tk hk => ?_) h4
  exact ⟨.str d.shown, H, I.kept hk, ⟨t, rfl⟩, q⟩
end
end Gd
namespace Gv
open PySem PySem.Spec PyProof.Rows L2
/-- repr(x), x any data but dicts -/
def rReprV (K : PySem.W.Frag) : List V → Hp → VK → Prop := fun xs H Q => ∃ (v : V) (d : PyData), xs = [v] ∧ Dp K H v d ∧ d.showable = true ∧ d.hasDict = false ∧ d.depth ≤ 60 ∧ d.shown.length ≤ sizeLine ∧ Q (.str d.shown) H
theorem call_reprV {X : Cx} {k : Nat} (hg : X.A.guards = some []) (hr : Room k X.A) : CallR X (.builtin "repr") (rReprV X.K) := by
  intro pins s σ H xs us Q I r h
  obtain ⟨v, d, rfl, hd, h1, h2, h3, h4, q⟩ := h
  cases hd with
  | lst a b => exact Gd.call_repr hg hr pins s σ H _ us Q I r ⟨_, _, rfl, .lst a b, h1, h2, h3, h4, q⟩
  | tup a b => exact Gd.call_repr hg hr pins s σ H _ us Q I r ⟨_, _, rfl, .tup a b, h1, h2, h3, h4, q⟩
  | non =>
    obtain ⟨u, rfl, ru⟩ := vals1 r
    have hu : u = Value.none := ru
    subst hu
    exact PySem.P.repr_of_none ⟨.str "None", H, I.tok _, ⟨_, rfl⟩, q⟩
  | bl b =>
    obtain ⟨u, rfl, ru⟩ := vals1 r
    have hu : u = Value.bool b := ru
    subst hu
    exact PySem.P.repr_of_bool ⟨.str _, H, I.tok _, ⟨_, rfl⟩, q⟩
  | int i =>
    obtain ⟨u, rfl, t, rfl⟩ := vals1 r
    exact PySem.P.repr_of_int (of_decide_eq_true h1) ⟨.str _, H, I.tok _, ⟨_, rfl⟩, q⟩
  | str x =>
    obtain ⟨u, rfl, t, rfl⟩ := vals1 r
    exact PySem.P.repr_of_str ⟨.str _, H, I.tok _, ⟨_, rfl⟩, q⟩ h4
end Gv
namespace Wy
open PySem PySem.Spec PyProof.Rows L2
/-! ## try: body, except x as n: suite, except y as n: suite, .. -/
abbrev TA1 := Addr → Value → Option Addr → TS
/-- the ends of a suite whose name, slot i, goes -/
def gone (i : Nat) (D : Ends) : Ends := ⟨fun σ2 H2 => D.nx (σ2.set i none) H2, D.rt, fun σ2 H2 => D.bk (σ2.set i none) H2, fun σ2 H2 => D.ct (σ2.set i none) H2⟩
/-- what the clauses wish of an exception; slot i is the name's -/
def wAll (K : PySem.W.Frag) (i : Nat) (Wo : WX) (D : Ends) : List (Value × TA1) → WX
  | [] => Wo
  | q :: r => fun cls d σ H => ∃ b, PySem.W.exmOne K cls q.1 = some b ∧ (b = true → ∀ a, H a = none → q.2 a cls d (gone i D) (σ.set i (some (.ref a))) H) ∧ (b = false → wAll K i Wo D r cls d σ H)
inductive Hds (X : Cx) (n : Str) : List ExceptHandler → List (Value × TA1) → Prop
  | nil : Hds X n [] []
  | cons {x : Str} {c : Value} {ts : TA1} {b0 : Stmt} {su : List Stmt} {p1 p2 : Pos} {hs : List ExceptHandler} {l : List (Value × TA1)} (names : Names X x c)
      (walk : ∀ (a : Addr) (oe : Obj) (cls : Value) (d : Option Addr) (pn : List (Addr × Obj)), Zc cls d oe → (∃ vs, oe.data = .fields vs) → PSs (X.suite a ((a, oe) :: pn)) (b0 :: su) (ts a cls d))
      (rest : Hds X n hs l) : Hds X n (.ExceptHandler (some (.Name x p1)) (some n) (b0 :: su) p2 :: hs) ((c, ts) :: l)
section
variable {X : Cx} {n : Str} {i : Nat} {body : List Stmt} {h0 : ExceptHandler} {hs : List ExceptHandler} {l : List (Value × TA1)} {pos : Pos} {tb : WX → TS} {Wo : WX}
theorem ps_try_all (stk : X.stack = X.env :: X.outer) (fr : X.env.frame = some X.env.locals) (nd : X.N.Nodup) (at_ : X.N[i]? = some n) (isL : X.env.kindOf n = some .local) (tk : Takes X Wo)
    (wb : ∀ (W : WX) (pn : List (Addr × Obj)) (xe : Value → Shared → Prop), Takes (X.tr pn xe) W → PassesOwn (model X.prog X.w) X.A X.env xe → PSs (X.tr pn xe) body (tb W)) (wh : Hds X n (h0 :: hs) l) :
    PS X (.Try body (h0 :: hs) [] [] pos) fun D σ H => tb (fun cls d σ1 H1 => σ1.length = X.N.length → wAll X.K i Wo D l cls d σ1 H1) D σ H := by
  refine ⟨fun pins s σ H D I prom => ?_⟩
  have ok := I.ok
  have frames : X.A.frames = some (X.env :: X.outer) := by rw [ok.frames, stk]
  refine wpAny_Try_except (wpAny_mono ((wb (fun cls d σ1 H1 => σ1.length = X.N.length → wAll X.K i Wo D l cls d σ1 H1) (X.pn ++ pins) (fun e s1 => wpAny (model X.prog X.w) X.A (noteFrame e X.env) (fun _ s2 => wpAny (model X.prog X.w) X.A (setFlight e none) (fun _ s3 =>
    wpAny (model X.prog X.w) X.A (handleBy e X.env (h0 :: hs)) (SP X pins D) X.xe s3) X.xe s2) X.xe s1) ?_ PassesOwn.looking).run [] s σ H D (I.toTry _) prom) ?_ fun _ _ z => z)
  · rintro u s1 ⟨a, B, s0, pins', σ1, H1, cls, d, rfl, J0, nb, up, sky, na, os, ag, w⟩
    have J : Inv X pins σ1 H1 s0 := J0.ofTry ok
    rw [show (X.tr (X.pn ++ pins) _).stack = X.env :: X.outer from stk] at sky
    show wpAny (model X.prog X.w) X.A (noteFrame (.ref a) X.env) _ _ _
    refine Sky.land Zc.steady frames fr sky fun h1 fl1 up1 => ?_
    have J1 : Inv X pins σ1 H1 { s1 with heap := h1 } := J.landed nb fl1.1 (up.trans up1) os ag
    obtain ⟨o1, f1, e1, z1, d1⟩ := fl1.there
    have nfr : a ∉ frs (X.env :: X.outer) := fun m => by
      obtain ⟨_, o2, e2, no⟩ := fl1.2.2.1.mem m
      rw [e1] at e2
      cases e2
      exact no _ d1
    have nL : a ≠ X.env.locals := fun z => nfr (List.mem_filterMap.mpr ⟨X.env, List.mem_cons_self, by rw [fr, z]⟩)
    have nF : a ∉ X.fs := fun m => by
      obtain ⟨e, he, q⟩ := List.mem_filterMap.mp m
      exact nfr (List.mem_filterMap.mpr ⟨e, List.mem_cons_of_mem _ he, q⟩)
    have S1 := J1.suite e1 d1 na nL nF
    suffices go : ∀ {hs' : List ExceptHandler} {l' : List (Value × TA1)}, Hds X n hs' l' → wAll X.K i Wo D l' cls d σ1 H1 → wpAny (model X.prog X.w) X.A (handleBy (.ref a) X.env hs') (SP X pins D) X.xe { s1 with heap := h1 } from go wh (w J.len)
    intro hs' l' k
    induction k with
    | nil =>
      intro w
      refine wpAny_handleBy_nil ?_
      obtain ⟨_, _, _, o3, f3, T, _, _, e3, _, d3, g3, _⟩ := id fl1
      unfold PySem.passOn
      refine wpAny_bind (wpAny_field e3 d3 g3 ?_)
      rw [if_neg (by simp : ¬ ((Value.ref T == Value.none) = true))]
      have last : wpAny (model X.prog X.w) X.A (setFlight (.ref a) X.env.frame) (fun _ s4 => wpAny (model X.prog X.w) X.A (throw (.ref a) : Sem Flow) (SP X pins D) X.xe s4) X.xe { s1 with heap := h1 } := by
        rw [fr]
        exact HandSPX.setFlight_upZ fl1 fun h4 hh4 up4 => wpAny_throw (tk _ _ ⟨a, B, s0, pins, σ1, H1, cls, d, rfl, J, nb, (up.trans up1).trans up4, .inr (.inr (by rw [stk]; exact hh4)), na, os, ag, w⟩)
      first
        | exact wpAny_bind (wpAny_pure (wpAny_bind last))
        | exact wpAny_bind last
    | @cons x c ts b0 su p1 p2 hs2 l2 names walk rest ih =>
      intro w
      obtain ⟨b, hit, yes, no⟩ := w
      refine wpAny_handleBy_cons (codeAny_handlers_test ?_) (by intro q; cases q)
      have look : PySem.W.Looks (model X.prog X.w) h1 (typeOf (.ref a)) cls := fun A Q E s k q => wpAny_typeOf_ref (k _ _ e1) (by rw [z1.1]; exact q)
      have LM := PySem.W.exm_one (M := model X.prog X.w) J1.kIn look hit
      have test : ∀ {Q E : Value → Shared → Prop}, Q c { s1 with heap := h1 } → wpAny (model X.prog X.w) (X.A.mark (some (.ref a))) (eval (.Name x p1) X.env) Q E { s1 with heap := h1 } := fun {Q E} q => by
        obtain ⟨g, db, m | ⟨m, v, nn⟩⟩ := names
        · exact ld_glob (X := X.suite a ((a, o1) :: (X.pn ++ pins))) S1 g m q db
        · exact ld_blt (X := X.suite a ((a, o1) :: (X.pn ++ pins))) S1 g m v q nn db
      refine test (LM.here ?_)
      cases b with
      | false => exact ih (no rfl)
      | true =>
        refine codeAny_handlers_suite_as (HandSPX.lands_againZ fl1 fun h4 fl4 up4 => ?_)
        have J4 : Inv X pins σ1 H1 { s1 with heap := h4 } := J.landed nb fl4.1 ((up.trans up1).trans up4) os ag
        obtain ⟨o4, f4, e4, z4, d4⟩ := fl4.there
        refine store_ok (X := X.suite a ((a, o4) :: (X.pn ++ pins))) (v := .ref a) (J4.suite e4 d4 na nL nF) nd at_ (.inl isL) rfl (fun s5 S5 => ?_) (.inr isL)
        refine wpAny_mono ((walk a o4 cls d (X.pn ++ pins) z4 ⟨_, d4⟩).run [] s5 _ H1 _ S5 (yes rfl a na)) (fun f s6 z => ?_) fun _ _ z => False.elim z
        have bye : ∀ {σ6 : L2.St} {H6 : Hp} {Q : Shared → Prop}, Inv (X.suite a ((a, o4) :: (X.pn ++ pins))) [] σ6 H6 s6 → (∀ s7, Inv X pins (σ6.set i none) H6 s7 → Q s7) →
            wpAny (model X.prog X.w) X.A (do bindName X.env n .none; unbindBehindTheSuite X.env n p2) (fun _ s7 => Q s7) X.xe s6 := fun {σ6 H6 Q} S6 q => gone_ok (S6.unsuite ok) nd at_ isL q
        match f, z with
        | .next, ⟨_, _, S6, q6⟩ => exact bye S6 fun s7 J7 => ⟨_, _, J7, q6⟩
        | .brk, ⟨_, _, S6, q6⟩ => exact bye S6 fun s7 J7 => ⟨_, _, J7, q6⟩
        | .cont, ⟨_, _, S6, q6⟩ => exact bye S6 fun s7 J7 => ⟨_, _, J7, q6⟩
        | .ret u, ⟨_, _, _, S6, r6, q6⟩ => exact bye S6 fun s7 J7 => ⟨_, _, _, J7, r6, q6⟩
  · intro f s1 z
    match f, z with
    | .next, ⟨_, _, J, q⟩ => exact wpAny_execs_nil ⟨_, _, J.ofTry ok, q⟩
    | .brk, ⟨_, _, J, q⟩ => exact ⟨_, _, J.ofTry ok, q⟩
    | .cont, ⟨_, _, J, q⟩ => exact ⟨_, _, J.ofTry ok, q⟩
    | .ret u, ⟨_, _, _, J, r, q⟩ => exact ⟨_, _, _, J.ofTry ok, r, q⟩
end
/-! ## repr where an exception is handled -/
theorem call_repU {X : Cx} (hg : X.A.guards = some []) (hu : X.A.units + 100 < cLine) : CallR X (.builtin "repr") (Gv.rReprV X.K) := by
  intro pins s σ H xs us Q I r h
  obtain ⟨v, d, rfl, hd, h1, h2, h3, h4, q⟩ := h
  obtain ⟨u, rfl, ru⟩ := vals1 r
  have keep := hd
  cases hd with
  | non => cases (show u = Value.none from ru); exact PySem.P.repr_of_none ⟨.str "None", H, I.tok _, ⟨_, rfl⟩, q⟩
  | bl b => cases (show u = Value.bool b from ru); exact PySem.P.repr_of_bool ⟨.str _, H, I.tok _, ⟨_, rfl⟩, q⟩
  | int i => obtain ⟨t, rfl⟩ := ru; exact PySem.P.repr_of_int (of_decide_eq_true h1) ⟨.str _, H, I.tok _, ⟨_, rfl⟩, q⟩
  | str x => obtain ⟨t, rfl⟩ := ru; exact PySem.P.repr_of_str ⟨.str _, H, I.tok _, ⟨_, rfl⟩, q⟩ h4
  | lst a b =>
    obtain ⟨as, rd⟩ := Dp.reads I _ _ u keep ru
    cases (show u = Value.ref _ from ru)
    exact repr_of_reads' rd h1 (fun z => by rw [h2] at z; cases z) hg (by omega) (fun _ _ e => e) (fun h' t tk hk => ⟨.str _, H, I.kept hk, ⟨t, rfl⟩, q⟩) h4
  | tup a b =>
    obtain ⟨as, rd⟩ := Dp.reads I _ _ u keep ru
    cases (show u = Value.ref _ from ru)
    exact repr_of_reads' rd h1 (fun z => by rw [h2] at z; cases z) hg (by omega) (fun _ _ e => e) (fun h' t tk hk => ⟨.str _, H, I.kept hk, ⟨t, rfl⟩, q⟩) h4
theorem call_repK {X : Cx} {K : PySem.W.Frag} (hK : X.K = K) (hg : X.A.guards = some []) (hu : X.A.units + 100 < cLine) : CallR X (.builtin "repr") (Gv.rReprV K) := hK ▸ call_repU hg hu
theorem pe_xfK {X : Cx} {K : PySem.W.Frag} {a C : Addr} {oe : Obj} {cls : Value} {d : Option Addr} {pn : List (Addr × Obj)} {e : Expr} {te : TE} {pos : Pos} {n : Str} (T : XfC K C) (hK : X.K = K) (hno : NoAttr K C n) (hz : Zc cls d oe) (hf : ∃ vs, oe.data = .fields vs)
    (he : PE (X.suite a ((a, oe) :: pn)) e te) (hb : attributeBase e n X.env (eval e X.env) = eval e X.env) : PE (X.suite a ((a, oe) :: pn)) (.Attribute e n pos) (tXf a cls d C n te) := by
  subst hK
  exact pe_xf T hno hz hf he hb
end Wy
namespace Yd
open PySem PySem.Spec PyProof.Rows L2 Wy
/-! ## repr of a value that may be a dict of one pair of ints -/
def D1 (i j : Int) : PyData := .dict [(.int i, .int j)]
/-- repr of v reads x -/
def Says (K : PySem.W.Frag) (H : Hp) (v : V) (x : Str) : Prop :=
  (∃ d, Dp K H v d ∧ d.showable = true ∧ d.hasDict = false ∧ d.depth ≤ 60 ∧ d.shown.length ≤ sizeLine ∧ x = d.shown) ∨
  ∃ (a : Addr) (i j : Int), v = .ref a ∧ H a = some (.dK [(.inl i, .int j)]) ∧ (D1 i j).showable = true ∧ (D1 i j).shown.length ≤ sizeLine ∧ x = (D1 i j).shown
theorem dict_reads {P : Program} {w : World} {H : Hp} {h : Heap} {a : Addr} {i j : Int} (ok : HOk P w H h) (e : H a = some (.dK [(.inl i, .int j)])) : ∃ as, Reads h (.ref a) (D1 i j) as ∧ sysModules ∉ as := by
  obtain ⟨_, ns, vs, kv, o, es, ep, ho, ex, hd, _, ps, _⟩ := (show ObjOk P w H h a (.dK [(.inl i, .int j)]) from ok a _ e)
  obtain ⟨k, u, rfl, e1, r2⟩ : ∃ k u, vs = [(k, u)] ∧ (Sum.inl i : Key) = k ∧ RelV (.int j) u := by
    cases kv with
    | cons r1 rest =>
      cases rest
      exact ⟨_, _, rfl, r1.1, r1.2⟩
  subst e1
  obtain ⟨t2, rfl⟩ := (show ∃ t, u = Value.int j t from r2)
  generalize hl : es.toList = el at ps
  cases ps with
  | cons hk hv hr =>
    rename_i en er
    cases hr
    rcases keyIs_shape (show keyIs (Sum.inl i) en.key = true from hk) with ⟨i', t1, e2, ek⟩ | ⟨x, t1, e2, _⟩
    · cases e2
      have hv : en.val = Value.int j t2 := hv
      refine ⟨_, .dict (kvs := [(.int i, .int j)]) ho ex.1 hd (by rw [hl]; show ReadsAll h [en.key] [.int i] _; rw [ek]; exact .cons (.int i t1) .nil) (by rw [hl]; show ReadsAll h [en.val] [.int j] _; rw [hv]; exact .cons (.int j t2) .nil), ?_⟩
      have na : a ≠ sysModules := beq_eq_false_iff_ne.mp ns
      simpa using Ne.symm na
    · cases e2
theorem d1_depth (i j : Int) : (D1 i j).depth ≤ 2 := by simp [D1, PyData.depth, PyData.depthAll, PyData.depthKv]
/-- repr(x) -/
def rSays (K : PySem.W.Frag) : List V → Hp → VK → Prop := fun xs H Q => ∃ (v : V) (x : Str), xs = [v] ∧ Says K H v x ∧ Q (.str x) H
theorem call_says {X : Cx} {K : PySem.W.Frag} (hK : X.K = K) (hg : X.A.guards = some []) (hu : X.A.units + 100 < cLine) : CallR X (.builtin "repr") (rSays K) := by
  subst hK
  intro pins s σ H xs us Q I r h
  obtain ⟨v, x, rfl, h, q⟩ := h
  rcases h with ⟨d, h1, h2, h3, h4, h5, rfl⟩ | ⟨a, i, j, rfl, h1, h2, h3, rfl⟩
  · exact call_repU hg hu pins s σ H _ us Q I r ⟨v, d, rfl, h1, h2, h3, h4, h5, q⟩
  · obtain ⟨u, rfl, ru⟩ := vals1 r
    cases (show u = Value.ref a from ru)
    obtain ⟨as, rd, ns⟩ := dict_reads I.hok h1
    exact repr_of_reads' rd h2 (fun _ => ns) hg (by have := d1_depth i j; omega) (fun _ _ e => e) (fun h' t tk hk => ⟨.str _, H, I.kept hk, ⟨t, rfl⟩, q⟩) h3
end Yd
namespace Dat
open PySem PySem.Spec PyProof.Rows L2
/-! ## Data of any depth: its kind, and that it stays -/
def isIntD : PyData → Bool
  | .int _ => true
  | .bool _ => true
  | _ => false
def isBoolD : PyData → Bool
  | .bool _ => true
  | _ => false
def isRowD : PyData → Bool
  | .list _ => true
  | .tuple _ => true
  | _ => false
def clsD : PyData → String
  | .none => "NoneType"
  | .bool _ => "bool"
  | .int _ => "int"
  | .str _ => "str"
  | .list _ => "list"
  | .tuple _ => "tuple"
  | .dict _ => "dict"
section
variable {K : PySem.W.Frag} {H H' : Hp} {v : V} {d : PyData}
theorem ty_list {a : Addr} {xs : List V} (h : SqL K H a xs) : TyX K H (.ref a) (.type "list") := by
  rcases h with (h | ⟨o, h⟩) | ⟨o, its, n, h1, h2, _⟩
  · exact .base (.lst h)
  · exact .base (.frz h)
  · exact .kList h1 h2
theorem ty_tup {a : Addr} {xs : List V} (h : SqT K H a xs) : TyX K H (.ref a) (.type "tuple") := by
  rcases h with (h | ⟨o, h⟩) | ⟨o, its, n, h1, h2, _⟩
  · exact .base (.tup h)
  · exact .fTuple h
  · exact .kTuple h1 h2
theorem ty_of (h : Dp K H v d) : TyX K H v (.type (clsD d)) := by
  cases h with
  | non => exact .base .non
  | bl b => exact .base (.bl b)
  | int i => exact .base (.int i)
  | str x => exact .base (.str x)
  | lst hs _ => exact ty_list hs
  | tup hs _ => exact ty_tup hs
theorem kit_int (h : Dp K H v d) : PySem.W.kitOne K (.type (clsD d)) (.type "int") = some (isIntD d) := by
  cases h with
  | non => exact kit_ty (a := "NoneType") (b := "int") (r := false) (by decide +kernel)
  | bl _ => exact kit_ty (a := "bool") (b := "int") (r := true) (by decide +kernel)
  | int _ => exact kit_ty (a := "int") (b := "int") (r := true) (by decide +kernel)
  | str _ => exact kit_ty (a := "str") (b := "int") (r := false) (by decide +kernel)
  | lst _ _ => exact kit_ty (a := "list") (b := "int") (r := false) (by decide +kernel)
  | tup _ _ => exact kit_ty (a := "tuple") (b := "int") (r := false) (by decide +kernel)
theorem kit_bool (h : Dp K H v d) : PySem.W.kitOne K (.type (clsD d)) (.type "bool") = some (isBoolD d) := by
  cases h with
  | non => exact kit_ty (a := "NoneType") (b := "bool") (r := false) (by decide +kernel)
  | bl _ => exact kit_ty (a := "bool") (b := "bool") (r := true) (by decide +kernel)
  | int _ => exact kit_ty (a := "int") (b := "bool") (r := false) (by decide +kernel)
  | str _ => exact kit_ty (a := "str") (b := "bool") (r := false) (by decide +kernel)
  | lst _ _ => exact kit_ty (a := "list") (b := "bool") (r := false) (by decide +kernel)
  | tup _ _ => exact kit_ty (a := "tuple") (b := "bool") (r := false) (by decide +kernel)
theorem kit_row (h : Dp K H v d) : PySem.W.kitAny K (.type (clsD d)) [.type "tuple", .type "list"] = some (isRowD d) := by
  cases h with
  | non => exact kitAny_cons (b := false) (kit_ty (a := "NoneType") (b := "tuple") (r := false) (by decide +kernel)) (fun _ => kitAny_cons (b := false) (kit_ty (a := "NoneType") (b := "list") (r := false) (by decide +kernel)) (fun _ => rfl) (fun z => by cases z)) (fun z => by cases z)
  | bl _ => exact kitAny_cons (b := false) (kit_ty (a := "bool") (b := "tuple") (r := false) (by decide +kernel)) (fun _ => kitAny_cons (b := false) (kit_ty (a := "bool") (b := "list") (r := false) (by decide +kernel)) (fun _ => rfl) (fun z => by cases z)) (fun z => by cases z)
  | int _ => exact kitAny_cons (b := false) (kit_ty (a := "int") (b := "tuple") (r := false) (by decide +kernel)) (fun _ => kitAny_cons (b := false) (kit_ty (a := "int") (b := "list") (r := false) (by decide +kernel)) (fun _ => rfl) (fun z => by cases z)) (fun z => by cases z)
  | str _ => exact kitAny_cons (b := false) (kit_ty (a := "str") (b := "tuple") (r := false) (by decide +kernel)) (fun _ => kitAny_cons (b := false) (kit_ty (a := "str") (b := "list") (r := false) (by decide +kernel)) (fun _ => rfl) (fun z => by cases z)) (fun z => by cases z)
  | lst _ _ => exact kitAny_cons (b := false) (kit_ty (a := "list") (b := "tuple") (r := false) (by decide +kernel)) (fun _ => kitAny_cons (b := true) (kit_ty (a := "list") (b := "list") (r := true) (by decide +kernel)) (fun z => by cases z) (fun _ => rfl)) (fun z => by cases z)
  | tup _ _ => exact kitAny_cons (b := true) (kit_ty (a := "tuple") (b := "tuple") (r := true) (by decide +kernel)) (fun z => by cases z) (fun _ => rfl)
theorem seqT_same {a : Addr} {xs : List V} (s : Same H H') (h : SqT K H a xs) : SqT K H' a xs :=
  h.elim (fun h => .inl (h.elim (fun h => .inl (s _ _ h)) fun ⟨o, h⟩ => .inr ⟨o, s _ _ h⟩)) .inr
mutual
theorem dp_same (s : Same H H') : ∀ {d : PyData} {v : V}, Dp K H v d → Dp K H' v d
  | .none, _, h => by
    cases h
    exact .non
  | .bool b, _, h => by
    cases h
    exact .bl b
  | .int i, _, h => by
    cases h
    exact .int i
  | .str x, _, h => by
    cases h
    exact .str x
  | .list ds, _, h => by
    cases h with
    | lst hs ha => exact .lst (s.seq hs) (dps_same s ha)
  | .tuple ds, _, h => by
    cases h with
    | tup hs ha => exact .tup (seqT_same s hs) (dps_same s ha)
  | .dict _, _, h => by cases h
theorem dps_same (s : Same H H') : ∀ {ds : List PyData} {vs : List V}, DpAll K H vs ds → DpAll K H' vs ds
  | [], _, h => by
    cases h
    exact .nil
  | d :: ds, _, h => by
    cases h with
    | cons h1 h2 => exact .cons (dp_same s h1) (dps_same s h2)
end
theorem dps_len : ∀ {vs : List V} {ds : List PyData}, DpAll K H vs ds → vs.length = ds.length
  | _, [], h => by
    cases h
    rfl
  | _, _ :: _, h => by
    cases h with
    | cons _ h2 => exact congrArg Nat.succ (dps_len h2)
theorem dps_get : ∀ {vs : List V} {ds : List PyData}, DpAll K H vs ds → ∀ {i : Nat} {v : V}, vs[i]? = some v → ∃ d, ds[i]? = some d ∧ Dp K H v d
  | _, [], h, i, v, e => by
    cases h
    simp at e
  | _, d :: ds, h, i, v, e => by
    cases h with
    | cons h1 h2 =>
      cases i with
      | zero =>
        simp at e
        subst e
        exact ⟨d, rfl, h1⟩
      | succ i =>
        simp at e
        obtain ⟨d', q1, q2⟩ := dps_get h2 e
        exact ⟨d', by simpa using q1, q2⟩
end
end Dat
namespace Pen
open PySem
def top (i : Nat) : Stmt := PySem.Challenge.pw_everycycle_k18_whole_sure_values.main.body.getD i (.Pass ⟨0, 0, 0, 0⟩)
abbrev cBadN : Stmt := top 2
abbrev cBadR : Stmt := top 3
abbrev sBetween : Stmt := top 5
abbrev sFrom : Stmt := top 6
abbrev sRow : Stmt := top 7
abbrev sRowB : Stmt := top 8
abbrev cGraph : Stmt := top 10
abbrev sNeed : Stmt := top 11
abbrev sGates : Stmt := top 12
abbrev sNode : Stmt := top 13
abbrev sLit : Stmt := top 14
abbrev sAreS : Stmt := top 15
abbrev sSure : Stmt := top 16
abbrev sSAnd : Stmt := top 17
abbrev sPen : Stmt := top 19
abbrev sDraw : Stmt := top 20
abbrev sPick : Stmt := top 21
abbrev sDrawn : Stmt := top 22
abbrev sValues : Stmt := top 23
abbrev sBit : Stmt := top 24
abbrev sLonger : Stmt := top 25
abbrev sRows : Stmt := top 26
abbrev sWhy : Stmt := top 27
abbrev sOwnS : Stmt := top 28
abbrev sThree : Stmt := top 29
abbrev sLaw : Stmt := top 30
end Pen
namespace Pen
open PySem PySem.Spec PyProof.Rows L2
/-! ## The pen: the source of all draws. Its three defs, once for each law -/
abbrev FnP (K : PySem.W.Frag) (x : Str) (st : Stmt) (f : Addr) (fd : FuncData) : Prop := FunD K x x (defArgs st) (defBody st) (defScope st) [] [] f fd
/-- the pen's pairs: cells, at, digits, count, fold -/
def cols (c : Addr) (a d n f : Int) : List (Key × V) := [(.inr "cells", .ref c), (.inr "at", .int a), (.inr "digits", .int d), (.inr "count", .int n), (.inr "fold", .int f)]
section
variable {c : Addr} {a d n f z : Int}
theorem get_cells : valV (cols c a d n f) (.inr "cells" : Key) = some (.ref c) := by rfl
theorem get_at : valV (cols c a d n f) (.inr "at" : Key) = some (.int a) := by rfl
theorem get_digits : valV (cols c a d n f) (.inr "digits" : Key) = some (.int d) := by rfl
theorem get_count : valV (cols c a d n f) (.inr "count" : Key) = some (.int n) := by rfl
theorem get_fold : valV (cols c a d n f) (.inr "fold" : Key) = some (.int f) := by rfl
theorem put_at : putK (cols c a d n f) (.inr "at" : Key) (.int z) = cols c z d n f := by rfl
theorem put_digits : putK (cols c a d n f) (.inr "digits" : Key) (.int z) = cols c a z n f := by rfl
theorem put_count : putK (cols c a d n f) (.inr "count" : Key) (.int z) = cols c a d z f := by rfl
theorem put_fold : putK (cols c a d n f) (.inr "fold" : Key) (.int z) = cols c a d n z := by rfl
variable {H : Hp} {p : Addr}
theorem dg_cells (h : H p = some (.dK (cols c a d n f))) : DGet H p (.str "cells") (some (.ref c)) := DGet.k (k := .inr "cells") h
theorem dg_at (h : H p = some (.dK (cols c a d n f))) : DGet H p (.str "at") (some (.int a)) := DGet.k (k := .inr "at") h
theorem dg_digits (h : H p = some (.dK (cols c a d n f))) : DGet H p (.str "digits") (some (.int d)) := DGet.k (k := .inr "digits") h
theorem dg_count (h : H p = some (.dK (cols c a d n f))) : DGet H p (.str "count") (some (.int n)) := DGet.k (k := .inr "count") h
theorem dg_fold (h : H p = some (.dK (cols c a d n f))) : DGet H p (.str "fold") (some (.int f)) := DGet.k (k := .inr "fold") h
theorem five : 5 < sizeLine := by decide
theorem dp_at (h : H p = some (.dK (cols c a d n f))) : DPut H p (.str "at") (.int z) (upd H p (.dK (cols c z d n f))) := DPut.k (k := .inr "at") h five
theorem dp_digits (h : H p = some (.dK (cols c a d n f))) : DPut H p (.str "digits") (.int z) (upd H p (.dK (cols c a z n f))) := DPut.k (k := .inr "digits") h five
theorem dp_count (h : H p = some (.dK (cols c a d n f))) : DPut H p (.str "count") (.int z) (upd H p (.dK (cols c a d z f))) := DPut.k (k := .inr "count") h five
theorem dp_fold (h : H p = some (.dK (cols c a d n f))) : DPut H p (.str "fold") (.int z) (upd H p (.dK (cols c a d n z))) := DPut.k (k := .inr "fold") h five
end
/-- a pen stands at p, its cells at c; so many draws were made at most -/
def PenC (H : Hp) (p c : Addr) (m : Nat) : Prop :=
  ∃ (ns : List Int) (a d n f : Int), H p = some (.dK (cols c a d n f)) ∧ H c = some (.lst (ns.map V.int)) ∧ ns.length ≤ 1000 ∧ 0 ≤ a ∧ 0 ≤ n ∧ n ≤ m ∧ 0 ≤ f ∧ f < 2147483648
/-- all but the object at p stands as it stood -/
def But (p : Addr) (H H' : Hp) : Prop := ∀ b o, H b = some o → b ≠ p → H' b = some o
theorem But.upd {p : Addr} {H : Hp} {o : HO} : But p H (upd H p o) := fun b o e h => by
  rw [upd_ne h]
  exact e
theorem But.trans {p : Addr} {H H1 H2 : Hp} (a : But p H H1) (b : But p H1 H2) : But p H H2 := fun c o e h => b c o (a c o e h) h
theorem But.refl {p : Addr} {H : Hp} : But p H H := fun _ _ e _ => e
theorem But.of_same {p : Addr} {H H' : Hp} (s : Same H H') : But p H H' := fun c o e _ => s c o e
theorem PenC.same {H H' : Hp} {p c : Addr} {m : Nat} (h : PenC H p c m) (s : Same H H') : PenC H' p c m := by
  obtain ⟨ns, a, d, n, f, h1, h2, r⟩ := h
  exact ⟨ns, a, d, n, f, s _ _ h1, s _ _ h2, r⟩
theorem PenC.more {H : Hp} {p c : Addr} {m m' : Nat} (h : PenC H p c m) (s : m ≤ m') : PenC H p c m' := by
  obtain ⟨ns, a, d, n, f, h1, h2, h3, ha, h4, h5, r⟩ := h
  exact ⟨ns, a, d, n, f, h1, h2, h3, ha, h4, by omega, r⟩
theorem PenC.upd {H : Hp} {p c q : Addr} {m : Nat} {o : HO} (h : PenC H p c m) (n1 : q ≠ p) (n2 : q ≠ c) : PenC (upd H q o) p c m := by
  obtain ⟨ns, a, d, n, f, h1, h2, r⟩ := h
  exact ⟨ns, a, d, n, f, by rw [upd_ne n1.symm]; exact h1, by rw [upd_ne n2.symm]; exact h2, r⟩
theorem PenC.free {H : Hp} {p c q : Addr} {m : Nat} (h : PenC H p c m) (e : H q = none) : q ≠ p ∧ q ≠ c := by
  obtain ⟨ns, a, d, n, f, h1, h2, r⟩ := h
  refine ⟨fun z => ?_, fun z => ?_⟩
  · rw [z, h1] at e
    cases e
  · rw [z, h2] at e
    cases e
/-- the script, as each def is handed it -/
def spPen (K : PySem.W.Frag) : Sp := fun vs H Q _ => ∃ (a : Addr) (ns : List Int), vs = [.ref a] ∧ SqL K H a (ns.map V.int) ∧ ns.length ≤ 63 ∧
  ∀ (p c : Addr) (H' : Hp), H p = none → Same H H' → PenC H' p c 0 → Q (.ref p) H'
def spDraw : Sp := fun vs H Q _ => ∃ (p c : Addr) (m : Nat) (many : Int), vs = [.ref p, .int many] ∧ PenC H p c m ∧ m ≤ 1000000000000 ∧ 0 < many ∧ many < 1073741824 ∧
  ∀ (r : Int) (H' : Hp), 0 ≤ r → r < many → PenC H' p c (m + 1) → But p H H' → Q (.int r) H'
def spPick (K : PySem.W.Frag) : Sp := fun vs H Q _ => ∃ (p c l : Addr) (m : Nat) (xs : List V), vs = [.ref p, .ref l] ∧ PenC H p c m ∧ m ≤ 1000000000000 ∧ l ≠ p ∧ SqL K H l xs ∧ 0 < xs.length ∧ xs.length ≤ 1000 ∧
  ∀ (v : V) (i : Nat) (H' : Hp), xs[i]? = some v → PenC H' p c (m + 1) → But p H H' → Q v H'
abbrev pN : List Str := ["_law_script", "_law_fold", "_law_cell"]
abbrev dN : List Str := ["_law_pen_here", "_law_many", "_law_cell", "_law_digit", "_law_blend"]
abbrev kN : List Str := ["_law_pen_here", "_law_some"]
theorem int_item {ns : List Int} {i : Nat} {y : V} (h : (ns.map V.int)[i]? = some y) : ∃ z, y = V.int z := by
  rw [List.getElem?_map] at h
  cases e : ns[i]? with
  | none =>
    rw [e] at h
    cases h
  | some u =>
    rw [e] at h
    exact ⟨u, (Option.some.inj h).symm⟩
structure Txt (mg : Str → Option Value) : Prop where
  len : mg "len" = none
  int : mg "int" = none
  list : mg "list" = none
section
variable {P : Program} {w : World} {K : PySem.W.Frag} {mg : Str → Option Value} {base : Heap} {f : Addr} {fd : FuncData}
theorem scPen : FnScope pN ["_law_script"] (defScope sPen) := ⟨rfl, rfl, rfl, by decide +kernel, rfl, by decide +kernel, by decide +kernel⟩
theorem scDraw : FnScope dN ["_law_pen_here", "_law_many"] (defScope sDraw) := ⟨rfl, rfl, rfl, by decide +kernel, rfl, by decide +kernel, by decide +kernel⟩
theorem scPick : FnScope kN ["_law_pen_here", "_law_some"] (defScope sPick) := ⟨rfl, rfl, rfl, by decide +kernel, rfl, by decide +kernel, by decide +kernel⟩
theorem ok_pen {CX : CXT} (F : FnP K "_law_pen" sPen f fd) (T : Txt mg) : FnOk P w K mg base CX 1 f fd ["_law_script"] (spPen K) := by
  refine F.ok scPen (fun vs H Q E h => ?_) (fun cdv A outer s H vs Q E hr h => ?_)
  · obtain ⟨a, ns, rfl, _⟩ := h
    rfl
  · obtain ⟨a, ns, rfl, hS, hl, k⟩ := h
    refine ⟨_, PSs.nox (pss_cons (ps_set (i := 1) scPen.nd rfl (Or.inl rfl) pe_int)
      (pss_cons (ps_for PassesOwn.never rfl (pi_list (pv 0)) (pg_name (i := 2) scPen.nd rfl (Or.inl rfl))
        (pss_one (ps_set (i := 1) scPen.nd rfl (Or.inl rfl) (pe_op op_mod (pe_callTy call_int1 (by rfl) T.int (by decide +kernel) (pa_cons (pe_op op_add (pe_op op_mul (pv 1) pe_int) (pv 2)) pa_nil)) pe_int))))
      (pss_one (ps_ret (pe_disp (pps_cons pe_str (pe_callTy call_list_of (by rfl) T.list (by decide +kernel) (pa_cons (pv 0) pa_nil)) (pps_cons pe_str pe_int (pps_cons pe_str pe_int (pps_cons pe_str pe_int (pps_cons pe_str (pv 1) pps_nil))))) (by rfl) (by rfl) (fun z => by cases z) (by decide)))))), ?_⟩
    refine ⟨_, rfl, a, rfl, ⟨_, hS⟩, for_list (K := K) (a := a) (xs := ns.map V.int) (fun i σ H2 => ∃ (z : Int) (v : Option V), σ = [some (.ref a), some (.int z), v] ∧ H2 = H ∧ 0 ≤ z ∧ z < 1000000007)
      ⟨0, none, rfl, rfl, by decide, by decide⟩ (fun i σ H2 _ ⟨_, _, _, e, _⟩ => by rw [e]; exact hS) ?_ ?_⟩
    · rintro i y σ H2 hi ⟨z, v, rfl, rfl, h0, h1⟩
      obtain ⟨u, rfl⟩ := int_item hi
      refine ⟨_, rfl, _, _, rfl, rfl, .inr ⟨by decide, by decide⟩, _, rfl, _, _, rfl, rfl, .inl ⟨_, rfl, _, _, rfl, rfl, (by show (0 : Int) < 1000000007; decide), ?_⟩⟩
      exact ⟨_, _, rfl, rfl, Int.emod_nonneg _ (by decide), Int.emod_lt_of_pos _ (by decide)⟩
    · rintro σ H2 ⟨z, v, rfl, rfl, h0, h1⟩
      intro p hp
      have sp : Same H2 (upd H2 p (.dK [])) := fun b o e => by
        rw [upd_ne (ne_of_none e hp)]
        exact e
      refine ⟨_, rfl, a, _, rfl, .inl (sp.seq hS), fun l hl0 => ?_⟩
      have npl : p ≠ l := fun q => by
        rw [← q, upd_same] at hl0
        cases hl0
      have hl1 : H2 l = none := by
        rw [upd_ne npl.symm] at hl0
        exact hl0
      refine ⟨_, rfl, by rw [upd_ne npl, upd_same], cols l 0 0 0 z, rfl, (by show 5 ≤ 15; decide), ?_⟩
      refine k p l _ hp (fun b o e => ?_) ⟨ns, 0, 0, 0, z, upd_same, ?_, by omega, by decide, by decide, by decide, h0, by omega⟩
      · rw [upd_ne (ne_of_none e hp), upd_ne (ne_of_none e hl1), upd_ne (ne_of_none e hp)]
        exact e
      · rw [upd_ne npl.symm, upd_same]
theorem ok_draw {CX : CXT} (F : FnP K "_law_draw" sDraw f fd) (T : Txt mg) : FnOk P w K mg base CX 1 f fd ["_law_pen_here", "_law_many"] spDraw := by
  refine F.ok scDraw (fun vs H Q E h => ?_) (fun cdv A outer s H vs Q E hr h => ?_)
  · obtain ⟨p, c, m, many, rfl, _⟩ := h
    rfl
  · obtain ⟨p, c, m, many, rfl, ⟨ns, a, d, n, fo, hp, hc, hz, a0, n0, nm, f0, f1⟩, hm, m0, m1, k⟩ := h
    have hu := hu_of hr
    have ncp : c ≠ p := ne_of hc hp (by intro z; cases z)
    refine ⟨_, PSs.nox (pss_cons (ps_dput hu (pv 0) pe_str (pe_op op_add (pe_dget hu (pv 0) pe_str (fun _ _ => rfl)) pe_int) rfl)
      (C8.pss_cut (ps_if (PW.pt (pw_and (pt_cmpR op_eq (pe_dget hu (pv 0) pe_str (fun _ _ => rfl)) pe_int (nomark _))
          (pw_and1 (pt_cmpR op_lt (pe_dget hu (pv 0) pe_str (fun _ _ => rfl)) (pe_callB call_len_seq (by rfl) T.len PySem.boot_len (pa_cons (pe_dget hu (pv 0) pe_str (fun _ _ => rfl)) pa_nil)) (nomark _)))))
        (pss_cons (ps_set (i := 2) scDraw.nd rfl (Or.inl rfl) (pe_ix ix_list (pe_dget hu (pv 0) pe_str (fun _ _ => rfl)) (pe_dget hu (pv 0) pe_str (fun _ _ => rfl)) (fun _ _ => rfl)))
        (pss_cons (ps_dput hu (pv 0) pe_str (pe_op op_add (pe_dget hu (pv 0) pe_str (fun _ _ => rfl)) pe_int) rfl)
        (pss_one (ps_if (pt_cmpR op_ge (pv 2) (pe_op op_pow pe_int pe_int) (nomark _))
          (pss_one (ps_dput hu (pv 0) pe_str (pe_op op_sub (pv 2) (pe_op op_pow pe_int pe_int)) rfl))
          (pss_one (ps_dput hu (pv 0) pe_str (pe_op op_mod (pe_callTy call_int1 (by rfl) T.int (by decide +kernel) (pa_cons (pe_op op_add (pe_op op_mul (pe_dget hu (pv 0) pe_str (fun _ _ => rfl)) pe_int) (pv 2)) pa_nil)) pe_int) rfl))))))
        pss_nil)
      (pss_cons (ps_if (pt_cmpR op_gt (pe_dget hu (pv 0) pe_str (fun _ _ => rfl)) pe_int (nomark _))
        (pss_cons (ps_set (i := 3) scDraw.nd rfl (Or.inl rfl) (pe_op op_mod (pe_callTy call_int1 (by rfl) T.int (by decide +kernel) (pa_cons (pe_dget hu (pv 0) pe_str (fun _ _ => rfl)) pa_nil)) (pv 1)))
        (pss_cons (ps_dput hu (pv 0) pe_str (pe_op op_fdiv (pe_dget hu (pv 0) pe_str (fun _ _ => rfl)) (pv 1)) rfl)
        (pss_one (ps_ret (pv 3)))))
        pss_nil)
      (pss_cons (ps_set (i := 4) scDraw.nd rfl (Or.inl rfl) (pe_op op_add (pe_op op_add (pe_dget hu (pv 0) pe_str (fun _ _ => rfl)) (pe_op op_mul (pe_dget hu (pv 0) pe_str (fun _ _ => rfl)) pe_int)) pe_int))
      (pss_one (ps_ret (pe_op op_mod (pe_op op_fdiv (pe_callTy call_int1 (by rfl) T.int (by decide +kernel) (pa_cons (pe_op op_mod (pe_op op_pow (pv 4) pe_int) pe_int) pa_nil)) pe_int) (pv 1)))))))), ?_⟩
    -- count
    refine ⟨_, rfl, _, _, rfl, dg_count hp, _, _, rfl, rfl, _, rfl, p, _, rfl, dp_count hp, ?_⟩
    have hp1 : ∀ {o : HO}, upd H p o p = some o := upd_same
    have hc1 : ∀ {o : HO}, upd H p o c = some (.lst (ns.map V.int)) := by
      intro o
      rw [upd_ne ncp]
      exact hc
    refine ⟨fun σ H2 => ∃ (a' d' fo' : Int) (cell : Option V), σ = [some (.ref p), some (.int many), cell, none, none] ∧ H2 = upd H p (.dK (cols c a' d' (n + 1) fo')) ∧ 0 ≤ a' ∧ 0 ≤ fo' ∧ fo' < 2147483648, ?_, ?_⟩
    · refine ⟨_, rfl, _, _, rfl, dg_digits hp1, rfl, _, rfl, ?_⟩
      refine ite2 (fun _ => ?_) (fun _ => ?_)
      · refine ⟨_, rfl, _, _, rfl, dg_at hp1, _, rfl, _, _, rfl, dg_cells hp1, _, _, rfl, .inl (SqL.of hc1), _, _, rfl, rfl, _, rfl, ?_⟩
        refine ite2 (fun hlt => ?_) (fun _ => ?_)
        · have hlt := of_decide_eq_true hlt
          have hj : a.toNat < (ns.map V.int).length := by omega
          obtain ⟨u, hu2⟩ := int_item (List.getElem?_eq_getElem hj)
          have hit : (ns.map V.int)[a.toNat]? = some (V.int u) := by
            rw [List.getElem?_eq_getElem hj, hu2]
          refine ⟨_, rfl, _, _, rfl, dg_cells hp1, _, rfl, _, _, rfl, dg_at hp1, _, _, _, _, rfl, rfl, SqL.of hc1, at_of (j := a.toNat) (by omega) hit, ?_⟩
          refine ⟨_, rfl, _, _, rfl, dg_at hp1, _, _, rfl, rfl, _, rfl, p, _, rfl, dp_at hp1, ?_⟩
          rw [upd_upd]
          refine ⟨_, rfl, _, _, rfl, rfl, ⟨by decide, by decide, by decide⟩, _, _, rfl, rfl, _, rfl, ?_⟩
          refine ite2 (fun _ => ?_) (fun _ => ?_)
          · refine ⟨_, rfl, _, _, rfl, rfl, ⟨by decide, by decide, by decide⟩, _, _, rfl, rfl, _, rfl, p, _, rfl, dp_digits hp1, ?_⟩
            rw [upd_upd]
            exact ⟨_, _, _, _, rfl, rfl, by omega, f0, f1⟩
          · refine ⟨_, rfl, _, _, rfl, dg_fold hp1, _, _, rfl, rfl, .inr ⟨by decide, by decide⟩, _, rfl, _, _, rfl, rfl, .inl ⟨_, rfl, _, _, rfl, rfl, (by show (0 : Int) < 2147483587; decide), ?_⟩⟩
            refine ⟨_, rfl, p, _, rfl, dp_fold hp1, ?_⟩
            rw [upd_upd]
            exact ⟨_, _, _, _, rfl, rfl, by omega, Int.emod_nonneg _ (by decide), Int.lt_trans (Int.emod_lt_of_pos _ (by decide)) (by decide)⟩
        · exact ⟨_, _, _, _, rfl, rfl, a0, f0, f1⟩
      · exact ⟨_, _, _, _, rfl, rfl, a0, f0, f1⟩
    · rintro σ H2 ⟨a', d', fo', cell, rfl, rfl, h0, g0, g1⟩
      refine ⟨_, rfl, _, _, rfl, dg_digits hp1, _, _, rfl, rfl, _, rfl, ?_⟩
      refine ite2 (fun _ => ?_) (fun _ => ?_)
      · refine ⟨_, rfl, _, _, rfl, dg_digits hp1, .inl ⟨_, rfl, _, rfl, _, _, rfl, rfl, m0, ?_⟩⟩
        refine ⟨_, rfl, _, _, rfl, dg_digits hp1, _, rfl, _, _, rfl, rfl, ⟨m0, m1⟩, _, rfl, p, _, rfl, dp_digits hp1, ?_⟩
        rw [upd_upd]
        refine ⟨_, rfl, k _ _ (Int.emod_nonneg _ (by omega)) (Int.emod_lt_of_pos _ m0) ⟨ns, _, _, _, _, hp1, hc1, hz, h0, by omega, by omega, g0, g1⟩ But.upd⟩
      · refine ⟨_, rfl, _, _, rfl, dg_fold hp1, _, rfl, _, _, rfl, dg_count hp1, _, _, rfl, rfl, .inr ⟨by decide, by decide⟩, _, _, rfl, rfl, _, _, rfl, rfl, ?_⟩
        refine ⟨_, rfl, _, _, rfl, rfl, ⟨by decide, by decide, ?_⟩, _, _, rfl, rfl, (by show (0 : Int) < 2305843009213693951; decide), .inl ⟨_, rfl, _, _, rfl, rfl, ⟨by decide, by decide⟩, _, rfl, _, _, rfl, rfl, m0, ?_⟩⟩
        · omega
        · exact k _ _ (Int.emod_nonneg _ (by omega)) (Int.emod_lt_of_pos _ m0) ⟨ns, _, _, _, _, hp1, hc1, hz, h0, by omega, by omega, g0, g1⟩ But.upd
theorem ok_pick {CX : CXT} {fD : Addr} {fdD : FuncData} (F : FnP K "_law_pick" sPick f fd) (T : Txt mg) (FD : FnP K "_law_draw" sDraw fD fdD) (gD : mg "_law_draw" = some (.ref fD)) (hCX : ∀ X, Passes CX X E0 := by exact fun X => pass0) : FnOk P w K mg base CX 2 f fd ["_law_pen_here", "_law_some"] (spPick K) := by
  have GD : FnOk P w K mg base CX0 1 fD fdD ["_law_pen_here", "_law_many"] spDraw := ok_draw FD T
  have bD : Binds K fdD ["_law_pen_here", "_law_many"] [] := FD.bindsN fun _ _ _ _ _ _ us hl => match us, hl with | [_, _], _ => rfl
  refine F.ok scPick (fun vs H Q E h => ?_) (fun cdv A outer s H vs Q E hr h => ?_)
  · obtain ⟨p, c, l, m, xs, rfl, _⟩ := h
    rfl
  · obtain ⟨p, c, l, m, xs, rfl, hP, hm, hlp, hS, h0, h1, k⟩ := h
    refine ⟨_, PSs.nox (pss_one (ps_ret (pe_ix ix_list (pv 1) (pe_call GD hr rfl gD FD.kp bD .nil pass0 (pa_cons (pv 0) (pa_cons (pe_callB call_len_seq (by rfl) T.len PySem.boot_len (pa_cons (pv 1) pa_nil)) pa_nil))) (fun _ _ => rfl)))), ?_⟩
    refine ⟨_, rfl, _, rfl, _, rfl, _, _, rfl, .inl hS, p, c, m, _, rfl, hP, hm, by omega, by omega, fun r H' r0 r1 hP' hB => ?_⟩
    have hj : r.toNat < xs.length := by omega
    have hS' : SqL K H' l xs := by
      rcases hS with (h | ⟨o, h⟩) | h
      · exact .inl (.inl (hB _ _ h hlp))
      · exact .inl (.inr ⟨o, hB _ _ h hlp⟩)
      · exact .inr h
    exact ⟨_, _, _, _, rfl, rfl, hS', at_of (j := r.toNat) (by omega) (List.getElem?_eq_getElem hj), k _ _ _ (List.getElem?_eq_getElem hj) hP' hB⟩
end
end Pen
namespace Yh
open PySem PySem.Spec PyProof.Rows L2 LamX Pen Wy Yd
/-! ## The def that tells what a call raised -/
theorem len3 {a b c : V} : [a, b, c].length ≤ sizeLine := (by decide : 3 ≤ sizeLine)
theorem len2 {a b : V} : [a, b].length ≤ sizeLine := (by decide : 2 ≤ sizeLine)
/-- what the telling def asks of the exception -/
def WhyE (K : PySem.W.Frag) (CN CR : Addr) (Q : VK) : XK := fun cls d H1 => ∃ dd fs, d = some dd ∧ H1 dd = some (.xd fs) ∧
  ((cls = .ref CN ∧ ∃ (m : Str) (v : V) (x : Str), fs.lookup ("what" : Str) = some (.str m) ∧ fs.lookup ("number" : Str) = some v ∧ Says K H1 v x ∧ ∀ t, H1 t = none → Q (.ref t) (upd H1 t (.tup [.str "number", .str m, .str x]))) ∨
   (cls = .ref CR ∧ ∃ (v : V) (x : Str), fs.lookup ("row" : Str) = some v ∧ Says K H1 v x ∧ ∀ t, H1 t = none → Q (.ref t) (upd H1 t (.tup [.str "row", .str x]))))
/-- what it makes of the call's reading -/
def TWhy (K : PySem.W.Frag) (CN CR : Addr) : (XK → Hp → VK → Prop) → Hp → VK → Prop := fun tl H Q => tl (WhyE K CN CR Q) H fun _ H1 => Q .non H1
abbrev yN : List Str := ["_law_call", "e"]
theorem scWhy : FnScope yN ["_law_call"] (defScope sWhy) := ⟨rfl, rfl, rfl, by decide +kernel, rfl, by decide +kernel, by decide +kernel⟩
structure Tw (K : PySem.W.Frag) (mg : Str → Option Value) (CN CR : Addr) : Prop where
  mN : mg "BadNumber" = some (.ref CN)
  mR : mg "BadRow" = some (.ref CR)
  nn : PySem.W.exmOne K (.ref CN) (.ref CN) = some true
  rn : PySem.W.exmOne K (.ref CR) (.ref CN) = some false
  rr : PySem.W.exmOne K (.ref CR) (.ref CR) = some true
  xN : XfC K CN
  xR : XfC K CR
  nw : NoAttr K CN "what"
  nb : NoAttr K CN "number"
  nr : NoAttr K CR "row"
  rep : mg "repr" = none
abbrev whyX (X : Cx) (g : Addr) (cdg : Value) (s : Shared) (H : Hp) : Cx := (cxOf C8.CX0 X.prog X.w X.K X.mg X.base yN "_law_why" (defScope sWhy) g cdg X.A X.stack s H C8.E0).nox
theorem why_gives {X : Cx} {q : Str} {g CN CR : Addr} {cdg : Value} {k : Nat} (T : Tw X.K X.mg CN CR) (hg : X.A.guards = some []) (hr : Room (k + 1) X.A) : GivesTo X yN "_law_why" (defScope sWhy) g cdg (defBody sWhy) "_law_call" q (TWhy X.K CN CR) := by
  intro f c' s H Q tl act hc h
  have un := hr.un
  refine ⟨_, pss_cons (ps_try_all (i := 1) (n := "e") (X := whyX X g cdg s H)
      (tb := fun W D σ H => ∃ Ech : XK, (∀ cls d σ' H', Ech cls d H' → W cls d σ' H') ∧ σ[0]? = some (some (.ref f)) ∧ H c' = some (CodeO c' q) ∧ tl Ech H fun _ H1 => D.nx σ H1)
      rfl rfl scWhy.nd rfl (by rfl) takes0 (fun W pn xe tk _ => ?_)
      (.cons (c := .ref CN) ⟨by rfl, by decide, .inl T.mN⟩ (fun a oe cls d pn hz hf => pss_one (ps_ret (pe_tup (pa_cons pe_str (pa_cons (pe_xfK T.xN rfl T.nw hz hf (pv 1) rfl) (pa_cons (pe_callB (id := "repr") (r := rSays X.K) (call_says (X := (whyX X g cdg s H).suite a ((a, oe) :: pn)) (K := X.K) rfl hg (by show X.A.units + 3 + 100 < cLine; omega)) (by rfl) T.rep (by decide +kernel) (pa_cons (pe_xfK T.xN rfl T.nb hz hf (pv 1) rfl) pa_nil)) pa_nil))))))
      (.cons (c := .ref CR) ⟨by rfl, by decide, .inl T.mR⟩ (fun a oe cls d pn hz hf => pss_one (ps_ret (pe_tup (pa_cons pe_str (pa_cons (pe_callB (id := "repr") (r := rSays X.K) (call_says (X := (whyX X g cdg s H).suite a ((a, oe) :: pn)) (K := X.K) rfl hg (by show X.A.units + 3 + 100 < cLine; omega)) (by rfl) T.rep (by decide +kernel) (pa_cons (pe_xfK T.xR rfl T.nr hz hf (pv 1) rfl) pa_nil)) pa_nil)))))
      .nil)))
    (pss_one (ps_ret pe_non)), ?_⟩
  · refine ⟨fun pins s' σ H' D I h' => ?_⟩
    obtain ⟨Ech, hW, h1, h2, h3⟩ := h'
    exact (pss_one (ps_expr (act W pn xe Ech _ _ tk hW))).run pins s' σ H' D I ⟨h1, h2, h3⟩
  · refine ⟨_, fun cls d σ' H1 x lz => ?_, rfl, hc, h⟩
    obtain ⟨dd, fs, rfl, hd, x⟩ := x
    obtain ⟨w0, w1, rfl⟩ : ∃ w0 w1 : Option V, σ' = [w0, w1] := match σ', lz with | [w0, w1], _ => ⟨w0, w1, rfl⟩
    rcases x with ⟨rfl, m, v, dat, f1, f2, tl, q⟩ | ⟨rfl, v, dat, f2, tl, q⟩
    · refine ⟨true, T.nn, fun _ a na => ?_, fun z => by cases z⟩
      refine ⟨_, rfl, rfl, rfl, dd, fs, .str m, rfl, hd, f1, ?_⟩
      exact ⟨_, rfl, rfl, rfl, dd, fs, v, rfl, hd, f2, v, dat, rfl, tl, len3, q⟩
    · refine ⟨false, T.rn, (fun z => by cases z), fun _ => ⟨true, T.rr, fun _ a na => ?_, fun z => by cases z⟩⟩
      exact ⟨_, rfl, rfl, rfl, dd, fs, v, rfl, hd, f2, v, dat, rfl, tl, len2, q⟩
end Yh
namespace Ki
open PySem PySem.Spec PyProof.Rows L2 Pen Dat
/-! ## Of which kind a value is -/
structure Tx (mg : Str → Option Value) : Prop where
  isi : mg "isinstance" = none
  int : mg "int" = none
  bool : mg "bool" = none
  tuple : mg "tuple" = none
  list : mg "list" = none
  len : mg "len" = none
  all : mg "all" = none
def betD (d : PyData) (lo hi : Int) : Bool :=
  match d with
  | .int i => decide (lo ≤ i) && decide (i ≤ hi)
  | _ => false
def fromD (d : PyData) (lo : Int) : Bool :=
  match d with
  | .int i => decide (i ≥ lo)
  | _ => false
def rowsD (d : PyData) : List PyData :=
  match d with
  | .list ds => ds
  | .tuple ds => ds
  | _ => []
def rowB (d : PyData) (many lo hi : Int) : Bool := isRowD d && (decide (((rowsD d).length : Int) = many) && (rowsD d).all fun e => betD e lo hi)
def spBetween (K : PySem.W.Frag) : Sp := fun vs H Q _ => ∃ (v : V) (lo hi : Int) (d : PyData), vs = [v, .int lo, .int hi] ∧ Dp K H v d ∧ Q (.bl (betD d lo hi)) H
def spFrom (K : PySem.W.Frag) : Sp := fun vs H Q _ => ∃ (v : V) (lo : Int) (d : PyData), vs = [v, .int lo] ∧ Dp K H v d ∧ Q (.bl (fromD d lo)) H
def spRow (K : PySem.W.Frag) : Sp := fun vs H Q _ => ∃ (v : V) (d : PyData), vs = [v] ∧ Dp K H v d ∧ ∀ H', Same H H' → Q (.bl (isRowD d)) H'
def spRowB (K : PySem.W.Frag) : Sp := fun vs H Q _ => ∃ (v : V) (many lo hi : Int) (d : PyData), vs = [v, .int many, .int lo, .int hi] ∧ Dp K H v d ∧ (rowsD d).length ≤ 1000 ∧ ∀ H', Same H H' → Q (.bl (rowB d many lo hi)) H'
section
variable {P : Program} {w : World} {K : PySem.W.Frag} {mg : Str → Option Value} {base : Heap} {f : Addr} {fd : FuncData}
theorem same_new {H : Hp} {p : Addr} {u : HO} (np : H p = none) : Same H (upd H p u) := fun b o e => by
  rw [upd_ne (ne_of_none e np)]
  exact e
theorem scBetween : FnScope ["value", "least", "most"] ["value", "least", "most"] (defScope sBetween) := ⟨rfl, rfl, rfl, by decide +kernel, rfl, by decide +kernel, by decide +kernel⟩
theorem scFrom : FnScope ["value", "least"] ["value", "least"] (defScope sFrom) := ⟨rfl, rfl, rfl, by decide +kernel, rfl, by decide +kernel, by decide +kernel⟩
theorem scRow : FnScope ["value"] ["value"] (defScope sRow) := ⟨rfl, rfl, rfl, by decide +kernel, rfl, by decide +kernel, by decide +kernel⟩
abbrev rbN : List Str := ["value", "many", "least", "most", "part"]
theorem scRowB : FnScope rbN ["value", "many", "least", "most"] (defScope sRowB) := ⟨rfl, rfl, rfl, by decide +kernel, rfl, by decide +kernel, by decide +kernel⟩
theorem ok_between (F : FnP K "is_between" sBetween f fd) (T : Tx mg) : FnOk P w K mg base CX0 1 f fd ["value", "least", "most"] (spBetween K) := by
  refine F.ok scBetween (fun vs H Q E h => ?_) (fun cdv A outer s H vs Q E hr h => ?_)
  · obtain ⟨v, lo, hi, d, rfl, _⟩ := h
    rfl
  · obtain ⟨v, lo, hi, d, rfl, hd, q⟩ := h
    refine ⟨_, PSs.nox (pss_one (ps_ret (pe_and (pe_callB call_isi (by rfl) T.isi (by decide +kernel) (pa_cons (pv 0) (pa_cons (pe_bltn (v := .ty "int") (by rfl) T.int (by decide +kernel) rfl) pa_nil)))
      (pe_and (pe_not (pe_callB call_isi (by rfl) T.isi (by decide +kernel) (pa_cons (pv 0) (pa_cons (pe_bltn (v := .ty "bool") (by rfl) T.bool (by decide +kernel) rfl) pa_nil))))
      (pe_one (pe_chain op_le op_le (pv 1) (pv 0) (pv 2))))))), ?_⟩
    refine ⟨_, rfl, _, _, _, _, _, rfl, .ty _, ty_of hd, kit_int hd, _, rfl, ?_⟩
    have kb := kit_bool hd
    have tb := ty_of hd
    cases hd with
    | non => exact iteF q
    | str x => exact iteF q
    | lst _ _ => exact iteF q
    | tup _ _ => exact iteF q
    | bl b => exact iteT ⟨_, rfl, _, _, _, _, _, rfl, .ty _, tb, kb, _, rfl, _, rfl, iteF q⟩
    | int i =>
      refine iteT ⟨_, rfl, _, _, _, _, _, rfl, .ty _, tb, kb, _, rfl, _, rfl, iteT ?_⟩
      refine ⟨_, rfl, _, rfl, _, _, rfl, rfl, _, rfl, ite2 (fun h1 => ?_) (fun h1 => ?_)⟩
      · refine ⟨_, rfl, _, _, rfl, rfl, ?_⟩
        have e : (decide (lo ≤ i) && decide (i ≤ hi)) = decide (i ≤ hi) := by
          rw [h1]
          rfl
        show Q (V.bl (decide (i ≤ hi))) H
        rw [← e]
        exact q
      · have e : (decide (lo ≤ i) && decide (i ≤ hi)) = false := by
          rw [Bool.eq_false_iff.mpr h1]
          rfl
        show Q (V.bl false) H
        rw [← e]
        exact q
theorem ok_from (F : FnP K "is_from" sFrom f fd) (T : Tx mg) : FnOk P w K mg base CX0 1 f fd ["value", "least"] (spFrom K) := by
  refine F.ok scFrom (fun vs H Q E h => ?_) (fun cdv A outer s H vs Q E hr h => ?_)
  · obtain ⟨v, lo, d, rfl, _⟩ := h
    rfl
  · obtain ⟨v, lo, d, rfl, hd, q⟩ := h
    refine ⟨_, PSs.nox (pss_one (ps_ret (pe_and (pe_callB call_isi (by rfl) T.isi (by decide +kernel) (pa_cons (pv 0) (pa_cons (pe_bltn (v := .ty "int") (by rfl) T.int (by decide +kernel) rfl) pa_nil)))
      (pe_and (pe_not (pe_callB call_isi (by rfl) T.isi (by decide +kernel) (pa_cons (pv 0) (pa_cons (pe_bltn (v := .ty "bool") (by rfl) T.bool (by decide +kernel) rfl) pa_nil))))
      (pe_one (pe_cmpR op_ge (pv 0) (pv 1) (nomark _))))))), ?_⟩
    refine ⟨_, rfl, _, _, _, _, _, rfl, .ty _, ty_of hd, kit_int hd, _, rfl, ?_⟩
    have kb := kit_bool hd
    have tb := ty_of hd
    cases hd with
    | non => exact iteF q
    | str x => exact iteF q
    | lst _ _ => exact iteF q
    | tup _ _ => exact iteF q
    | bl b => exact iteT ⟨_, rfl, _, _, _, _, _, rfl, .ty _, tb, kb, _, rfl, _, rfl, iteF q⟩
    | int i =>
      refine iteT ⟨_, rfl, _, _, _, _, _, rfl, .ty _, tb, kb, _, rfl, _, rfl, iteT ?_⟩
      exact ⟨_, rfl, _, rfl, _, _, rfl, rfl, q⟩
theorem ok_row (F : FnP K "is_row" sRow f fd) (T : Tx mg) : FnOk P w K mg base CX0 1 f fd ["value"] (spRow K) := by
  refine F.ok scRow (fun vs H Q E h => ?_) (fun cdv A outer s H vs Q E hr h => ?_)
  · obtain ⟨v, d, rfl, _⟩ := h
    rfl
  · obtain ⟨v, d, rfl, hd, q⟩ := h
    refine ⟨_, PSs.nox (pss_one (ps_ret (pe_callB call_isiT (by rfl) T.isi (by decide +kernel) (pa_cons (pv 0) (pa_cons (pe_tup (pa_cons (pe_bltn (v := .ty "tuple") (by rfl) T.tuple (by decide +kernel) rfl) (pa_cons (pe_bltn (v := .ty "list") (by rfl) T.list (by decide +kernel) rfl) pa_nil))) pa_nil))))), ?_⟩
    refine ⟨_, rfl, (by show 2 ≤ sizeLine; decide), fun p np => ?_⟩
    exact ⟨_, _, _, _, _, _, rfl, upd_same, .cons (.ty _) (.cons (.ty _) .nil), ty_of (dp_same (same_new np) hd), kit_row hd, q _ (same_new np)⟩
theorem take_more {α : Type} {xs : List α} {i : Nat} {x : α} (h : xs[i]? = some x) : xs.take (i + 1) = xs.take i ++ [x] := by
  rw [List.take_succ, h]
  rfl
theorem yes_of {σ : L2.St} {H : Hp} {A B : Hp → Prop} (h : A H) : tYes σ H fun b H3 => if b = true then A H3 else B H3 := by
  show if true = true then A H else B H
  exact iteT h
theorem ok_rowB {fB fR : Addr} {fdB fdR : FuncData} (F : FnP K "is_row_between" sRowB f fd) (T : Tx mg) (FB : FnP K "is_between" sBetween fB fdB) (gB : mg "is_between" = some (.ref fB)) (FR : FnP K "is_row" sRow fR fdR) (gR : mg "is_row" = some (.ref fR)) :
    FnOk P w K mg base CX0 2 f fd ["value", "many", "least", "most"] (spRowB K) := by
  have GB : FnOk P w K mg base CX0 1 fB fdB ["value", "least", "most"] (spBetween K) := ok_between FB T
  have GR : FnOk P w K mg base CX0 1 fR fdR ["value"] (spRow K) := ok_row FR T
  have bB : Binds K fdB ["value", "least", "most"] [] := FB.bindsN fun _ _ _ _ _ _ us hl => match us, hl with | [_, _, _], _ => rfl
  have bR : Binds K fdR ["value"] [] := FR.bindsN fun _ _ _ _ _ _ us hl => match us, hl with | [_], _ => rfl
  refine F.ok scRowB (fun vs H Q E h => ?_) (fun cdv A outer s H vs Q E hr h => ?_)
  · obtain ⟨v, many, lo, hi, d, rfl, _⟩ := h
    rfl
  · obtain ⟨v, many, lo, hi, d, rfl, hd, hz, q⟩ := h
    cases hd with
    | lst hs ha =>
      rename_i a vs ds
      have hlen := dps_len ha
      have hz' : ds.length ≤ 1000 := hz
      refine ⟨_, PSs.nox (pss_one (ps_ret (pe_and (pe_call GR hr (by rfl) gR FR.kp bR .nil pass0 (pa_cons (pv 0) pa_nil))
        (pe_and (pe_cmpR op_eq (pe_callB call_len_seq (by rfl) T.len PySem.boot_len (pa_cons (pv 0) pa_nil)) (pv 1) (nomark _))
        (pe_one (pe_callB (cr_all rfl) (by rfl) T.all (by decide +kernel) (pa_cons
          (pe_lc (own := [("part", 4)]) (g := gName 4) (tt := tYes) rfl scRowB.nd (pi_list (pv 0)) (blkOk_by (N := rbN) (sc := defScope sRowB) (by decide +kernel)) (fun _ _ _ _ _ => pg_name (i := 4) scRowB.nd rfl (Or.inl rfl)) (fun _ _ _ _ _ => pts_nil)
            (fun _ _ _ _ _ => pe_call GB hr (by rfl) gB FB.kp bB .nil pass0 (pa_cons (pv 4) (pa_cons (pv 2) (pa_cons (pv 3) pa_nil))))) pa_nil))))))), ?_⟩
      refine ⟨_, rfl, _, _, rfl, .lst hs ha, fun H1 s1 => ⟨_, rfl, iteT ?_⟩⟩
      refine ⟨_, rfl, _, _, rfl, .inl (s1.seq hs), _, rfl, rfl, _, rfl, ite2 (fun e1 => ?_) (fun e1 => ?_)⟩
      · have e2 : (ds.length : Int) = many := by
          rw [← hlen]
          exact V.int.inj (of_decide_eq_true e1)
        refine ⟨_, rfl, a, rfl, ⟨_, s1.seq hs⟩, fun D nD => ?_⟩
        have sD : Same H1 (upd H1 D (.lst [])) := same_new nD
        refine lc_list (K := K) (a := a) (xs := vs) (fun i H2 => Same H1 H2 ∧ H2 D = some (.lst ((ds.take i).map fun e => V.bl (betD e lo hi)))) ⟨sD, by rw [upd_same]; rfl⟩ (fun i H2 _ ⟨s2, _⟩ => s2.seq (s1.seq hs)) ?_ ?_
        · rintro i v H2 hi ⟨s2, h2⟩
          obtain ⟨e, he, hv⟩ := dps_get ha hi
          refine ⟨rfl, yes_of ?_⟩
          refine ⟨_, rfl, _, rfl, _, rfl, _, _, _, e, rfl, dp_same (s1.trans s2) hv, _, h2, ?_, fun b o z => ?_, ?_⟩
          · rw [List.length_map, List.length_take]
            exact Nat.lt_of_le_of_lt (Nat.min_le_right _ _) (Nat.lt_of_le_of_lt hz' (by decide))
          · rw [upd_ne (ne_of_none z nD)]
            exact s2 _ _ z
          · rw [upd_same, take_more he, List.map_append]
            rfl
        · rintro H2 ⟨s2, h2⟩
          rw [hlen, List.take_length] at h2
          refine ⟨D, ds.map fun e => betD e lo hi, rfl, SqL.of ?_, ?_⟩
          · rw [h2, List.map_map]
            rfl
          · have e3 : rowB (.list ds) many lo hi = (ds.map fun e => betD e lo hi).all id := by
              show (true && (decide ((ds.length : Int) = many) && ds.all fun e => betD e lo hi)) = _
              rw [decide_eq_true e2, List.all_map]
              rfl
            rw [← e3]
            exact q _ (s1.trans s2)
      · have e2 : ¬ (ds.length : Int) = many := fun z => e1 (decide_eq_true (by rw [hlen, z]))
        have e3 : rowB (.list ds) many lo hi = false := by
          show (true && (decide ((ds.length : Int) = many) && ds.all fun e => betD e lo hi)) = false
          rw [decide_eq_false e2]
          rfl
        rw [← e3]
        exact q _ s1
    | tup hs ha =>
      rename_i a vs ds
      have hlen := dps_len ha
      have hz' : ds.length ≤ 1000 := hz
      refine ⟨_, PSs.nox (pss_one (ps_ret (pe_and (pe_call GR hr (by rfl) gR FR.kp bR .nil pass0 (pa_cons (pv 0) pa_nil))
        (pe_and (pe_cmpR op_eq (pe_callB call_len_seq (by rfl) T.len PySem.boot_len (pa_cons (pv 0) pa_nil)) (pv 1) (nomark _))
        (pe_one (pe_callB (cr_all rfl) (by rfl) T.all (by decide +kernel) (pa_cons
          (pe_lc (own := [("part", 4)]) (g := gName 4) (tt := tYes) rfl scRowB.nd (pi_tup (pv 0)) (blkOk_by (N := rbN) (sc := defScope sRowB) (by decide +kernel)) (fun _ _ _ _ _ => pg_name (i := 4) scRowB.nd rfl (Or.inl rfl)) (fun _ _ _ _ _ => pts_nil)
            (fun _ _ _ _ _ => pe_call GB hr (by rfl) gB FB.kp bB .nil pass0 (pa_cons (pv 4) (pa_cons (pv 2) (pa_cons (pv 3) pa_nil))))) pa_nil))))))), ?_⟩
      refine ⟨_, rfl, _, _, rfl, .tup hs ha, fun H1 s1 => ⟨_, rfl, iteT ?_⟩⟩
      refine ⟨_, rfl, _, _, rfl, .inr (seqT_same s1 hs), _, rfl, rfl, _, rfl, ite2 (fun e1 => ?_) (fun e1 => ?_)⟩
      · have e2 : (ds.length : Int) = many := by
          rw [← hlen]
          exact V.int.inj (of_decide_eq_true e1)
        refine ⟨_, rfl, a, rfl, ⟨_, seqT_same s1 hs⟩, fun D nD => ?_⟩
        have sD : Same H1 (upd H1 D (.lst [])) := same_new nD
        refine lc_tup (K := K) (a := a) (xs := vs) (fun i H2 => Same H1 H2 ∧ H2 D = some (.lst ((ds.take i).map fun e => V.bl (betD e lo hi)))) ⟨sD, by rw [upd_same]; rfl⟩ (fun i H2 _ ⟨s2, _⟩ => seqT_same s2 (seqT_same s1 hs)) ?_ ?_
        · rintro i v H2 hi ⟨s2, h2⟩
          obtain ⟨e, he, hv⟩ := dps_get ha hi
          refine ⟨rfl, yes_of ?_⟩
          refine ⟨_, rfl, _, rfl, _, rfl, _, _, _, e, rfl, dp_same (s1.trans s2) hv, _, h2, ?_, fun b o z => ?_, ?_⟩
          · rw [List.length_map, List.length_take]
            exact Nat.lt_of_le_of_lt (Nat.min_le_right _ _) (Nat.lt_of_le_of_lt hz' (by decide))
          · rw [upd_ne (ne_of_none z nD)]
            exact s2 _ _ z
          · rw [upd_same, take_more he, List.map_append]
            rfl
        · rintro H2 ⟨s2, h2⟩
          rw [hlen, List.take_length] at h2
          refine ⟨D, ds.map fun e => betD e lo hi, rfl, SqL.of ?_, ?_⟩
          · rw [h2, List.map_map]
            rfl
          · have e3 : rowB (.tuple ds) many lo hi = (ds.map fun e => betD e lo hi).all id := by
              show (true && (decide ((ds.length : Int) = many) && ds.all fun e => betD e lo hi)) = _
              rw [decide_eq_true e2, List.all_map]
              rfl
            rw [← e3]
            exact q _ (s1.trans s2)
      · have e2 : ¬ (ds.length : Int) = many := fun z => e1 (decide_eq_true (by rw [hlen, z]))
        have e3 : rowB (.tuple ds) many lo hi = false := by
          show (true && (decide ((ds.length : Int) = many) && ds.all fun e => betD e lo hi)) = false
          rw [decide_eq_false e2]
          rfl
        rw [← e3]
        exact q _ s1
    | non =>
      refine ⟨_, PSs.nox (pss_one (ps_ret (pe_and (pe_call GR hr (by rfl) gR FR.kp bR .nil pass0 (pa_cons (pv 0) pa_nil))
        (pe_and (pe_cmpR op_eq (pe_callB call_len_seq (by rfl) T.len PySem.boot_len (pa_cons (pv 0) pa_nil)) (pv 1) (nomark _))
        (pe_one (pe_callB (cr_all rfl) (by rfl) T.all (by decide +kernel) (pa_cons
          (pe_lc (own := [("part", 4)]) (g := gName 4) (tt := tYes) rfl scRowB.nd (pi_list (pv 0)) (blkOk_by (N := rbN) (sc := defScope sRowB) (by decide +kernel)) (fun _ _ _ _ _ => pg_name (i := 4) scRowB.nd rfl (Or.inl rfl)) (fun _ _ _ _ _ => pts_nil)
            (fun _ _ _ _ _ => pe_call GB hr (by rfl) gB FB.kp bB .nil pass0 (pa_cons (pv 4) (pa_cons (pv 2) (pa_cons (pv 3) pa_nil))))) pa_nil))))))), ?_⟩
      exact ⟨_, rfl, _, _, rfl, .non, fun H1 s1 => ⟨_, rfl, iteF (q _ s1)⟩⟩
    | bl b =>
      refine ⟨_, PSs.nox (pss_one (ps_ret (pe_and (pe_call GR hr (by rfl) gR FR.kp bR .nil pass0 (pa_cons (pv 0) pa_nil))
        (pe_and (pe_cmpR op_eq (pe_callB call_len_seq (by rfl) T.len PySem.boot_len (pa_cons (pv 0) pa_nil)) (pv 1) (nomark _))
        (pe_one (pe_callB (cr_all rfl) (by rfl) T.all (by decide +kernel) (pa_cons
          (pe_lc (own := [("part", 4)]) (g := gName 4) (tt := tYes) rfl scRowB.nd (pi_list (pv 0)) (blkOk_by (N := rbN) (sc := defScope sRowB) (by decide +kernel)) (fun _ _ _ _ _ => pg_name (i := 4) scRowB.nd rfl (Or.inl rfl)) (fun _ _ _ _ _ => pts_nil)
            (fun _ _ _ _ _ => pe_call GB hr (by rfl) gB FB.kp bB .nil pass0 (pa_cons (pv 4) (pa_cons (pv 2) (pa_cons (pv 3) pa_nil))))) pa_nil))))))), ?_⟩
      exact ⟨_, rfl, _, _, rfl, .bl b, fun H1 s1 => ⟨_, rfl, iteF (q _ s1)⟩⟩
    | int i =>
      refine ⟨_, PSs.nox (pss_one (ps_ret (pe_and (pe_call GR hr (by rfl) gR FR.kp bR .nil pass0 (pa_cons (pv 0) pa_nil))
        (pe_and (pe_cmpR op_eq (pe_callB call_len_seq (by rfl) T.len PySem.boot_len (pa_cons (pv 0) pa_nil)) (pv 1) (nomark _))
        (pe_one (pe_callB (cr_all rfl) (by rfl) T.all (by decide +kernel) (pa_cons
          (pe_lc (own := [("part", 4)]) (g := gName 4) (tt := tYes) rfl scRowB.nd (pi_list (pv 0)) (blkOk_by (N := rbN) (sc := defScope sRowB) (by decide +kernel)) (fun _ _ _ _ _ => pg_name (i := 4) scRowB.nd rfl (Or.inl rfl)) (fun _ _ _ _ _ => pts_nil)
            (fun _ _ _ _ _ => pe_call GB hr (by rfl) gB FB.kp bB .nil pass0 (pa_cons (pv 4) (pa_cons (pv 2) (pa_cons (pv 3) pa_nil))))) pa_nil))))))), ?_⟩
      exact ⟨_, rfl, _, _, rfl, .int i, fun H1 s1 => ⟨_, rfl, iteF (q _ s1)⟩⟩
    | str x =>
      refine ⟨_, PSs.nox (pss_one (ps_ret (pe_and (pe_call GR hr (by rfl) gR FR.kp bR .nil pass0 (pa_cons (pv 0) pa_nil))
        (pe_and (pe_cmpR op_eq (pe_callB call_len_seq (by rfl) T.len PySem.boot_len (pa_cons (pv 0) pa_nil)) (pv 1) (nomark _))
        (pe_one (pe_callB (cr_all rfl) (by rfl) T.all (by decide +kernel) (pa_cons
          (pe_lc (own := [("part", 4)]) (g := gName 4) (tt := tYes) rfl scRowB.nd (pi_list (pv 0)) (blkOk_by (N := rbN) (sc := defScope sRowB) (by decide +kernel)) (fun _ _ _ _ _ => pg_name (i := 4) scRowB.nd rfl (Or.inl rfl)) (fun _ _ _ _ _ => pts_nil)
            (fun _ _ _ _ _ => pe_call GB hr (by rfl) gB FB.kp bB .nil pass0 (pa_cons (pv 4) (pa_cons (pv 2) (pa_cons (pv 3) pa_nil))))) pa_nil))))))), ?_⟩
      exact ⟨_, rfl, _, _, rfl, .str x, fun H1 s1 => ⟨_, rfl, iteF (q _ s1)⟩⟩
end
end Ki
namespace Fi
open PySem PySem.Spec PyProof.Rows L2 Pen Dat
/-! ## What never changes: tuples, locked things, instances -/
def firm : HO → Bool
  | .tup _ => true
  | .frz _ _ => true
  | .ins _ _ _ => true
  | _ => false
def Firm (H H' : Hp) : Prop := ∀ b o, H b = some o → firm o = true → H' b = some o
theorem Firm.refl (H : Hp) : Firm H H := fun _ _ e _ => e
theorem Firm.trans {H H1 H2 : Hp} (a : Firm H H1) (b : Firm H1 H2) : Firm H H2 := fun c o e h => b c o (a c o e h) h
theorem Firm.of {H H' : Hp} (s : Same H H') : Firm H H' := fun b o e _ => s b o e
theorem Firm.upd {H : Hp} {a : Addr} {u o : HO} (h : H a = some u) (hu : firm u = false) : Firm H (upd H a o) := fun b z e hz => by
  rw [upd_ne (fun q => by rw [q, h] at e; cases e; rw [hu] at hz; cases hz)]
  exact e
theorem Firm.but {H H' : Hp} {p : Addr} {u : HO} (c : But p H H') (h : H p = some u) (hu : firm u = false) : Firm H H' := fun b z e hz =>
  c b z e fun q => by
    rw [q, h] at e
    cases e
    rw [hu] at hz
    cases hz
theorem Firm.pen {H H' : Hp} {p c : Addr} {m : Nat} (b : But p H H') (h : PenC H p c m) : Firm H H' := by
  obtain ⟨_, _, _, _, _, h1, _⟩ := h
  exact Firm.but b h1 rfl
/-! ### two lists, item by item -/
inductive All2 {α : Type} (R : V → α → Prop) : List V → List α → Prop
  | nil : All2 R [] []
  | cons {v : V} {x : α} {vs : List V} {xs : List α} : R v x → All2 R vs xs → All2 R (v :: vs) (x :: xs)
section
variable {α : Type} {R R' : V → α → Prop}
theorem All2.len : ∀ {vs : List V} {xs : List α}, All2 R vs xs → vs.length = xs.length
  | _, _, .nil => rfl
  | _, _, .cons _ h => congrArg Nat.succ h.len
theorem All2.imp (f : ∀ v x, R v x → R' v x) : ∀ {vs : List V} {xs : List α}, All2 R vs xs → All2 R' vs xs
  | _, _, .nil => .nil
  | _, _, .cons h t => .cons (f _ _ h) (t.imp f)
theorem All2.get : ∀ {vs : List V} {xs : List α}, All2 R vs xs → ∀ {i : Nat} {v : V}, vs[i]? = some v → ∃ x, xs[i]? = some x ∧ R v x
  | _, _, .nil, i, v, e => by simp at e
  | _, _, .cons (v := v0) (x := x0) h t, 0, v, e => by
    simp at e
    subst e
    exact ⟨x0, rfl, h⟩
  | _, _, .cons h t, i + 1, v, e => by
    simp at e
    obtain ⟨x, q1, q2⟩ := t.get e
    exact ⟨x, by simpa using q1, q2⟩
theorem All2.get' : ∀ {vs : List V} {xs : List α}, All2 R vs xs → ∀ {i : Nat} {x : α}, xs[i]? = some x → ∃ v, vs[i]? = some v ∧ R v x
  | _, _, .nil, i, v, e => by simp at e
  | _, _, .cons (v := v0) (x := x0) h t, 0, v, e => by
    simp at e
    subst e
    exact ⟨v0, rfl, h⟩
  | _, _, .cons h t, i + 1, v, e => by
    simp at e
    obtain ⟨x, q1, q2⟩ := t.get' e
    exact ⟨x, by simpa using q1, q2⟩
theorem All2.snoc {v : V} {x : α} (h : R v x) : ∀ {vs : List V} {xs : List α}, All2 R vs xs → All2 R (vs ++ [v]) (xs ++ [x])
  | _, _, .nil => .cons h .nil
  | _, _, .cons h1 t => .cons h1 (t.snoc h)
theorem All2.append : ∀ {vs ws : List V} {xs ys : List α}, All2 R vs xs → All2 R ws ys → All2 R (vs ++ ws) (xs ++ ys)
  | _, _, _, _, .nil, h => h
  | _, _, _, _, .cons h1 t, h => .cons h1 (t.append h)
theorem All2.take : ∀ {vs : List V} {xs : List α} (n : Nat), All2 R vs xs → All2 R (vs.take n) (xs.take n)
  | _, _, 0, _ => by
    rw [List.take_zero, List.take_zero]
    exact .nil
  | _, _, _ + 1, .nil => .nil
  | _, _, n + 1, .cons h t => .cons h (t.take n)
end
/-! ### pairs, rows of pairs, rows of ints -/
def Pt (K : PySem.W.Frag) (H : Hp) (v : V) (p : Int × Int) : Prop := ∃ q, v = .ref q ∧ SqT K H q [.int p.1, .int p.2]
def Pr (K : PySem.W.Frag) (H : Hp) (v : V) (p : Int × Int) : Prop := ∃ q, v = .ref q ∧ (SqL K H q [.int p.1, .int p.2] ∨ SqT K H q [.int p.1, .int p.2])
def Tu (K : PySem.W.Frag) (H : Hp) (v : V) (r : List Int) : Prop := ∃ q, v = .ref q ∧ H q = some (.tup (r.map V.int))
def GT (K : PySem.W.Frag) (H : Hp) (g : Addr) (gs : List (Int × Int)) : Prop := ∃ vs, SqT K H g vs ∧ All2 (Pt K H) vs gs
def RowG (K : PySem.W.Frag) (H : Hp) (v : V) (gs : List (Int × Int)) : Prop := ∃ r vs, v = .ref r ∧ (SqL K H r vs ∨ SqT K H r vs) ∧ All2 (Pr K H) vs gs
section
variable {K : PySem.W.Frag} {H H' : Hp}
theorem firm_seq {a : Addr} {xs : List V} (s : Firm H H') (h : SqT K H a xs) : SqT K H' a xs :=
  h.elim (fun h => .inl (h.elim (fun h => .inl (s _ _ h rfl)) fun ⟨o, h⟩ => .inr ⟨o, s _ _ h rfl⟩)) .inr
theorem Pt.firm {v : V} {p : Int × Int} (s : Firm H H') (h : Pt K H v p) : Pt K H' v p := by
  obtain ⟨q, e, h⟩ := h
  exact ⟨q, e, firm_seq s h⟩
theorem Tu.firm {v : V} {r : List Int} (s : Firm H H') (h : Tu K H v r) : Tu K H' v r := by
  obtain ⟨q, e, h⟩ := h
  exact ⟨q, e, s _ _ h rfl⟩
theorem GT.firm {g : Addr} {gs : List (Int × Int)} (s : Firm H H') (h : GT K H g gs) : GT K H' g gs := by
  obtain ⟨vs, h1, h2⟩ := h
  exact ⟨vs, firm_seq s h1, h2.imp fun _ _ q => q.firm s⟩
theorem Pr.same {v : V} {p : Int × Int} (s : Same H H') (h : Pr K H v p) : Pr K H' v p := by
  obtain ⟨q, e, h⟩ := h
  exact ⟨q, e, h.elim (fun h => .inl (s.seq h)) fun h => .inr (seqT_same s h)⟩
theorem RowG.same {v : V} {gs : List (Int × Int)} (s : Same H H') (h : RowG K H v gs) : RowG K H' v gs := by
  obtain ⟨r, vs, e, h1, h2⟩ := h
  exact ⟨r, vs, e, h1.elim (fun h => .inl (s.seq h)) fun h => .inr (seqT_same s h), h2.imp fun _ _ q => q.same s⟩
theorem Pt.pr {v : V} {p : Int × Int} (h : Pt K H v p) : Pr K H v p := by
  obtain ⟨q, e, h⟩ := h
  exact ⟨q, e, .inr h⟩
theorem GT.row {g : Addr} {gs : List (Int × Int)} (h : GT K H g gs) : RowG K H (.ref g) gs := by
  obtain ⟨vs, h1, h2⟩ := h
  exact ⟨g, vs, rfl, .inr h1, h2.imp fun _ _ q => q.pr⟩
/-- a row of pairs, as data -/
def pD (p : Int × Int) : PyData := .tuple [.int p.1, .int p.2]
def gD (gs : List (Int × Int)) : PyData := .tuple (gs.map pD)
theorem pt_dp {v : V} {p : Int × Int} (h : Pt K H v p) : Dp K H v (pD p) := by
  obtain ⟨q, rfl, h⟩ := h
  exact .tup h (.cons (.int _) (.cons (.int _) .nil))
theorem pts_dp : ∀ {vs : List V} {gs : List (Int × Int)}, All2 (Pt K H) vs gs → DpAll K H vs (gs.map pD)
  | _, _, .nil => .nil
  | _, _, .cons h t => .cons (pt_dp h) (pts_dp t)
theorem GT.dp {g : Addr} {gs : List (Int × Int)} (h : GT K H g gs) : Dp K H (.ref g) (gD gs) := by
  obtain ⟨vs, h1, h2⟩ := h
  exact .tup h1 (pts_dp h2)
theorem ints_dp : ∀ (r : List Int), DpAll K H (r.map V.int) (r.map PyData.int)
  | [] => .nil
  | _ :: r => .cons (.int _) (ints_dp r)
end
end Fi
namespace Gr
open PySem PySem.Spec PyProof.Rows L2 Pen Dat Ki Fi
/-! ## Graphs -/
structure Tx (K : PySem.W.Frag) (mg : Str → Option Value) (C : Addr) : Prop where
  ki : Ki.Tx mg
  cl : Cls K C
  nL : NoAttr K C "leaves"
  nG : NoAttr K C "gates"
  mgC : mg "Graph" = some (.ref C)
  cls : PySem.W.findIn K (.ref C) "__class__" = some (some (.builtin "object.__class__"))
  spc : PySem.W.specialIn K (.builtin "object.__class__") "__get__" = some (some (.builtin "getset_descriptor.__get__"))
  tak : PySem.W.takesIn K (.builtin "object.__class__") = some true
  met : ∀ {H : Hp} {a dx : Addr} {fs : List (Str × V)}, H a = some (.ins C dx fs) → TyOf K H (.ref a) (.ref C)
  own : PySem.W.kitOne K (.ref C) (.ref C) = some true
  tup : PySem.W.kitOne K (.type "tuple") (.ref C) = some false
def flds (n : Int) (g : Addr) : List (Str × V) := putF "gates" (.ref g) (putF "leaves" (.int n) [])
theorem kLG : ¬ (("leaves" : Str) = "gates") := by decide +kernel
theorem flds_eq (n : Int) (g : Addr) : flds n g = ([("leaves", V.int n), ("gates", V.ref g)] : List (Str × V)) := by
  show (if ("leaves" : Str) = "gates" then [(("leaves" : Str), V.ref g)] else (("leaves" : Str), V.int n) :: putF "gates" (V.ref g) []) = ([("leaves", V.int n), ("gates", V.ref g)] : List (Str × V))
  rw [if_neg kLG]
  all_goals rfl
theorem flds_L (n : Int) (g : Addr) : (flds n g).lookup ("leaves" : Str) = some (.int n) := by
  unfold flds
  rw [lookup_putF, if_neg kLG, lookup_putF, if_pos rfl]
theorem flds_G (n : Int) (g : Addr) : (flds n g).lookup ("gates" : Str) = some (.ref g) := by
  unfold flds
  rw [lookup_putF, if_pos rfl]
def GraphAt (K : PySem.W.Frag) (C : Addr) (H : Hp) (p : Addr) (n : Int) (gs : List (Int × Int)) : Prop := ∃ dx g, H p = some (.ins C dx (flds n g)) ∧ GT K H g gs
theorem GraphAt.firm {K : PySem.W.Frag} {C p : Addr} {H H' : Hp} {n : Int} {gs : List (Int × Int)} (s : Firm H H') (h : GraphAt K C H p n gs) : GraphAt K C H' p n gs := by
  obtain ⟨dx, g, h1, h2⟩ := h
  exact ⟨dx, g, s _ _ h1 rfl, h2.firm s⟩
def goB : Int → List PyData → Bool
  | _, [] => true
  | m, e :: r => rowB e 2 0 m && goB (m + 2) r
def gatesB (n : Int) (d : PyData) : Bool := isRowD d && goB (2 * n + 1) (rowsD d)
def within (a m : Int) : Bool := decide (0 ≤ a) && decide (a ≤ m)
def okG : Int → List (Int × Int) → Bool
  | _, [] => true
  | m, p :: r => (within p.1 m && within p.2 m) && okG (m + 2) r
theorem pr_dp {K : PySem.W.Frag} {H : Hp} {v : V} {p : Int × Int} (h : Pr K H v p) : ∃ e, Dp K H v e ∧ (rowsD e).length ≤ 1000 ∧ ∀ m, rowB e 2 0 m = (within p.1 m && within p.2 m) := by
  obtain ⟨q, rfl, h | h⟩ := h
  · exact ⟨_, .lst h (.cons (.int _) (.cons (.int _) .nil)), by show 2 ≤ 1000; decide, fun m => by show (true && (decide (((2 : Nat) : Int) = 2) && (within p.1 m && (within p.2 m && true)))) = _; rw [decide_eq_true (by rfl), Bool.and_true]; rfl⟩
  · exact ⟨_, .tup h (.cons (.int _) (.cons (.int _) .nil)), by show 2 ≤ 1000; decide, fun m => by show (true && (decide (((2 : Nat) : Int) = 2) && (within p.1 m && (within p.2 m && true)))) = _; rw [decide_eq_true (by rfl), Bool.and_true]; rfl⟩
theorem prs_dp {K : PySem.W.Frag} {H : Hp} : ∀ {vs : List V} {gs : List (Int × Int)}, All2 (Pr K H) vs gs → ∃ ds, DpAll K H vs ds ∧ ds.length = gs.length ∧ (∀ e ∈ ds, (rowsD e).length ≤ 1000) ∧ ∀ m, goB m ds = okG m gs
  | _, _, .nil => ⟨[], .nil, rfl, (fun e z => absurd z List.not_mem_nil), fun m => rfl⟩
  | _, _, .cons h t => by
    obtain ⟨e, e1, e2, e3⟩ := pr_dp h
    obtain ⟨ds, d1, d2, d3, d4⟩ := prs_dp t
    refine ⟨e :: ds, .cons e1 d1, congrArg Nat.succ d2, fun z hz => ?_, fun m => ?_⟩
    · rcases List.mem_cons.mp hz with rfl | hz
      · exact e2
      · exact d3 z hz
    · show (rowB e 2 0 m && goB (m + 2) ds) = _
      rw [e3, d4]
      rfl
theorem row_dp {K : PySem.W.Frag} {H : Hp} {v : V} {gs : List (Int × Int)} (h : RowG K H v gs) : ∃ d, Dp K H v d ∧ (rowsD d).length = gs.length ∧ (∀ e ∈ rowsD d, (rowsD e).length ≤ 1000) ∧ ∀ n, gatesB n d = okG (2 * n + 1) gs := by
  obtain ⟨r, vs, rfl, h1, h2⟩ := h
  obtain ⟨ds, d1, d2, d3, d4⟩ := prs_dp h2
  rcases h1 with h1 | h1
  · exact ⟨.list ds, .lst h1 d1, d2, d3, fun n => d4 _⟩
  · exact ⟨.tuple ds, .tup h1 d1, d2, d3, fun n => d4 _⟩
def spNeed : Sp := fun vs H Q _ => ∃ n : Int, vs = [.int n] ∧ n ≥ 0 ∧ Q .non H
def spGates (K : PySem.W.Frag) : Sp := fun vs H Q _ => ∃ (n : Int) (v : V) (d : PyData), vs = [.int n, v] ∧ Dp K H v d ∧ (rowsD d).length ≤ 1000 ∧ (∀ e ∈ rowsD d, (rowsD e).length ≤ 1000) ∧ ∀ H', Same H H' → Q (.bl (gatesB n d)) H'
def spInit (K : PySem.W.Frag) (C : Addr) : Sp := fun vs H Q _ => ∃ (p dx : Addr) (n : Int) (v : V) (gs : List (Int × Int)), vs = [.ref p, .int n, v] ∧ H p = some (.ins C dx []) ∧ n ≥ 0 ∧ RowG K H v gs ∧ gs.length ≤ 1000 ∧ okG (2 * n + 1) gs = true ∧
  ∀ H', (∀ b o, H b = some o → b ≠ p → H' b = some o) → GraphAt K C H' p n gs → Q .non H'
def spEqG (K : PySem.W.Frag) (C : Addr) : Sp := fun vs H Q _ => ∃ (p : Addr) (v : V) (n : Int) (gs : List (Int × Int)), vs = [.ref p, v] ∧ GraphAt K C H p n gs ∧
  ((∃ (q : Addr) (n' : Int) (gs' : List (Int × Int)), v = .ref q ∧ GraphAt K C H q n' gs' ∧ Q (.bl (decide (n = n') && PyData.eqv (gD gs) (gD gs'))) H) ∨ ∃ (t : Addr) (xs : List V), v = .ref t ∧ SqT K H t xs ∧ Q (.bl false) H)
theorem can_pD : ∀ gs : List (Int × Int), PyData.canLayAll0 (gs.map pD) = true
  | [] => rfl
  | _ :: r => can_pD r
theorem deep_pD : ∀ gs : List (Int × Int), PyData.depthAll (gs.map pD) ≤ 1
  | [] => Nat.zero_le _
  | p :: r => Nat.max_le.mpr ⟨Nat.le_refl _, deep_pD r⟩
theorem shaped_gD (gs : List (Int × Int)) : SeqAt.shaped (gD gs) = true := by
  have h1 := can_pD gs
  have h2 := deep_pD gs
  unfold SeqAt.shaped
  rw [Bool.and_eq_true]
  exact ⟨h1, decide_eq_true (by show PyData.depthAll (gs.map pD) + 1 ≤ 64; omega)⟩
def rTupOf (K : PySem.W.Frag) : List V → Hp → VK → Prop := fun xs H Q => ∃ p ys, xs = [V.ref p] ∧ ((SqL K H p ys ∧ ∀ l, H l = none → Q (.ref l) (upd H l (.tup ys))) ∨ (SqT K H p ys ∧ Q (.ref p) H))
section
variable {P : Program} {w : World} {K : PySem.W.Frag} {mg : Str → Option Value} {base : Heap} {f C : Addr} {fd : FuncData}
theorem start_int (n : Int) : 2 * n + 1 = 2 * n + 1 + 2 * ((0 : Nat) : Int) := by omega
theorem start_eq (n : Int) (a : Addr) : ([some (.int n), some (.ref a), some (.int (2 * n + 1)), none] : List (Option V)) = [some (.int n), some (.ref a), some (.int (2 * n + 1 + 2 * ((0 : Nat) : Int))), none] := by
  rw [← start_int]
theorem scNeed : FnScope ["leaves"] ["leaves"] (defScope sNeed) := ⟨rfl, rfl, rfl, by decide +kernel, rfl, by decide +kernel, by decide +kernel⟩
theorem scGates : FnScope ["leaves", "value", "most", "pair"] ["leaves", "value"] (defScope sGates) := ⟨rfl, rfl, rfl, by decide +kernel, rfl, by decide +kernel, by decide +kernel⟩
abbrev sInit : Stmt := inClass cGraph 0
abbrev sEq : Stmt := inClass cGraph 1
abbrev inN : List Str := ["self", "leaves", "gates", "pair"]
theorem scInit : FnScope inN ["self", "leaves", "gates"] (defScope sInit) := ⟨rfl, rfl, rfl, by decide +kernel, rfl, by decide +kernel, by decide +kernel⟩
theorem scEq : FnScope ["self", "other"] ["self", "other"] (defScope sEq) := ⟨rfl, rfl, rfl, by decide +kernel, rfl, by decide +kernel, by decide +kernel⟩
abbrev FnI (K : PySem.W.Frag) (f : Addr) (fd : FuncData) : Prop := FunD K "__init__" "Graph.__init__" (defArgs sInit) (defBody sInit) (defScope sInit) [] [] f fd
abbrev FnE (K : PySem.W.Frag) (f : Addr) (fd : FuncData) : Prop := FunD K "__eq__" "Graph.__eq__" (defArgs sEq) (defBody sEq) (defScope sEq) [] [] f fd
theorem ok_need {fF : Addr} {fdF : FuncData} (F : FnP K "need_leaves" sNeed f fd) (T : Ki.Tx mg) (FF : FnP K "is_from" sFrom fF fdF) (gF : mg "is_from" = some (.ref fF)) : FnOk P w K mg base CX0 2 f fd ["leaves"] spNeed := by
  have GF : FnOk P w K mg base CX0 1 fF fdF ["value", "least"] (spFrom K) := ok_from FF T
  have bF : Binds K fdF ["value", "least"] [] := FF.bindsN fun _ _ _ _ _ _ us hl => match us, hl with | [_, _], _ => rfl
  refine F.ok scNeed (fun vs H Q E h => ?_) (fun cdv A outer s H vs Q E hr h => ?_)
  · obtain ⟨n, rfl, _⟩ := h
    rfl
  · obtain ⟨n, rfl, hn, q⟩ := h
    refine ⟨_, PSs.nox (pss_one (ps_if (pt_not (pt_val (pe_call GF hr (by rfl) gF FF.kp bF .nil pass0 (pa_cons (pv 0) (pa_cons pe_int pa_nil))))) (pss_one ps_never) pss_nil)), ?_⟩
    refine ⟨_, rfl, _, _, .int n, rfl, .int n, _, rfl, ?_⟩
    exact iteNS hn q
theorem ok_gates {fR fB : Addr} {fdR fdB : FuncData} (F : FnP K "are_gates" sGates f fd) (T : Ki.Tx mg) (FR : FnP K "is_row" sRow fR fdR) (gR : mg "is_row" = some (.ref fR)) (FB : FnP K "is_row_between" sRowB fB fdB) (gB : mg "is_row_between" = some (.ref fB))
    {fW : Addr} {fdW : FuncData} (FW : FnP K "is_between" sBetween fW fdW) (gW : mg "is_between" = some (.ref fW)) : FnOk P w K mg base CX0 3 f fd ["leaves", "value"] (spGates K) := by
  have GR : FnOk P w K mg base CX0 1 fR fdR ["value"] (spRow K) := ok_row FR T
  have GB : FnOk P w K mg base CX0 2 fB fdB ["value", "many", "least", "most"] (spRowB K) := ok_rowB FB T FW gW FR gR
  have bR : Binds K fdR ["value"] [] := FR.bindsN fun _ _ _ _ _ _ us hl => match us, hl with | [_], _ => rfl
  have bB : Binds K fdB ["value", "many", "least", "most"] [] := FB.bindsN fun _ _ _ _ _ _ us hl => match us, hl with | [_, _, _, _], _ => rfl
  refine F.ok scGates (fun vs H Q E h => ?_) (fun cdv A outer s H vs Q E hr h => ?_)
  · obtain ⟨n, v, d, rfl, _⟩ := h
    rfl
  · obtain ⟨n, v, d, rfl, hd, hz, hzz, q⟩ := h
    have hr1 := hr.mono (j := 1) (by decide)
    cases hd with
    | lst hs ha =>
      rename_i a vs ds
      have hlen := dps_len ha
      refine ⟨_, PSs.nox (pss_cons (ps_if (pt_not (pt_val (pe_call GR hr1 (by rfl) gR FR.kp bR .nil pass0 (pa_cons (pv 1) pa_nil)))) (pss_one (ps_ret pe_bl)) pss_nil)
        (pss_cons (ps_set (i := 2) scGates.nd rfl (Or.inl rfl) (pe_op op_add (pe_op op_mul pe_int (pv 0)) pe_int))
        (pss_cons (ps_for PassesOwn.never rfl (pi_list (pv 1)) (pg_name (i := 3) scGates.nd rfl (Or.inl rfl))
          (pss_cons (ps_if (pt_not (pt_val (pe_call GB hr (by rfl) gB FB.kp bB .nil pass0 (pa_cons (pv 3) (pa_cons pe_int (pa_cons pe_int (pa_cons (pv 2) pa_nil))))))) (pss_one (ps_ret pe_bl)) pss_nil)
          (pss_one (ps_aug (i := 2) scGates.nd rfl (Or.inl rfl) pe_int ip_add))))
        (pss_one (ps_ret pe_bl))))), ?_⟩
      refine ⟨_, rfl, _, _, rfl, .lst hs ha, fun H1 s1 => ⟨_, rfl, iteF ?_⟩⟩
      refine ⟨_, rfl, _, _, rfl, rfl, .inl ⟨by decide, by decide⟩, _, _, rfl, rfl, ?_⟩
      refine ⟨_, rfl, a, rfl, ⟨_, s1.seq hs⟩, for_list (K := K) (a := a) (xs := vs) (fun i σ H2 => ∃ v : Option V, σ = [some (.int n), some (.ref a), some (.int (2 * n + 1 + 2 * i)), v] ∧ Same H1 H2 ∧ goB (2 * n + 1) ds = goB (2 * n + 1 + 2 * i) (ds.drop i))
        ⟨none, start_eq n a, Same.refl _, by rw [List.drop_zero]; exact congrArg (fun z => goB z ds) (start_int n)⟩ (fun i σ H2 _ ⟨_, _, s2, _⟩ => s2.seq (s1.seq hs)) ?_ ?_⟩
      · rintro i v σ H2 hi ⟨w0, rfl, s2, e2⟩
        obtain ⟨e, he, hv⟩ := dps_get ha hi
        have hm : e ∈ ds := List.mem_of_getElem? he
        have hdrop : ds.drop i = e :: ds.drop (i + 1) := by
          obtain ⟨hlt, e5⟩ := List.getElem?_eq_some_iff.mp he
          rw [← e5]
          exact List.drop_eq_getElem_cons hlt
        rw [hdrop] at e2
        refine ⟨_, rfl, _, rfl, _, _, _, _, e, rfl, dp_same (s1.trans s2) hv, hzz e hm, fun H3 s3 => ⟨_, rfl, ?_⟩⟩
        cases er : rowB e 2 0 (2 * n + 1 + 2 * i) with
        | false =>
          refine iteT ?_
          have e4 : gatesB n (.list ds) = false := by
            show (true && goB (2 * n + 1) ds) = false
            rw [e2]
            show (rowB e 2 0 (2 * n + 1 + 2 * i) && goB _ _) = false
            rw [er]
            rfl
          show Q (V.bl false) H3
          rw [← e4]
          exact q _ ((s1.trans s2).trans s3)
        | true =>
          refine iteF ?_
          refine ⟨_, rfl, _, _, rfl, rfl, some v, ?_, s2.trans s3, ?_⟩
          · show _ = _
            have e5 : 2 * n + 1 + 2 * (i : Int) + 2 = 2 * n + 1 + 2 * ((i + 1 : Nat) : Int) := by omega
            rw [← e5]
            rfl
          · rw [e2]
            show (rowB e 2 0 (2 * n + 1 + 2 * i) && goB _ _) = _
            rw [er]
            have e5 : 2 * n + 1 + 2 * (i : Int) + 2 = 2 * n + 1 + 2 * ((i + 1 : Nat) : Int) := by omega
            rw [← e5]
            rfl
      · rintro σ H2 ⟨w0, rfl, s2, e2⟩
        rw [hlen, List.drop_length] at e2
        have e4 : gatesB n (.list ds) = true := by
          show (true && goB (2 * n + 1) ds) = true
          rw [e2]
          rfl
        show Q (V.bl true) H2
        rw [← e4]
        exact q _ (s1.trans s2)
    | tup hs ha =>
      rename_i a vs ds
      have hlen := dps_len ha
      refine ⟨_, PSs.nox (pss_cons (ps_if (pt_not (pt_val (pe_call GR hr1 (by rfl) gR FR.kp bR .nil pass0 (pa_cons (pv 1) pa_nil)))) (pss_one (ps_ret pe_bl)) pss_nil)
        (pss_cons (ps_set (i := 2) scGates.nd rfl (Or.inl rfl) (pe_op op_add (pe_op op_mul pe_int (pv 0)) pe_int))
        (pss_cons (ps_for PassesOwn.never rfl (pi_tup (pv 1)) (pg_name (i := 3) scGates.nd rfl (Or.inl rfl))
          (pss_cons (ps_if (pt_not (pt_val (pe_call GB hr (by rfl) gB FB.kp bB .nil pass0 (pa_cons (pv 3) (pa_cons pe_int (pa_cons pe_int (pa_cons (pv 2) pa_nil))))))) (pss_one (ps_ret pe_bl)) pss_nil)
          (pss_one (ps_aug (i := 2) scGates.nd rfl (Or.inl rfl) pe_int ip_add))))
        (pss_one (ps_ret pe_bl))))), ?_⟩
      refine ⟨_, rfl, _, _, rfl, .tup hs ha, fun H1 s1 => ⟨_, rfl, iteF ?_⟩⟩
      refine ⟨_, rfl, _, _, rfl, rfl, .inl ⟨by decide, by decide⟩, _, _, rfl, rfl, ?_⟩
      refine ⟨_, rfl, a, rfl, ⟨_, seqT_same s1 hs⟩, for_tup (K := K) (a := a) (xs := vs) (fun i σ H2 => ∃ v : Option V, σ = [some (.int n), some (.ref a), some (.int (2 * n + 1 + 2 * i)), v] ∧ Same H1 H2 ∧ goB (2 * n + 1) ds = goB (2 * n + 1 + 2 * i) (ds.drop i))
        ⟨none, start_eq n a, Same.refl _, by rw [List.drop_zero]; exact congrArg (fun z => goB z ds) (start_int n)⟩ (fun i σ H2 _ ⟨_, _, s2, _⟩ => seqT_same s2 (seqT_same s1 hs)) ?_ ?_⟩
      · rintro i v σ H2 hi ⟨w0, rfl, s2, e2⟩
        obtain ⟨e, he, hv⟩ := dps_get ha hi
        have hm : e ∈ ds := List.mem_of_getElem? he
        have hdrop : ds.drop i = e :: ds.drop (i + 1) := by
          obtain ⟨hlt, e5⟩ := List.getElem?_eq_some_iff.mp he
          rw [← e5]
          exact List.drop_eq_getElem_cons hlt
        rw [hdrop] at e2
        refine ⟨_, rfl, _, rfl, _, _, _, _, e, rfl, dp_same (s1.trans s2) hv, hzz e hm, fun H3 s3 => ⟨_, rfl, ?_⟩⟩
        cases er : rowB e 2 0 (2 * n + 1 + 2 * i) with
        | false =>
          refine iteT ?_
          have e4 : gatesB n (.tuple ds) = false := by
            show (true && goB (2 * n + 1) ds) = false
            rw [e2]
            show (rowB e 2 0 (2 * n + 1 + 2 * i) && goB _ _) = false
            rw [er]
            rfl
          show Q (V.bl false) H3
          rw [← e4]
          exact q _ ((s1.trans s2).trans s3)
        | true =>
          refine iteF ?_
          refine ⟨_, rfl, _, _, rfl, rfl, some v, ?_, s2.trans s3, ?_⟩
          · show _ = _
            have e5 : 2 * n + 1 + 2 * (i : Int) + 2 = 2 * n + 1 + 2 * ((i + 1 : Nat) : Int) := by omega
            rw [← e5]
            rfl
          · rw [e2]
            show (rowB e 2 0 (2 * n + 1 + 2 * i) && goB _ _) = _
            rw [er]
            have e5 : 2 * n + 1 + 2 * (i : Int) + 2 = 2 * n + 1 + 2 * ((i + 1 : Nat) : Int) := by omega
            rw [← e5]
            rfl
      · rintro σ H2 ⟨w0, rfl, s2, e2⟩
        rw [hlen, List.drop_length] at e2
        have e4 : gatesB n (.tuple ds) = true := by
          show (true && goB (2 * n + 1) ds) = true
          rw [e2]
          rfl
        show Q (V.bl true) H2
        rw [← e4]
        exact q _ (s1.trans s2)
    | non =>
      refine ⟨_, PSs.nox (pss_cons (ps_if (pt_not (pt_val (pe_call GR hr1 (by rfl) gR FR.kp bR .nil pass0 (pa_cons (pv 1) pa_nil)))) (pss_one (ps_ret pe_bl)) pss_nil)
        (pss_cons (ps_set (i := 2) scGates.nd rfl (Or.inl rfl) (pe_op op_add (pe_op op_mul pe_int (pv 0)) pe_int))
        (pss_cons (ps_for PassesOwn.never rfl (pi_list (pv 1)) (pg_name (i := 3) scGates.nd rfl (Or.inl rfl))
          (pss_cons (ps_if (pt_not (pt_val (pe_call GB hr (by rfl) gB FB.kp bB .nil pass0 (pa_cons (pv 3) (pa_cons pe_int (pa_cons pe_int (pa_cons (pv 2) pa_nil))))))) (pss_one (ps_ret pe_bl)) pss_nil)
          (pss_one (ps_aug (i := 2) scGates.nd rfl (Or.inl rfl) pe_int ip_add))))
        (pss_one (ps_ret pe_bl))))), ?_⟩
      exact ⟨_, rfl, _, _, rfl, .non, fun H1 s1 => ⟨_, rfl, iteT (q _ s1)⟩⟩
    | bl b =>
      refine ⟨_, PSs.nox (pss_cons (ps_if (pt_not (pt_val (pe_call GR hr1 (by rfl) gR FR.kp bR .nil pass0 (pa_cons (pv 1) pa_nil)))) (pss_one (ps_ret pe_bl)) pss_nil)
        (pss_cons (ps_set (i := 2) scGates.nd rfl (Or.inl rfl) (pe_op op_add (pe_op op_mul pe_int (pv 0)) pe_int))
        (pss_cons (ps_for PassesOwn.never rfl (pi_list (pv 1)) (pg_name (i := 3) scGates.nd rfl (Or.inl rfl))
          (pss_cons (ps_if (pt_not (pt_val (pe_call GB hr (by rfl) gB FB.kp bB .nil pass0 (pa_cons (pv 3) (pa_cons pe_int (pa_cons pe_int (pa_cons (pv 2) pa_nil))))))) (pss_one (ps_ret pe_bl)) pss_nil)
          (pss_one (ps_aug (i := 2) scGates.nd rfl (Or.inl rfl) pe_int ip_add))))
        (pss_one (ps_ret pe_bl))))), ?_⟩
      exact ⟨_, rfl, _, _, rfl, .bl b, fun H1 s1 => ⟨_, rfl, iteT (q _ s1)⟩⟩
    | int i =>
      refine ⟨_, PSs.nox (pss_cons (ps_if (pt_not (pt_val (pe_call GR hr1 (by rfl) gR FR.kp bR .nil pass0 (pa_cons (pv 1) pa_nil)))) (pss_one (ps_ret pe_bl)) pss_nil)
        (pss_cons (ps_set (i := 2) scGates.nd rfl (Or.inl rfl) (pe_op op_add (pe_op op_mul pe_int (pv 0)) pe_int))
        (pss_cons (ps_for PassesOwn.never rfl (pi_list (pv 1)) (pg_name (i := 3) scGates.nd rfl (Or.inl rfl))
          (pss_cons (ps_if (pt_not (pt_val (pe_call GB hr (by rfl) gB FB.kp bB .nil pass0 (pa_cons (pv 3) (pa_cons pe_int (pa_cons pe_int (pa_cons (pv 2) pa_nil))))))) (pss_one (ps_ret pe_bl)) pss_nil)
          (pss_one (ps_aug (i := 2) scGates.nd rfl (Or.inl rfl) pe_int ip_add))))
        (pss_one (ps_ret pe_bl))))), ?_⟩
      exact ⟨_, rfl, _, _, rfl, .int i, fun H1 s1 => ⟨_, rfl, iteT (q _ s1)⟩⟩
    | str x =>
      refine ⟨_, PSs.nox (pss_cons (ps_if (pt_not (pt_val (pe_call GR hr1 (by rfl) gR FR.kp bR .nil pass0 (pa_cons (pv 1) pa_nil)))) (pss_one (ps_ret pe_bl)) pss_nil)
        (pss_cons (ps_set (i := 2) scGates.nd rfl (Or.inl rfl) (pe_op op_add (pe_op op_mul pe_int (pv 0)) pe_int))
        (pss_cons (ps_for PassesOwn.never rfl (pi_list (pv 1)) (pg_name (i := 3) scGates.nd rfl (Or.inl rfl))
          (pss_cons (ps_if (pt_not (pt_val (pe_call GB hr (by rfl) gB FB.kp bB .nil pass0 (pa_cons (pv 3) (pa_cons pe_int (pa_cons pe_int (pa_cons (pv 2) pa_nil))))))) (pss_one (ps_ret pe_bl)) pss_nil)
          (pss_one (ps_aug (i := 2) scGates.nd rfl (Or.inl rfl) pe_int ip_add))))
        (pss_one (ps_ret pe_bl))))), ?_⟩
      exact ⟨_, rfl, _, _, rfl, .str x, fun H1 s1 => ⟨_, rfl, iteT (q _ s1)⟩⟩
theorem ok_init {fN fA : Addr} {fdN fdA : FuncData} (F : FnI K f fd) (T : Tx K mg C) (GN : FnOk P w K mg base CX0 2 fN fdN ["leaves"] spNeed) (gN : mg "need_leaves" = some (.ref fN)) (kN : PySem.W.keepIn K (.ref fN) = true) (bN : Binds K fdN ["leaves"] [])
    (GA : FnOk P w K mg base CX0 3 fA fdA ["leaves", "value"] (spGates K)) (gA : mg "are_gates" = some (.ref fA)) (kA : PySem.W.keepIn K (.ref fA) = true) (bA : Binds K fdA ["leaves", "value"] []) : FnOk P w K mg base CX0 4 f fd ["self", "leaves", "gates"] (spInit K C) := by
  refine F.ok scInit (fun vs H Q E h => ?_) (fun cdv A outer s H vs Q E hr h => ?_)
  · obtain ⟨p, dx, n, v, gs, rfl, _⟩ := h
    rfl
  · obtain ⟨p, dx, n, v, gs, rfl, hp, hn, hv, hz, hok, q⟩ := h
    have hr2 := hr.mono (j := 2) (by decide)
    obtain ⟨d, d1, d2, d3, d4⟩ := row_dp hv
    obtain ⟨r, vs, rfl, hs, ha⟩ := id hv
    rcases hs with hs | hs
    · refine ⟨_, PSs.nox (pss_cons (ps_expr (pe_call GN hr2 (by rfl) gN kN bN .nil pass0 (pa_cons (pv 1) pa_nil)))
        (pss_cons (ps_if (pt_not (pt_val (pe_call GA hr (by rfl) gA kA bA .nil pass0 (pa_cons (pv 1) (pa_cons (pv 2) pa_nil))))) (pss_one ps_never) pss_nil)
        (pss_cons (ps_fld (pv 0) (pv 1) rfl)
        (pss_one (ps_fld (pv 0) (pe_callTy call_tuple_of (by rfl) T.ki.tuple (by decide +kernel) (pa_cons
          (pe_lc (own := [("pair", 3)]) (g := gName 3) (tt := tYes) rfl scInit.nd (pi_list (pv 2)) (blkOk_by (N := inN) (sc := defScope sInit) (by decide +kernel)) (fun _ _ _ _ _ => pg_name (i := 3) scInit.nd rfl (Or.inl rfl)) (fun _ _ _ _ _ => pts_nil)
            (fun _ _ _ _ _ => pe_callTy (T := "tuple") (r := rTupOf K) (by exact call_tuple_of) (by rfl) T.ki.tuple (by decide +kernel) (pa_cons (pv 3) pa_nil))) pa_nil)) rfl))))), ?_⟩
      refine ⟨_, rfl, n, rfl, hn, ?_⟩
      refine ⟨_, rfl, _, rfl, n, _, d, rfl, d1, by omega, d3, fun H1 s1 => ⟨_, rfl, ?_⟩⟩
      rw [d4, hok]
      refine iteF ?_
      have hp1 := s1 _ _ hp
      refine ⟨_, rfl, _, rfl, p, C, dx, _, rfl, hp1, T.cl, T.nL, (by show 0 < 1000; decide), ?_⟩
      have hrp : ∀ {b : Addr} {u : HO}, H b = some u → (∀ C dx fs, u ≠ .ins C dx fs) → (upd H1 p (.ins C dx (putF "leaves" (.int n) []))) b = some u := fun {b u} e ne => by
        rw [upd_ne (fun z => by rw [z, hp] at e; cases e; exact ne _ _ _ rfl)]
        exact s1 _ _ e
      have hs3 : SqL K (upd H1 p (.ins C dx (putF "leaves" (.int n) []))) r vs := by
        rcases hs with (h | ⟨o, h⟩) | h
        · exact .inl (.inl (hrp h (by intro C dx fs z; cases z)))
        · exact .inl (.inr ⟨o, hrp h (by intro C dx fs z; cases z)⟩)
        · exact .inr h
      have pr3 : ∀ {v : V} {z : Int × Int}, Pr K H v z → Pr K (upd H1 p (.ins C dx (putF "leaves" (.int n) []))) v z := by
        rintro v z ⟨q, e, h⟩
        refine ⟨q, e, ?_⟩
        rcases h with ((h | ⟨o, h⟩) | h) | ((h | ⟨o, h⟩) | h)
        · exact .inl (.inl (.inl (hrp h (by intro C dx fs z; cases z))))
        · exact .inl (.inl (.inr ⟨o, hrp h (by intro C dx fs z; cases z)⟩))
        · exact .inl (.inr h)
        · exact .inr (.inl (.inl (hrp h (by intro C dx fs z; cases z))))
        · exact .inr (.inl (.inr ⟨o, hrp h (by intro C dx fs z; cases z)⟩))
        · exact .inr (.inr h)
      have hp3 : (upd H1 p (.ins C dx (putF "leaves" (.int n) []))) p = some (.ins C dx (putF "leaves" (.int n) [])) := upd_same
      have out3 : ∀ b o, H b = some o → b ≠ p → (upd H1 p (.ins C dx (putF "leaves" (.int n) []))) b = some o := fun b o e ne => by
        rw [upd_ne ne]
        exact s1 _ _ e
      generalize (upd H1 p (.ins C dx (putF "leaves" (.int n) []))) = H3 at hs3 pr3 hp3 out3 ⊢
      refine ⟨_, rfl, r, rfl, ⟨_, hs3⟩, fun D nD => ?_⟩
      refine lc_list (K := K) (a := r) (xs := vs) (fun i H4 => Same H3 H4 ∧ ∃ ys, H4 D = some (.lst ys) ∧ All2 (Pt K H4) ys (gs.take i)) ⟨same_new nD, [], upd_same, .nil⟩ (fun i H4 _ ⟨s4, _⟩ => s4.seq hs3) ?_ ?_
      · rintro i v H4 hi ⟨s4, ys, h4, a4⟩
        obtain ⟨z, hz1, hz2⟩ := ha.get hi
        obtain ⟨q0, rfl, hq⟩ := (pr3 hz2).same s4
        have lys : ys.length < sizeLine := by
          rw [a4.len, List.length_take]
          exact Nat.lt_of_le_of_lt (Nat.min_le_right _ _) (Nat.lt_of_le_of_lt hz (by decide))
        have keep : ∀ {H5 : Hp} {zs : List V}, Same H4 H5 → Same H3 (upd H5 D (.lst zs)) := fun {H5 zs} s5 b o e => by
          rw [upd_ne (ne_of_none e nD)]
          exact s5 _ _ (s4 _ _ e)
        refine ⟨rfl, yes_of ?_⟩
        rcases hq with hq | hq
        · refine ⟨_, rfl, q0, _, rfl, .inl ⟨hq, fun l nl => ?_⟩⟩
          have s5 : Same H4 (upd H4 l (.tup [.int z.1, .int z.2])) := same_new nl
          refine ⟨_, s5 _ _ h4, lys, keep s5, _, upd_same, ?_⟩
          rw [take_more hz1]
          have fi : Firm (upd H4 l (.tup [.int z.1, .int z.2])) (upd (upd H4 l (.tup [.int z.1, .int z.2])) D (.lst (ys ++ [.ref l]))) := Firm.upd (s5 _ _ h4) rfl
          exact (a4.imp fun _ _ h => (h.firm (Firm.of s5)).firm fi).snoc ⟨l, rfl, firm_seq fi (SqT.of upd_same)⟩
        · refine ⟨_, rfl, q0, _, rfl, .inr ⟨hq, ?_⟩⟩
          refine ⟨_, h4, lys, keep (Same.refl _), _, upd_same, ?_⟩
          rw [take_more hz1]
          have fi : Firm H4 (upd H4 D (.lst (ys ++ [.ref q0]))) := Firm.upd h4 rfl
          exact (a4.imp fun _ _ h => h.firm fi).snoc ⟨q0, rfl, firm_seq fi hq⟩
      · rintro H4 ⟨s4, ys, h4, a4⟩
        rw [ha.len, List.take_length] at a4
        refine ⟨D, ys, rfl, .inl ⟨SqL.of h4, fun g ng => ?_⟩⟩
        have hp4 := s4 _ _ hp3
        have s5 : Same H4 (upd H4 g (.tup ys)) := same_new ng
        refine ⟨_, rfl, p, C, dx, _, rfl, s5 _ _ hp4, T.cl, T.nG, (by show 1 < 1000; decide), ?_⟩
        refine q _ (fun b o e ne => ?_) ⟨dx, g, upd_same, ys, ?_, ?_⟩
        · rw [upd_ne ne]
          exact s5 _ _ (s4 _ _ (out3 b o e ne))
        · have ngp : g ≠ p := fun e => by
            rw [e, hp4] at ng
            cases ng
          exact SqT.of (by rw [upd_ne ngp, upd_same])
        · refine a4.imp fun _ _ h => ?_
          obtain ⟨q1, e1, h1⟩ := h.firm (Firm.of s5)
          refine ⟨q1, e1, ?_⟩
          rcases h1 with (h | ⟨o, h⟩) | h
          · exact .inl (.inl (by rw [upd_ne (fun e => by rw [e, s5 _ _ hp4] at h; cases h)]; exact h))
          · exact .inl (.inr ⟨o, by rw [upd_ne (fun e => by rw [e, s5 _ _ hp4] at h; cases h)]; exact h⟩)
          · exact .inr h
    · refine ⟨_, PSs.nox (pss_cons (ps_expr (pe_call GN hr2 (by rfl) gN kN bN .nil pass0 (pa_cons (pv 1) pa_nil)))
        (pss_cons (ps_if (pt_not (pt_val (pe_call GA hr (by rfl) gA kA bA .nil pass0 (pa_cons (pv 1) (pa_cons (pv 2) pa_nil))))) (pss_one ps_never) pss_nil)
        (pss_cons (ps_fld (pv 0) (pv 1) rfl)
        (pss_one (ps_fld (pv 0) (pe_callTy call_tuple_of (by rfl) T.ki.tuple (by decide +kernel) (pa_cons
          (pe_lc (own := [("pair", 3)]) (g := gName 3) (tt := tYes) rfl scInit.nd (pi_tup (pv 2)) (blkOk_by (N := inN) (sc := defScope sInit) (by decide +kernel)) (fun _ _ _ _ _ => pg_name (i := 3) scInit.nd rfl (Or.inl rfl)) (fun _ _ _ _ _ => pts_nil)
            (fun _ _ _ _ _ => pe_callTy (T := "tuple") (r := rTupOf K) (by exact call_tuple_of) (by rfl) T.ki.tuple (by decide +kernel) (pa_cons (pv 3) pa_nil))) pa_nil)) rfl))))), ?_⟩
      refine ⟨_, rfl, n, rfl, hn, ?_⟩
      refine ⟨_, rfl, _, rfl, n, _, d, rfl, d1, by omega, d3, fun H1 s1 => ⟨_, rfl, ?_⟩⟩
      rw [d4, hok]
      refine iteF ?_
      have hp1 := s1 _ _ hp
      refine ⟨_, rfl, _, rfl, p, C, dx, _, rfl, hp1, T.cl, T.nL, (by show 0 < 1000; decide), ?_⟩
      have hrp : ∀ {b : Addr} {u : HO}, H b = some u → (∀ C dx fs, u ≠ .ins C dx fs) → (upd H1 p (.ins C dx (putF "leaves" (.int n) []))) b = some u := fun {b u} e ne => by
        rw [upd_ne (fun z => by rw [z, hp] at e; cases e; exact ne _ _ _ rfl)]
        exact s1 _ _ e
      have hs3 : SqT K (upd H1 p (.ins C dx (putF "leaves" (.int n) []))) r vs := by
        rcases hs with (h | ⟨o, h⟩) | h
        · exact .inl (.inl (hrp h (by intro C dx fs z; cases z)))
        · exact .inl (.inr ⟨o, hrp h (by intro C dx fs z; cases z)⟩)
        · exact .inr h
      have pr3 : ∀ {v : V} {z : Int × Int}, Pr K H v z → Pr K (upd H1 p (.ins C dx (putF "leaves" (.int n) []))) v z := by
        rintro v z ⟨q, e, h⟩
        refine ⟨q, e, ?_⟩
        rcases h with ((h | ⟨o, h⟩) | h) | ((h | ⟨o, h⟩) | h)
        · exact .inl (.inl (.inl (hrp h (by intro C dx fs z; cases z))))
        · exact .inl (.inl (.inr ⟨o, hrp h (by intro C dx fs z; cases z)⟩))
        · exact .inl (.inr h)
        · exact .inr (.inl (.inl (hrp h (by intro C dx fs z; cases z))))
        · exact .inr (.inl (.inr ⟨o, hrp h (by intro C dx fs z; cases z)⟩))
        · exact .inr (.inr h)
      have hp3 : (upd H1 p (.ins C dx (putF "leaves" (.int n) []))) p = some (.ins C dx (putF "leaves" (.int n) [])) := upd_same
      have out3 : ∀ b o, H b = some o → b ≠ p → (upd H1 p (.ins C dx (putF "leaves" (.int n) []))) b = some o := fun b o e ne => by
        rw [upd_ne ne]
        exact s1 _ _ e
      generalize (upd H1 p (.ins C dx (putF "leaves" (.int n) []))) = H3 at hs3 pr3 hp3 out3 ⊢
      refine ⟨_, rfl, r, rfl, ⟨_, hs3⟩, fun D nD => ?_⟩
      refine lc_tup (K := K) (a := r) (xs := vs) (fun i H4 => Same H3 H4 ∧ ∃ ys, H4 D = some (.lst ys) ∧ All2 (Pt K H4) ys (gs.take i)) ⟨same_new nD, [], upd_same, .nil⟩ (fun i H4 _ ⟨s4, _⟩ => seqT_same s4 hs3) ?_ ?_
      · rintro i v H4 hi ⟨s4, ys, h4, a4⟩
        obtain ⟨z, hz1, hz2⟩ := ha.get hi
        obtain ⟨q0, rfl, hq⟩ := (pr3 hz2).same s4
        have lys : ys.length < sizeLine := by
          rw [a4.len, List.length_take]
          exact Nat.lt_of_le_of_lt (Nat.min_le_right _ _) (Nat.lt_of_le_of_lt hz (by decide))
        have keep : ∀ {H5 : Hp} {zs : List V}, Same H4 H5 → Same H3 (upd H5 D (.lst zs)) := fun {H5 zs} s5 b o e => by
          rw [upd_ne (ne_of_none e nD)]
          exact s5 _ _ (s4 _ _ e)
        refine ⟨rfl, yes_of ?_⟩
        rcases hq with hq | hq
        · refine ⟨_, rfl, q0, _, rfl, .inl ⟨hq, fun l nl => ?_⟩⟩
          have s5 : Same H4 (upd H4 l (.tup [.int z.1, .int z.2])) := same_new nl
          refine ⟨_, s5 _ _ h4, lys, keep s5, _, upd_same, ?_⟩
          rw [take_more hz1]
          have fi : Firm (upd H4 l (.tup [.int z.1, .int z.2])) (upd (upd H4 l (.tup [.int z.1, .int z.2])) D (.lst (ys ++ [.ref l]))) := Firm.upd (s5 _ _ h4) rfl
          exact (a4.imp fun _ _ h => (h.firm (Firm.of s5)).firm fi).snoc ⟨l, rfl, firm_seq fi (SqT.of upd_same)⟩
        · refine ⟨_, rfl, q0, _, rfl, .inr ⟨hq, ?_⟩⟩
          refine ⟨_, h4, lys, keep (Same.refl _), _, upd_same, ?_⟩
          rw [take_more hz1]
          have fi : Firm H4 (upd H4 D (.lst (ys ++ [.ref q0]))) := Firm.upd h4 rfl
          exact (a4.imp fun _ _ h => h.firm fi).snoc ⟨q0, rfl, firm_seq fi hq⟩
      · rintro H4 ⟨s4, ys, h4, a4⟩
        rw [ha.len, List.take_length] at a4
        refine ⟨D, ys, rfl, .inl ⟨SqL.of h4, fun g ng => ?_⟩⟩
        have hp4 := s4 _ _ hp3
        have s5 : Same H4 (upd H4 g (.tup ys)) := same_new ng
        refine ⟨_, rfl, p, C, dx, _, rfl, s5 _ _ hp4, T.cl, T.nG, (by show 1 < 1000; decide), ?_⟩
        refine q _ (fun b o e ne => ?_) ⟨dx, g, upd_same, ys, ?_, ?_⟩
        · rw [upd_ne ne]
          exact s5 _ _ (s4 _ _ (out3 b o e ne))
        · have ngp : g ≠ p := fun e => by
            rw [e, hp4] at ng
            cases ng
          exact SqT.of (by rw [upd_ne ngp, upd_same])
        · refine a4.imp fun _ _ h => ?_
          obtain ⟨q1, e1, h1⟩ := h.firm (Firm.of s5)
          refine ⟨q1, e1, ?_⟩
          rcases h1 with (h | ⟨o, h⟩) | h
          · exact .inl (.inl (by rw [upd_ne (fun e => by rw [e, s5 _ _ hp4] at h; cases h)]; exact h))
          · exact .inl (.inr ⟨o, by rw [upd_ne (fun e => by rw [e, s5 _ _ hp4] at h; cases h)]; exact h⟩)
          · exact .inr h
theorem ok_eq (F : FnE K f fd) (T : Tx K mg C) : FnOk P w K mg base CX0 1 f fd ["self", "other"] (spEqG K C) := by
  refine F.ok scEq (fun vs H Q E h => ?_) (fun cdv A outer s H vs Q E hr h => ?_)
  · obtain ⟨p, v, n, gs, rfl, _⟩ := h
    rfl
  · obtain ⟨p, v, n, gs, rfl, hp, q⟩ := h
    obtain ⟨dx, g, h1, h2⟩ := hp
    refine ⟨_, PSs.nox (pss_one (ps_ret (pe_and (pe_callB call_isi (by rfl) T.ki.isi (by decide +kernel) (pa_cons (pv 1) (pa_cons (pe_glob (v := V.ref C) (by rfl) T.mgC rfl) pa_nil)))
      (pe_and (pe_cmpR op_eq (pe_fld (pv 0) rfl) (pe_fld (pv 1) rfl) (nomark _)) (pe_one (pe_cmpR (op_eqD hr.units) (pe_fld (pv 0) rfl) (pe_fld (pv 1) rfl) (nomark _))))))), ?_⟩
    rcases q with ⟨q, n', gs', rfl, hq, k⟩ | ⟨t, xs, rfl, ht, k⟩
    · obtain ⟨dy, g', e1, e2⟩ := hq
      refine ⟨_, rfl, _, _, _, _, _, rfl, .own _, .base (T.met e1), T.own, _, rfl, iteT ?_⟩
      refine ⟨_, rfl, p, C, dx, _, _, rfl, h1, T.cl, T.nL, flds_L _ _, _, rfl, q, C, dy, _, _, rfl, e1, T.cl, T.nL, flds_L _ _, rfl, _, rfl, ite2 (fun c => ?_) (fun c => ?_)⟩
      · refine ⟨_, rfl, p, C, dx, _, _, rfl, h1, T.cl, T.nG, flds_G _ _, _, rfl, q, C, dy, _, _, rfl, e1, T.cl, T.nG, flds_G _ _, _, _, h2.dp, e2.dp, ?_, ?_, ?_⟩
        · exact shaped_gD gs
        · exact shaped_gD gs'
        · have e : n = n' := V.int.inj (of_decide_eq_true c)
          rw [decide_eq_true e] at k
          exact k
      · have e : ¬ n = n' := fun z => c (decide_eq_true (congrArg V.int z))
        rw [decide_eq_false e] at k
        exact k
    · exact ⟨_, rfl, _, _, _, _, _, rfl, .own _, ty_tup ht, T.tup, _, rfl, iteF k⟩
end
end Gr
namespace No
open PySem PySem.Spec PyProof.Rows L2 Pen Dat Ki Fi Gr
/-! ## Values of nodes and literals -/
/-- abs, as its rule tells it -/
def ab (z : Int) : Int := if z < 0 then -z else z
def lit (f : List Int) (a : Int) : Int := ab (f.getD (a / 2).toNat 0 - a % 2)
def step (f : List Int) (p : Int × Int) : List Int := f ++ [lit f p.1 * lit f p.2]
def vals (bs : List Int) (gs : List (Int × Int)) : List Int := gs.foldl step (0 :: bs)
def B01 (f : List Int) : Prop := ∀ z ∈ f, z = 0 ∨ z = 1
theorem getD_01 {f : List Int} (h : B01 f) (j : Nat) : f.getD j 0 = 0 ∨ f.getD j 0 = 1 := by
  rw [List.getD_eq_getElem?_getD]
  cases e : f[j]? with
  | none => exact .inl rfl
  | some z => exact h z (List.mem_of_getElem? e)
theorem lit_01 {f : List Int} (h : B01 f) (a : Int) : lit f a = 0 ∨ lit f a = 1 := by
  have h1 := getD_01 h (a / 2).toNat
  have h2 : a % 2 = 0 ∨ a % 2 = 1 := by omega
  unfold lit ab
  rcases h1 with e1 | e1 <;> rcases h2 with e2 | e2 <;> rw [e1, e2] <;> decide
theorem mul_01 {x y : Int} (hx : x = 0 ∨ x = 1) (hy : y = 0 ∨ y = 1) : x * y = 0 ∨ x * y = 1 := by
  rcases hx with rfl | rfl <;> rcases hy with rfl | rfl <;> decide
theorem step_01 {f : List Int} (h : B01 f) (p : Int × Int) : B01 (step f p) := fun z hz => by
  rcases List.mem_append.mp hz with q | q
  · exact h z q
  · rw [List.mem_singleton.mp q]
    exact mul_01 (lit_01 h _) (lit_01 h _)
theorem foldl_len : ∀ (gs : List (Int × Int)) (f : List Int), (gs.foldl step f).length = f.length + gs.length
  | [], f => rfl
  | p :: r, f => by
    show (r.foldl step (step f p)).length = _
    rw [foldl_len r]
    unfold step
    rw [List.length_append]
    show f.length + 1 + r.length = f.length + (r.length + 1)
    omega
theorem foldl_01 : ∀ (gs : List (Int × Int)) {f : List Int}, B01 f → B01 (gs.foldl step f)
  | [], _, h => h
  | p :: r, _, h => foldl_01 r (step_01 h p)
theorem vals_take (bs : List Int) {gs : List (Int × Int)} {i : Nat} {p : Int × Int} (h : gs[i]? = some p) : vals bs (gs.take (i + 1)) = step (vals bs (gs.take i)) p := by
  unfold vals
  rw [take_more h, List.foldl_append]
  rfl
theorem vals_len (bs : List Int) (gs : List (Int × Int)) : (vals bs gs).length = bs.length + 1 + gs.length := by
  unfold vals
  rw [foldl_len]
  rfl
theorem vals_01 {bs : List Int} (gs : List (Int × Int)) (h : B01 bs) : B01 (vals bs gs) :=
  foldl_01 gs fun z hz => by
    rcases List.mem_cons.mp hz with rfl | hz
    · exact .inl rfl
    · exact h z hz
/-- the literals of gate i are of nodes ahead -/
theorem okG_at : ∀ {gs : List (Int × Int)} {m : Int} {i : Nat} {p : Int × Int}, okG m gs = true → gs[i]? = some p → (0 ≤ p.1 ∧ p.1 ≤ m + 2 * i) ∧ 0 ≤ p.2 ∧ p.2 ≤ m + 2 * i
  | [], _, _, _, _, e => by simp at e
  | q :: r, m, 0, p, h, e => by
    simp at e
    subst e
    unfold okG within at h
    simp only [Bool.and_eq_true, decide_eq_true_eq] at h
    obtain ⟨⟨⟨a, b⟩, c, d⟩, _⟩ := h
    exact ⟨⟨a, by omega⟩, c, by omega⟩
  | q :: r, m, i + 1, p, h, e => by
    simp at e
    unfold okG at h
    rw [Bool.and_eq_true] at h
    obtain ⟨⟨a, b⟩, c, d⟩ := okG_at h.2 e
    exact ⟨⟨a, by omega⟩, c, by omega⟩
theorem half_lt {a m : Int} (h0 : 0 ≤ a) (h : a ≤ 2 * m + 1) : (a / 2).toNat < (m + 1).toNat := by omega
/-- x ^ (a & 1), x a bit -/
theorem flip_bit {x a : Int} (hx : x = 0 ∨ x = 1) : Builtin.bitXor x (Builtin.bitAnd a 1) = ab (x - a % 2) := by
  have e := bitAnd_m1 a
  rw [e]
  have h2 : a % 2 = 0 ∨ a % 2 = 1 := by omega
  rcases hx with rfl | rfl <;> rcases h2 with e2 | e2 <;> rw [e2] <;> decide
theorem and_bits {x y : Int} (hx : x = 0 ∨ x = 1) (hy : y = 0 ∨ y = 1) : Builtin.bitAnd x y = x * y := by
  rcases hx with rfl | rfl <;> rcases hy with rfl | rfl <;> decide
theorem getD_of {f : List Int} {j : Nat} (h : j < f.length) : (f.map V.int)[j]? = some (.int (f.getD j 0)) := by
  rw [List.getElem?_map, List.getD_eq_getElem?_getD, List.getElem?_eq_getElem h]
  rfl
/-- a row of ints, list or tuple -/
def SeqI (K : PySem.W.Frag) (H : Hp) (v : V) (bs : List Int) : Prop := ∃ r, v = .ref r ∧ (SqL K H r (bs.map V.int) ∨ SqT K H r (bs.map V.int))
theorem SeqI.same {K : PySem.W.Frag} {H H' : Hp} {v : V} {bs : List Int} (s : Same H H') (h : SeqI K H v bs) : SeqI K H' v bs := by
  obtain ⟨r, e, h⟩ := h
  exact ⟨r, e, h.elim (fun h => .inl (s.seq h)) fun h => .inr (seqT_same s h)⟩
theorem bet_all {bs : List Int} (h : B01 bs) : ((bs.map PyData.int).all fun e => betD e 0 1) = true := by
  rw [List.all_map, List.all_eq_true]
  intro z hz
  rcases h z hz with rfl | rfl <;> rfl
theorem seqI_dp {K : PySem.W.Frag} {H : Hp} {v : V} {bs : List Int} (h : SeqI K H v bs) (hb : B01 bs) : ∃ d, Dp K H v d ∧ (rowsD d).length = bs.length ∧ rowB d (bs.length : Int) 0 1 = true := by
  have e : ∀ l : List PyData, l = bs.map PyData.int → (true && (decide (((l.length : Nat) : Int) = bs.length) && l.all fun e => betD e 0 1)) = true := by
    rintro l rfl
    rw [bet_all hb, List.length_map, decide_eq_true rfl]
    rfl
  obtain ⟨r, rfl, h | h⟩ := h
  · exact ⟨_, .lst h (ints_dp bs), List.length_map .., e _ rfl⟩
  · exact ⟨_, .tup h (ints_dp bs), List.length_map .., e _ rfl⟩
def spNode (K : PySem.W.Frag) (C : Addr) : Sp := fun vs H Q _ => ∃ (p : Addr) (v : V) (gs : List (Int × Int)) (bs : List Int), vs = [.ref p, v] ∧ GraphAt K C H p bs.length gs ∧ SeqI K H v bs ∧ B01 bs ∧ okG (2 * bs.length + 1) gs = true ∧ bs.length ≤ 500 ∧ gs.length ≤ 500 ∧
  ∀ (H' : Hp) (t : Addr), Same H H' → SqT K H' t ((vals bs gs).map V.int) → Q (.ref t) H'
def spLit (K : PySem.W.Frag) : Sp := fun vs H Q _ => ∃ (t : Addr) (xs : List V) (a : Int) (v : V), vs = [.ref t, .int a] ∧ SqT K H t xs ∧ 0 ≤ a ∧ xs[(a / 2).toNat]? = some v ∧
  ((v = .non ∧ Q .non H) ∨ ∃ x : Int, v = .int x ∧ (x = 0 ∨ x = 1) ∧ Q (.int (ab (x - a % 2))) H)
section
variable {P : Program} {w : World} {K : PySem.W.Frag} {mg : Str → Option Value} {base : Heap} {f C : Addr} {fd : FuncData}
abbrev noN : List Str := ["graph", "bits", "found", "one", "other"]
theorem scNode : FnScope noN ["graph", "bits"] (defScope sNode) := ⟨rfl, rfl, rfl, by decide +kernel, rfl, by decide +kernel, by decide +kernel⟩
theorem scLit : FnScope ["found", "literal", "value"] ["found", "literal"] (defScope sLit) := ⟨rfl, rfl, rfl, by decide +kernel, rfl, by decide +kernel, by decide +kernel⟩
theorem ok_lit (F : FnP K "literal_value" sLit f fd) : FnOk P w K mg base CX0 1 f fd ["found", "literal"] (spLit K) := by
  refine F.ok scLit (fun vs H Q E h => ?_) (fun cdv A outer s H vs Q E hr h => ?_)
  · obtain ⟨t, xs, a, v, rfl, _⟩ := h
    rfl
  · obtain ⟨t, xs, a, v, rfl, ht, ha, hv, q⟩ := h
    refine ⟨_, PSs.nox (pss_cons (ps_set (i := 2) scLit.nd rfl (Or.inl rfl) (pe_ix ix_tup (pv 0) (pe_op op_shr (pv 1) pe_int) (fun _ _ => rfl)))
      (pss_cons (ps_if (pt_cmpR op_isN (pv 2) pe_non (nomark _)) (pss_one (ps_ret pe_non)) pss_nil)
      (pss_one (ps_ret (pe_op op_xor (pv 2) (pe_op op_and (pv 1) pe_int)))))), ?_⟩
    have ej : a / 2 ^ (1 : Int).toNat = (((a / 2).toNat : Nat) : Int) := by
      show a / 2 = _
      omega
    refine ⟨_, rfl, _, rfl, _, _, rfl, rfl, (by show (0 : Int) ≤ 1; decide), t, _, _, _, rfl, rfl, ht, at_of (j := (a / 2).toNat) ej hv, ?_⟩
    rcases q with ⟨rfl, q⟩ | ⟨x, rfl, hx, q⟩
    · exact ⟨_, rfl, rfl, _, rfl, iteT q⟩
    · refine ⟨_, rfl, rfl, _, rfl, iteF ?_⟩
      refine ⟨_, rfl, _, rfl, _, _, rfl, rfl, _, _, rfl, rfl, ?_⟩
      show Q (.int (Builtin.bitXor x (Builtin.bitAnd a 1))) H
      rw [flip_bit hx]
      exact q
theorem ok_node {fB : Addr} {fdB : FuncData} (F : FnP K "node_values" sNode f fd) (T : Tx K mg C) (GB : FnOk P w K mg base CX0 2 fB fdB ["value", "many", "least", "most"] (spRowB K)) (gB : mg "is_row_between" = some (.ref fB)) (kB : PySem.W.keepIn K (.ref fB) = true)
    (bB : Binds K fdB ["value", "many", "least", "most"] []) : FnOk P w K mg base CX0 3 f fd ["graph", "bits"] (spNode K C) := by
  refine F.ok scNode (fun vs H Q E h => ?_) (fun cdv A outer s H vs Q E hr h => ?_)
  · obtain ⟨p, v, gs, bs, rfl, _⟩ := h
    rfl
  · obtain ⟨p, v, gs, bs, rfl, hG, hB, hb, hok, hz1, hz2, q⟩ := h
    obtain ⟨d, d1, d2, d3⟩ := seqI_dp hB hb
    obtain ⟨dx, g, h1, h2⟩ := hG
    obtain ⟨ps, hg, ha⟩ := id h2
    obtain ⟨r, rfl, hr1⟩ := id hB
    refine ⟨_, PSs.nox (pss_cons (ps_if (pt_not (pt_val (pe_call GB hr (by rfl) gB kB bB .nil pass0 (pa_cons (pv 1) (pa_cons (pe_fld (pv 0) rfl) (pa_cons pe_int (pa_cons pe_int pa_nil))))))) (pss_one ps_never) pss_nil)
      (pss_cons (ps_set (i := 2) scNode.nd rfl (Or.inl rfl) (pe_lst (pa_cons pe_int (StX.pa_star (pv 1) pa_nil))))
      (pss_cons (ps_for PassesOwn.never rfl (pi_tup (pe_fld (pv 0) rfl)) (pg_tup rfl (pgs_cons (pg_name (i := 3) scNode.nd rfl (Or.inl rfl)) (pgs_cons (pg_name (i := 4) scNode.nd rfl (Or.inl rfl)) pgs_nil)))
        (pss_one (ps_expr (pe_bm PySem.F.plainAttrs_list PySem.F.slot_list_append PySem.F.type_list_append mt_append (pv 2) (pa_cons (pe_op op_and
          (pe_op op_xor (pe_ix ix_list (pv 2) (pe_op op_shr (pv 3) pe_int) (fun _ _ => rfl)) (pe_op op_and (pv 3) pe_int))
          (pe_op op_xor (pe_ix ix_list (pv 2) (pe_op op_shr (pv 4) pe_int) (fun _ _ => rfl)) (pe_op op_and (pv 4) pe_int))) pa_nil)))))
      (pss_one (ps_ret (pe_callTy call_tuple_of (by rfl) T.ki.tuple (by decide +kernel) (pa_cons (pv 2) pa_nil))))))), ?_⟩
    refine ⟨_, rfl, _, rfl, p, C, dx, _, _, rfl, h1, T.cl, T.nL, flds_L _ _, _, _, _, _, d, rfl, d1, by omega, fun H1 s1 => ⟨_, rfl, ?_⟩⟩
    rw [d3]
    refine iteF ?_
    have hr2 : SqT K H1 r (bs.map V.int) ∨ SqL K H1 r (bs.map V.int) := hr1.elim (fun h => .inr (s1.seq h)) fun h => .inl (seqT_same s1 h)
    refine ⟨_, rfl, r, _, rfl, hr2, ?_, fun l nl => ?_⟩
    · show (V.int 0 :: (bs.map V.int ++ [])).length ≤ sizeLine
      rw [List.append_nil, List.length_cons, List.length_map]
      exact Nat.le_trans (Nat.succ_le_succ hz1) (by decide)
    have sl : Same H1 (upd H1 l (.lst (V.int 0 :: (bs.map V.int ++ [])))) := same_new nl
    refine ⟨_, rfl, p, C, dx, _, _, rfl, sl _ _ (s1 _ _ h1), T.cl, T.nG, flds_G _ _, g, rfl, ⟨_, seqT_same (s1.trans sl) hg⟩, for_tup (K := K) (a := g) (xs := ps)
      (fun i σ H2 => ∃ u w : Option V, σ = [some (.ref p), some (.ref r), some (.ref l), u, w] ∧ Same H1 H2 ∧ H2 l = some (.lst ((vals bs (gs.take i)).map V.int)))
      ⟨none, none, rfl, sl, ?_⟩ (fun i σ H2 _ ⟨_, _, _, s2, _⟩ => seqT_same (s1.trans s2) hg) ?_ ?_⟩
    · rw [upd_same, List.append_nil]
      rfl
    · rintro i x σ H2 hi ⟨u, w, rfl, s2, h2'⟩
      obtain ⟨z, hz, hx⟩ := ha.get hi
      obtain ⟨q0, rfl, hq⟩ := hx
      have hi2 : i < gs.length := (List.getElem?_eq_some_iff.mp hz).1
      obtain ⟨⟨a0, a1⟩, b0, b1⟩ := okG_at hok hz
      have lv : (vals bs (gs.take i)).length = bs.length + 1 + i := by
        rw [vals_len, List.length_take, Nat.min_eq_left (Nat.le_of_lt hi2)]
      have v01 := vals_01 (gs.take i) hb
      have j1 : (z.1 / 2).toNat < (vals bs (gs.take i)).length := by omega
      have j2 : (z.2 / 2).toNat < (vals bs (gs.take i)).length := by omega
      have e1 : z.1 / 2 ^ (1 : Int).toNat = (((z.1 / 2).toNat : Nat) : Int) := by
        show z.1 / 2 = _
        omega
      have e2 : z.2 / 2 ^ (1 : Int).toNat = (((z.2 / 2).toNat : Nat) : Int) := by
        show z.2 / 2 = _
        omega
      refine ⟨q0, _, rfl, seqT_same (s1.trans s2) hq, rfl, _, _, rfl, _, _, rfl, rfl, ?_⟩
      refine ⟨_, rfl, .inl ⟨rfl, _, SqL.of h2'⟩, _, rfl, _, rfl, _, _, rfl, rfl, (by show (0 : Int) ≤ 1; decide), l, _, _, _, rfl, rfl, SqL.of h2', at_of e1 (getD_of j1), _, rfl, _, _, rfl, rfl, _, _, rfl, rfl,
        _, rfl, _, rfl, _, _, rfl, rfl, (by show (0 : Int) ≤ 1; decide), l, _, _, _, rfl, rfl, SqL.of h2', at_of e2 (getD_of j2), _, rfl, _, _, rfl, rfl, _, _, rfl, rfl, _, _, rfl, rfl, l, _, _, rfl, rfl, h2', ?_, ?_⟩
      · rw [List.length_map, lv]
        exact Nat.lt_of_lt_of_le (by omega : bs.length + 1 + i < 1002) (by decide)
      · refine ⟨_, _, rfl, fun b o e => ?_, ?_⟩
        · rw [upd_ne (ne_of_none e nl)]
          exact s2 _ _ e
        · rw [upd_same, vals_take bs hz]
          unfold step
          rw [List.map_append]
          show some (HO.lst (_ ++ [V.int (Builtin.bitAnd (Builtin.bitXor _ (Builtin.bitAnd z.1 1)) (Builtin.bitXor _ (Builtin.bitAnd z.2 1)))])) = _
          rw [flip_bit (getD_01 v01 _), flip_bit (getD_01 v01 _)]
          have f1 := lit_01 v01 z.1
          have f2 := lit_01 v01 z.2
          unfold lit at f1 f2
          rw [and_bits f1 f2]
          rfl
    · rintro σ H2 ⟨u, w, rfl, s2, h2'⟩
      rw [ha.len, List.take_length] at h2'
      refine ⟨_, rfl, l, _, rfl, .inl ⟨SqL.of h2', fun t nt => ?_⟩⟩
      exact q _ t (s1.trans (s2.trans (same_new nt))) (SqT.of upd_same)
end
end No
namespace Lf
open PySem PySem.Spec PyProof.Rows L2 Pen Dat Ki Fi Gr No
/-! ## The law's own functions -/
structure Tx (mg : Str → Option Value) : Prop where
  pen : Pen.Txt mg
  abs : mg "abs" = none
  range : mg "range" = none
  tuple : mg "tuple" = none
def longer (rs : List (List Int)) : List (List Int) := rs.flatMap fun r => [r ++ [0], r ++ [1]]
def rowsM : Nat → List (List Int)
  | 0 => [[]]
  | n + 1 => longer (rowsM n)
theorem longer_cons (r : List Int) (rs : List (List Int)) : longer (r :: rs) = (r ++ [0]) :: (r ++ [1]) :: longer rs := rfl
theorem longer_app (rs ts : List (List Int)) : longer (rs ++ ts) = longer rs ++ longer ts := List.flatMap_append
theorem longer_len : ∀ rs : List (List Int), (longer rs).length = 2 * rs.length
  | [] => rfl
  | r :: rs => by
    rw [longer_cons, List.length_cons, List.length_cons, longer_len rs, List.length_cons]
    omega
theorem longer_mem : ∀ {rs : List (List Int)} {n : Nat}, (∀ r ∈ rs, r.length = n ∧ B01 r) → ∀ r ∈ longer rs, r.length = n + 1 ∧ B01 r
  | [], _, _, r, h => by cases h
  | t :: rs, n, hr, r, h => by
    have ht := hr t List.mem_cons_self
    rw [longer_cons] at h
    have one : ∀ z : Int, (z = 0 ∨ z = 1) → (t ++ [z]).length = n + 1 ∧ B01 (t ++ [z]) := fun z hz => ⟨by rw [List.length_append, ht.1]; rfl, fun y hy => by
      rcases List.mem_append.mp hy with q | q
      · exact ht.2 y q
      · rw [List.mem_singleton.mp q]
        exact hz⟩
    rcases List.mem_cons.mp h with rfl | h
    · exact one 0 (.inl rfl)
    · rcases List.mem_cons.mp h with rfl | h
      · exact one 1 (.inr rfl)
      · exact longer_mem (fun r hr2 => hr r (List.mem_cons_of_mem _ hr2)) r h
theorem rowsM_mem : ∀ (n : Nat), ∀ r ∈ rowsM n, r.length = n ∧ B01 r
  | 0, r, h => by
    rw [List.mem_singleton.mp h]
    exact ⟨rfl, fun z hz => by cases hz⟩
  | n + 1, r, h => longer_mem (rowsM_mem n) r h
theorem rowsM_len : ∀ n : Nat, (rowsM n).length = 2 ^ n
  | 0 => rfl
  | n + 1 => by
    show (longer (rowsM n)).length = _
    rw [longer_len, rowsM_len n, Nat.pow_succ, Nat.mul_comm]
theorem okG_snoc : ∀ {gs : List (Int × Int)} {m : Int} {p : Int × Int}, okG m gs = true → 0 ≤ p.1 → p.1 ≤ m + 2 * gs.length → 0 ≤ p.2 → p.2 ≤ m + 2 * gs.length → okG m (gs ++ [p]) = true
  | [], m, p, _, a, b, c, d => by
    show ((within p.1 m && within p.2 m) && true) = true
    unfold within
    have b' : p.1 ≤ m := by simpa using b
    have d' : p.2 ≤ m := by simpa using d
    rw [decide_eq_true a, decide_eq_true b', decide_eq_true c, decide_eq_true d']
    rfl
  | q :: r, m, p, h, a, b, c, d => by
    unfold okG at h
    rw [Bool.and_eq_true] at h
    show ((within q.1 m && within q.2 m) && okG (m + 2) (r ++ [p])) = true
    rw [h.1, okG_snoc h.2 a (by rw [List.length_cons] at b; omega) c (by rw [List.length_cons] at d; omega)]
    rfl
def spBit (K : PySem.W.Frag) : Sp := fun vs H Q _ => ∃ (l : Addr) (xs : List Int) (a : Int), vs = [.ref l, .int a] ∧ SqL K H l (xs.map V.int) ∧ 0 ≤ a ∧ (a / 2).toNat < xs.length ∧ Q (.int (lit xs a)) H
def spValues (K : PySem.W.Frag) : Sp := fun vs H Q _ => ∃ (u : V) (g r : Addr) (gs : List (Int × Int)) (bs : List Int), vs = [u, .ref g, .ref r] ∧ GT K H g gs ∧ SqT K H r (bs.map V.int) ∧ B01 bs ∧ okG (2 * bs.length + 1) gs = true ∧ bs.length ≤ 500 ∧ gs.length ≤ 500 ∧
  ∀ (H' : Hp) (l : Addr), Same H H' → H l = none → H' l = some (.lst ((vals bs gs).map V.int)) → Q (.ref l) H'
def spDrawn (K : PySem.W.Frag) : Sp := fun vs H Q _ => ∃ (p c : Addr) (k : Nat) (n m : Int), vs = [.ref p, .int n, .int m] ∧ PenC H p c k ∧ k ≤ 100000000000 ∧ 0 ≤ n ∧ n ≤ 100 ∧ 0 ≤ m ∧ m ≤ 100 ∧
  ∀ (H' : Hp) (g : Addr) (gs : List (Int × Int)), PenC H' p c (k + 2 * m.toNat) → But p H H' → GT K H' g gs → okG (2 * n + 1) gs = true → gs.length = m.toNat → Q (.ref g) H'
def spLonger (K : PySem.W.Frag) : Sp := fun vs H Q _ => ∃ (l : Addr) (ws : List V) (rs : List (List Int)), vs = [.ref l, .int 2] ∧ SqL K H l ws ∧ All2 (Tu K H) ws rs ∧ rs.length ≤ 2100 ∧ (∀ r ∈ rs, r.length ≤ 100) ∧
  ∀ (H' : Hp) (l' : Addr) (zs : List V), Same H H' → H' l' = some (.lst zs) → All2 (Tu K H') zs (longer rs) → Q (.ref l') H'
def spRows (K : PySem.W.Frag) : Sp := fun vs H Q _ => ∃ (m : Int), vs = [.int m] ∧ 0 ≤ m ∧ m ≤ 11 ∧
  ∀ (H' : Hp) (l : Addr) (ws : List V), Same H H' → H' l = some (.lst ws) → All2 (Tu K H') ws (rowsM m.toNat) → Q (.ref l) H'
section
variable {P : Program} {w : World} {K : PySem.W.Frag} {mg : Str → Option Value} {base : Heap} {f C : Addr} {fd : FuncData}
abbrev vaN : List Str := ["_law_leaves", "_law_gates", "_law_bits", "_law_found", "_law_one", "_law_two"]
abbrev drN : List Str := ["_law_pen_here", "_law_leaves", "_law_many", "_law_gates", "_law_k", "_law_ahead"]
abbrev loN : List Str := ["_law_rows_here", "_law_many", "_law_found", "_law_row", "_law_number"]
theorem scBit : FnScope ["_law_found", "_law_literal"] ["_law_found", "_law_literal"] (defScope sBit) := ⟨rfl, rfl, rfl, by decide +kernel, rfl, by decide +kernel, by decide +kernel⟩
theorem scValues : FnScope vaN ["_law_leaves", "_law_gates", "_law_bits"] (defScope sValues) := ⟨rfl, rfl, rfl, by decide +kernel, rfl, by decide +kernel, by decide +kernel⟩
theorem scDrawn : FnScope drN ["_law_pen_here", "_law_leaves", "_law_many"] (defScope sDrawn) := ⟨rfl, rfl, rfl, by decide +kernel, rfl, by decide +kernel, by decide +kernel⟩
theorem scLonger : FnScope loN ["_law_rows_here", "_law_many"] (defScope sLonger) := ⟨rfl, rfl, rfl, by decide +kernel, rfl, by decide +kernel, by decide +kernel⟩
theorem scRows : FnScope ["_law_many", "_law_rows_here", "_law_k"] ["_law_many"] (defScope sRows) := ⟨rfl, rfl, rfl, by decide +kernel, rfl, by decide +kernel, by decide +kernel⟩
theorem ok_bit (F : FnP K "_law_bit" sBit f fd) (T : Tx mg) : FnOk P w K mg base CX0 1 f fd ["_law_found", "_law_literal"] (spBit K) := by
  refine F.ok scBit (fun vs H Q E h => ?_) (fun cdv A outer s H vs Q E hr h => ?_)
  · obtain ⟨l, xs, a, rfl, _⟩ := h
    rfl
  · obtain ⟨l, xs, a, rfl, hl, ha, hz, q⟩ := h
    refine ⟨_, PSs.nox (pss_one (ps_ret (pe_callB call_abs (by rfl) T.abs (by decide +kernel) (pa_cons (pe_op op_sub (pe_ix ix_list (pv 0) (pe_op op_fdiv (pv 1) pe_int) (fun _ _ => rfl))
      (pe_op op_mod (pe_callTy call_int1 (by rfl) T.pen.int (by decide +kernel) (pa_cons (pv 1) pa_nil)) pe_int)) pa_nil)))), ?_⟩
    have e : a / 2 = (((a / 2).toNat : Nat) : Int) := by omega
    exact ⟨_, rfl, _, rfl, _, _, rfl, rfl, ⟨by decide, by decide⟩, l, _, _, _, rfl, rfl, hl, at_of e (getD_of hz), _, rfl, .inl ⟨_, rfl, _, _, rfl, rfl, (by show (0 : Int) < 2; decide), _, _, rfl, rfl, _, rfl, q⟩⟩
theorem ok_values {fB : Addr} {fdB : FuncData} (F : FnP K "_law_values" sValues f fd) (T : Tx mg) (FB : FnP K "_law_bit" sBit fB fdB) (gB : mg "_law_bit" = some (.ref fB)) : FnOk P w K mg base CX0 2 f fd ["_law_leaves", "_law_gates", "_law_bits"] (spValues K) := by
  have GB : FnOk P w K mg base CX0 1 fB fdB ["_law_found", "_law_literal"] (spBit K) := ok_bit FB T
  have bB : Binds K fdB ["_law_found", "_law_literal"] [] := FB.bindsN fun _ _ _ _ _ _ us hl => match us, hl with | [_, _], _ => rfl
  refine F.ok scValues (fun vs H Q E h => ?_) (fun cdv A outer s H vs Q E hr h => ?_)
  · obtain ⟨u, g, r, gs, bs, rfl, _⟩ := h
    rfl
  · obtain ⟨u, g, r, gs, bs, rfl, hG, hB, hb, hok, hz1, hz2, q⟩ := h
    obtain ⟨ps, hg, ha⟩ := id hG
    refine ⟨_, PSs.nox (pss_cons (ps_set (i := 3) scValues.nd rfl (Or.inl rfl) (pe_op op_cat (pe_lst (pa_cons pe_int pa_nil)) (pe_callTy call_list_of (by rfl) T.pen.list (by decide +kernel) (pa_cons (pv 2) pa_nil))))
      (pss_cons (ps_for PassesOwn.never rfl (pi_tup (pv 1)) (pg_tup rfl (pgs_cons (pg_name (i := 4) scValues.nd rfl (Or.inl rfl)) (pgs_cons (pg_name (i := 5) scValues.nd rfl (Or.inl rfl)) pgs_nil)))
        (pss_one (ps_expr (pe_bm PySem.F.plainAttrs_list PySem.F.slot_list_append PySem.F.type_list_append mt_append (pv 3) (pa_cons (pe_op op_mul
          (pe_call GB hr (by rfl) gB FB.kp bB .nil pass0 (pa_cons (pv 3) (pa_cons (pv 4) pa_nil)))
          (pe_call GB hr (by rfl) gB FB.kp bB .nil pass0 (pa_cons (pv 3) (pa_cons (pv 5) pa_nil)))) pa_nil)))))
      (pss_one (ps_ret (pv 3))))), ?_⟩
    refine ⟨(by show 1 ≤ sizeLine; decide), fun l1 n1 => ?_⟩
    have s1 : Same H (upd H l1 (.lst [.int 0])) := same_new n1
    refine ⟨_, rfl, r, _, rfl, .inr (seqT_same s1 hB), fun l2 n2 => ?_⟩
    have s2 := same_new (u := .lst (bs.map V.int)) n2
    refine ⟨_, _, _, _, rfl, rfl, s2 _ _ upd_same, upd_same, ?_, fun l n3 => ?_⟩
    · rw [List.length_map]
      show 1 + bs.length ≤ sizeLine
      exact Nat.le_trans (by omega : 1 + bs.length ≤ 501) (by decide)
    have s3 := same_new (u := .lst ([V.int 0] ++ bs.map V.int)) n3
    have s123 := s1.trans (s2.trans s3)
    have nl : H l = none := (s1.trans s2).free n3
    generalize hH : upd _ l _ = H1 at s123
    have h1 : H1 l = some (.lst ((vals bs []).map V.int)) := by
      rw [← hH, upd_same]
      rfl
    clear hH s3 n3
    refine ⟨_, rfl, g, rfl, ⟨_, seqT_same s123 hg⟩, for_tup (K := K) (a := g) (xs := ps)
      (fun i σ H2 => ∃ x y : Option V, σ = [some u, some (.ref g), some (.ref r), some (.ref l), x, y] ∧ Same H H2 ∧ H2 l = some (.lst ((vals bs (gs.take i)).map V.int)))
      ⟨none, none, rfl, s123, h1⟩ (fun i σ H2 _ ⟨_, _, _, z, _⟩ => seqT_same z hg) ?_ ?_⟩
    · rintro i x σ H2 hi ⟨y, y', rfl, z2, h2⟩
      obtain ⟨z, hz, hx⟩ := ha.get hi
      obtain ⟨q0, rfl, hq⟩ := hx
      have hi2 : i < gs.length := (List.getElem?_eq_some_iff.mp hz).1
      obtain ⟨⟨a0, a1⟩, b0, b1⟩ := okG_at hok hz
      have lv : (vals bs (gs.take i)).length = bs.length + 1 + i := by
        rw [vals_len, List.length_take, Nat.min_eq_left (Nat.le_of_lt hi2)]
      have v01 := vals_01 (gs.take i) hb
      have f1 := lit_01 v01 z.1
      refine ⟨q0, _, rfl, seqT_same z2 hq, rfl, _, _, rfl, _, _, rfl, rfl, ?_⟩
      refine ⟨_, rfl, .inl ⟨rfl, _, SqL.of h2⟩, _, rfl, _, rfl, l, _, z.1, rfl, SqL.of h2, a0, by omega, _, rfl, _, rfl, l, _, z.2, rfl, SqL.of h2, b0, by omega, _, _, rfl, rfl, .inl ?_, l, _, _, rfl, rfl, h2, ?_, ?_⟩
      · rcases f1 with e | e <;> rw [e] <;> exact ⟨by decide, by decide⟩
      · rw [List.length_map, lv]
        exact Nat.lt_of_lt_of_le (by omega : bs.length + 1 + i < 1002) (by decide)
      · refine ⟨_, _, rfl, fun b o e => ?_, ?_⟩
        · rw [upd_ne (ne_of_none e nl)]
          exact z2 _ _ e
        · rw [upd_same, vals_take bs hz]
          unfold No.step
          rw [List.map_append]
          rfl
    · rintro σ H2 ⟨y, y', rfl, z2, h2⟩
      rw [ha.len, List.take_length] at h2
      exact ⟨_, rfl, q _ l z2 nl h2⟩
theorem ok_drawn {fD : Addr} {fdD : FuncData} (F : FnP K "_law_drawn_gates" sDrawn f fd) (T : Tx mg) (FD : FnP K "_law_draw" sDraw fD fdD) (gD : mg "_law_draw" = some (.ref fD)) : FnOk P w K mg base CX0 2 f fd ["_law_pen_here", "_law_leaves", "_law_many"] (spDrawn K) := by
  have GD : FnOk P w K mg base CX0 1 fD fdD ["_law_pen_here", "_law_many"] spDraw := ok_draw FD T.pen
  have bD : Binds K fdD ["_law_pen_here", "_law_many"] [] := FD.bindsN fun _ _ _ _ _ _ us hl => match us, hl with | [_, _], _ => rfl
  refine F.ok scDrawn (fun vs H Q E h => ?_) (fun cdv A outer s H vs Q E hr h => ?_)
  · obtain ⟨p, c, k, n, m, rfl, _⟩ := h
    rfl
  · obtain ⟨p, c, k, n, m, rfl, hP, hk, n0, n1, m0, m1, q⟩ := h
    refine ⟨_, PSs.nox (pss_cons (ps_set (i := 3) scDrawn.nd rfl (Or.inl rfl) (pe_lst pa_nil))
      (pss_cons (ps_for PassesOwn.never rfl (pi_range1 (by rfl) T.range (pa_cons (pv 2) pa_nil)) (pg_name (i := 4) scDrawn.nd rfl (Or.inl rfl))
        (pss_cons (ps_set (i := 5) scDrawn.nd rfl (Or.inl rfl) (pe_op op_mul pe_int (pe_op op_add (pe_op op_add pe_int (pv 1)) (pv 4))))
        (pss_one (ps_expr (pe_bm PySem.F.plainAttrs_list PySem.F.slot_list_append PySem.F.type_list_append mt_append (pv 3) (pa_cons (pe_tup (pa_cons
          (pe_call GD hr (by rfl) gD FD.kp bD .nil pass0 (pa_cons (pv 0) (pa_cons (pv 5) pa_nil))) (pa_cons
          (pe_call GD hr (by rfl) gD FD.kp bD .nil pass0 (pa_cons (pv 0) (pa_cons (pv 5) pa_nil))) pa_nil))) pa_nil))))))
      (pss_one (ps_ret (pe_callTy call_tuple_of (by rfl) T.tuple (by decide +kernel) (pa_cons (pv 3) pa_nil)))))), ?_⟩
    refine ⟨(by show 0 ≤ sizeLine; decide), fun l nl => ?_⟩
    obtain ⟨lp, lc⟩ := hP.free nl
    have sl := same_new (u := .lst []) nl
    refine ⟨_, rfl, m, rfl, ?_, ?_, for_range (lo := 0) (n := m.toNat)
      (fun i σ H2 => ∃ (x y : Option V) (ys : List V) (gs : List (Int × Int)), σ = [some (.ref p), some (.int n), some (.int m), some (.ref l), x, y] ∧ PenC H2 p c (k + 2 * i) ∧ (∀ b o, H b = some o → b ≠ p → H2 b = some o) ∧
        H2 l = some (.lst ys) ∧ All2 (Pt K H2) ys gs ∧ okG (2 * n + 1) gs = true ∧ gs.length = i)
      ⟨none, none, [], [], rfl, hP.same sl, fun b o e _ => sl _ _ e, upd_same, .nil, rfl, rfl⟩ ?_ ?_⟩
    · omega
    · omega
    · rintro i σ H2 hi ⟨x, y, ys, gs, rfl, hP2, keep, h2, ha, hok, hlen⟩
      have him : (i : Int) < m := by omega
      refine ⟨_, rfl, _, _, rfl, rfl, _, rfl, _, _, rfl, rfl, _, _, rfl, rfl, .inl ⟨by decide, by decide⟩, ?_⟩
      refine ⟨_, rfl, .inl ⟨rfl, _, SqL.of h2⟩, _, rfl, _, rfl, p, c, k + 2 * i, _, rfl, hP2, by omega, by omega, by omega, fun r1 H3 r10 r11 P3 B3 => ?_⟩
      refine ⟨_, rfl, _, rfl, p, c, k + 2 * i + 1, _, rfl, P3, by omega, by omega, by omega, fun r2 H4 r20 r21 P4 B4 => ?_⟩
      refine ⟨(by show 2 ≤ sizeLine; decide), fun t nt => ?_⟩
      have st := same_new (u := .tup [V.int r1, V.int r2]) nt
      have h4 : H4 l = some (.lst ys) := B4 _ _ (B3 _ _ h2 lp) lp
      have f34 : Firm H2 H4 := (Firm.pen B3 hP2).trans (Firm.pen B4 P3)
      refine ⟨l, _, _, rfl, rfl, st _ _ h4, ?_, ?_⟩
      · rw [ha.len, hlen]
        exact Nat.lt_of_lt_of_le (by omega : i < 101) (by decide)
      · have fl : Firm (upd H4 t (.tup [V.int r1, V.int r2])) (upd (upd H4 t (.tup [V.int r1, V.int r2])) l (.lst (ys ++ [.ref t]))) := Firm.upd (st _ _ h4) rfl
        refine ⟨_, _, ys ++ [.ref t], gs ++ [(r1, r2)], rfl, ?_, fun b o e ne => ?_, upd_same, ?_, ?_, ?_⟩
        · have z := (P4.same st).upd (o := .lst (ys ++ [.ref t])) lp lc
          rw [show k + 2 * (i + 1) = k + 2 * i + 1 + 1 by omega]
          exact z
        · rw [upd_ne (ne_of_none e nl)]
          exact st _ _ (B4 _ _ (B3 _ _ (keep b o e ne) ne) ne)
        · exact (ha.imp fun _ _ h => ((h.firm f34).firm (Firm.of st)).firm fl).snoc ⟨t, rfl, firm_seq fl (SqT.of upd_same)⟩
        · exact okG_snoc hok r10 (by show r1 ≤ _; rw [hlen]; omega) r20 (by show r2 ≤ _; rw [hlen]; omega)
        · rw [List.length_append, hlen]
          rfl
    · rintro σ H2 ⟨x, y, ys, gs, rfl, hP2, keep, h2, ha, hok, hlen⟩
      refine ⟨_, rfl, l, _, rfl, .inl ⟨SqL.of h2, fun g ng => ?_⟩⟩
      have sg := same_new (u := .tup ys) ng
      exact q _ g gs (hP2.same sg) (fun b o e ne => sg _ _ (keep b o e ne)) ⟨ys, SqT.of upd_same, ha.imp fun _ _ h => h.firm (Firm.of sg)⟩ hok hlen
theorem ok_longer (F : FnP K "_law_longer" sLonger f fd) (T : Tx mg) : FnOk P w K mg base CX0 1 f fd ["_law_rows_here", "_law_many"] (spLonger K) := by
  refine F.ok scLonger (fun vs H Q E h => ?_) (fun cdv A outer s H vs Q E hr h => ?_)
  · obtain ⟨l, ws, rs, rfl, _⟩ := h
    rfl
  · obtain ⟨l, ws, rs, rfl, hl, ha, hzn, hz2, q⟩ := h
    refine ⟨_, PSs.nox (pss_cons (ps_set (i := 2) scLonger.nd rfl (Or.inl rfl) (pe_lst pa_nil))
      (pss_cons (ps_for PassesOwn.never rfl (pi_list (pv 0)) (pg_name (i := 3) scLonger.nd rfl (Or.inr rfl))
        (pss_one (ps_set (i := 2) scLonger.nd rfl (Or.inl rfl) (pe_op op_cat (pv 2) (pe_lc (own := [("_law_number", 4)]) (g := gName 4) (tt := tYes) rfl scLonger.nd (pi_range1 (by rfl) T.range (pa_cons (pv 1) pa_nil)) (blkOk_by (N := loN) (sc := defScope sLonger) (by decide +kernel))
          (fun _ _ _ _ _ => pg_name (i := 4) scLonger.nd rfl (Or.inl rfl)) (fun _ _ _ _ _ => pts_nil) (fun _ _ _ _ _ => pe_op (r := rCatA K) (by exact op_catA) (pv 3) (pe_tup (pa_cons (pv 4) pa_nil))))))))
      (pss_one (ps_ret (pv 2))))), ?_⟩
    refine ⟨(by show 0 ≤ sizeLine; decide), fun l0 n0 => ?_⟩
    have s0 := same_new (u := .lst []) n0
    refine ⟨_, rfl, l, rfl, ⟨_, s0.seq hl⟩, for_list (K := K) (a := l) (xs := ws)
      (fun i σ H2 => ∃ (x : Option V) (t : Addr) (zs : List V), σ = [some (.ref l), some (.int 2), some (.ref t), x, none] ∧ Same H H2 ∧ H2 t = some (.lst zs) ∧ All2 (Tu K H2) zs (longer (rs.take i)))
      ⟨none, l0, [], rfl, s0, upd_same, .nil⟩ (fun i σ H2 _ ⟨_, _, _, _, z, _⟩ => z.seq hl) ?_ ?_⟩
    · rintro i x σ H2 hi ⟨y, t, zs, rfl, s2, h2, hz⟩
      obtain ⟨r, hr1, hr2⟩ := ha.get hi
      obtain ⟨q0, rfl, hq⟩ := hr2
      have hq2 : SqT K H2 q0 (r.map V.int) := SqT.of (s2 _ _ hq)
      refine ⟨_, rfl, _, rfl, 2, rfl, by decide, by decide, fun D nD => ?_⟩
      refine lc_range (lo := 0) (n := 2) (fun j H3 => Same H2 H3 ∧ ∃ us, H3 D = some (.lst us) ∧ All2 (Tu K H3) us ((List.range j).map fun (k : Nat) => r ++ [0 + (k : Int)])) ⟨same_new nD, [], upd_same, .nil⟩ ?_ ?_
      · rintro j H3 hj ⟨s3, us, h3, h3a⟩
        have ul : us.length < sizeLine := by
          rw [h3a.len, List.length_map, List.length_range]
          exact Nat.lt_trans hj (by decide)
        have fin : ∀ (t2 : Addr) (H4 : Hp), Same H3 H4 → H4 t2 = some (.tup ((r ++ [0 + (j : Int)]).map V.int)) → ∃ acc, H4 D = some (.lst acc) ∧ acc.length < sizeLine ∧ Same H2 (upd H4 D (.lst (acc ++ [.ref t2]))) ∧
            ∃ us, (upd H4 D (.lst (acc ++ [.ref t2]))) D = some (.lst us) ∧ All2 (Tu K (upd H4 D (.lst (acc ++ [.ref t2])))) us ((List.range (j + 1)).map fun (k : Nat) => r ++ [0 + (k : Int)]) := fun t2 H4 s4 ht => by
          have fi : Firm H4 (upd H4 D (.lst (us ++ [.ref t2]))) := Firm.upd (s4 _ _ h3) rfl
          refine ⟨us, s4 _ _ h3, ul, fun b o e => ?_, us ++ [.ref t2], upd_same, ?_⟩
          · rw [upd_ne (ne_of_none e nD)]
            exact s4 _ _ (s3 _ _ e)
          · rw [List.range_succ, List.map_append]
            exact (h3a.imp fun _ _ h => (h.firm (Firm.of s4)).firm fi).snoc ⟨t2, rfl, fi _ _ ht rfl⟩
        refine ⟨rfl, yes_of ?_⟩
        refine ⟨_, rfl, _, rfl, (by show 1 ≤ sizeLine; decide), fun t1 nt1 => ?_⟩
        have s1 := same_new (u := .tup [V.int (0 + (j : Int))]) nt1
        have hr3 := hz2 r (List.mem_of_getElem? hr1)
        refine ⟨q0, t1, _, _, rfl, rfl, seqT_same (s3.trans s1) hq2, SqT.of upd_same, ?_, fun e => ?_, fun _ e => ?_, fun e _ t2 nt2 => ?_⟩
        · rw [List.length_map]
          exact Nat.le_trans (by show r.length + 1 ≤ 101; omega) (by decide)
        · have er : r = [] := List.map_eq_nil_iff.mp e
          exact fin t1 _ s1 (by rw [er]; exact upd_same)
        · cases e
        · have s2' := same_new (u := .tup (r.map V.int ++ [V.int (0 + (j : Int))])) nt2
          exact fin t2 _ (s1.trans s2') (by rw [List.map_append]; exact upd_same)
      · rintro H3 ⟨s3, us, h3, h3a⟩
        have hu2 : us.length = 2 := by
          rw [h3a.len]
          rfl
        have hzl := hz.len
        have tl : (rs.take i).length ≤ 2100 := by
          rw [List.length_take]
          exact Nat.le_trans (Nat.min_le_right _ _) hzn
        refine ⟨t, D, zs, us, rfl, rfl, s3 _ _ h2, h3, ?_, fun t2 nt2 => ?_⟩
        · rw [hzl, longer_len, hu2]
          exact Nat.le_trans (by omega : 2 * (rs.take i).length + 2 ≤ 4202) (by decide)
        · have s4 := same_new (u := .lst (zs ++ us)) nt2
          refine ⟨_, t2, zs ++ us, rfl, s2.trans (s3.trans s4), upd_same, ?_⟩
          rw [take_more hr1, longer_app]
          exact (hz.imp fun _ _ h => h.firm (Firm.of (s3.trans s4))).append (h3a.imp fun _ _ h => h.firm (Firm.of s4))
    · rintro σ H2 ⟨y, t, zs, rfl, s2, h2, hz⟩
      rw [ha.len, List.take_length] at hz
      exact ⟨_, rfl, q _ t zs s2 h2 hz⟩
theorem ok_rows {fL : Addr} {fdL : FuncData} (F : FnP K "_law_rows" sRows f fd) (T : Tx mg) (FL : FnP K "_law_longer" sLonger fL fdL) (gL : mg "_law_longer" = some (.ref fL)) : FnOk P w K mg base CX0 2 f fd ["_law_many"] (spRows K) := by
  have GL : FnOk P w K mg base CX0 1 fL fdL ["_law_rows_here", "_law_many"] (spLonger K) := ok_longer FL T
  have bL : Binds K fdL ["_law_rows_here", "_law_many"] [] := FL.bindsN fun _ _ _ _ _ _ us hl => match us, hl with | [_, _], _ => rfl
  refine F.ok scRows (fun vs H Q E h => ?_) (fun cdv A outer s H vs Q E hr h => ?_)
  · obtain ⟨m, rfl, _⟩ := h
    rfl
  · obtain ⟨m, rfl, m0, m1, q⟩ := h
    refine ⟨_, PSs.nox (pss_cons (ps_set (i := 1) scRows.nd rfl (Or.inl rfl) (pe_lst (pa_cons (pe_tup pa_nil) pa_nil)))
      (pss_cons (ps_for PassesOwn.never rfl (pi_range1 (by rfl) T.range (pa_cons (pv 0) pa_nil)) (pg_name (i := 2) scRows.nd rfl (Or.inl rfl))
        (pss_one (ps_set (i := 1) scRows.nd rfl (Or.inl rfl) (pe_call GL hr (by rfl) gL FL.kp bL .nil pass0 (pa_cons (pv 1) (pa_cons pe_int pa_nil))))))
      (pss_one (ps_ret (pv 1))))), ?_⟩
    refine ⟨(by show 0 ≤ sizeLine; decide), fun t nt => ⟨(by show 1 ≤ sizeLine; decide), fun l nl => ?_⟩⟩
    have s1 := same_new (u := .tup []) nt
    have s2 := same_new (u := .lst [.ref t]) nl
    refine ⟨_, rfl, m, rfl, ?_, ?_, for_range (lo := 0) (n := m.toNat)
      (fun i σ H2 => ∃ (x : Option V) (l : Addr) (zs : List V), σ = [some (.int m), some (.ref l), x] ∧ Same H H2 ∧ H2 l = some (.lst zs) ∧ All2 (Tu K H2) zs (rowsM i))
      ⟨none, l, [.ref t], rfl, s1.trans s2, upd_same, .cons ⟨t, rfl, s2 _ _ upd_same⟩ .nil⟩ ?_ ?_⟩
    · omega
    · omega
    · rintro i σ H2 hi ⟨x, l, zs, rfl, s3, h3, ha⟩
      have hi7 : i < 11 := by omega
      have hpow : (rowsM i).length ≤ 2100 := by
        rw [rowsM_len]
        exact Nat.le_trans (Nat.pow_le_pow_right (by decide) (by omega : i ≤ 10)) (by decide)
      refine ⟨_, rfl, l, zs, rowsM i, rfl, SqL.of h3, ha, hpow, fun r hr => ?_, fun H4 l' ws s4 h4 ha4 => ?_⟩
      · rw [(rowsM_mem i r hr).1]
        omega
      · exact ⟨_, l', ws, rfl, s3.trans s4, h4, ha4⟩
    · rintro σ H2 ⟨x, l, zs, rfl, s3, h3, ha⟩
      exact ⟨_, rfl, q _ l zs s3 h3 ha⟩
end
end Lf
namespace Rp
open PySem PySem.Spec PyProof.Rows L2 Fi
/-! ## What may be handed to repr -/
structure ROk (d : PyData) : Prop where
  show_ : d.showable = true
  dict : d.hasDict = false
  deep : d.depth ≤ 60
  long : d.shown.length ≤ sizeLine
def Small (i : Int) : Prop := 0 ≤ i ∧ i < 1000
theorem log_small : ∀ n : Nat, n < 1000 → n.log2 < 10 := by decide +kernel
theorem abs_small {i : Int} (h : Small i) : i.natAbs < 1000 := by
  obtain ⟨a, b⟩ := h
  omega
theorem show_small {i : Int} (h : Small i) : (PyData.int i).showable = true := by
  have := log_small _ (abs_small h)
  exact decide_eq_true (Nat.lt_trans this (by decide))
theorem weigh_small {i : Int} (h : Small i) : (PyData.int i).weight ≤ 10 := by
  have := log_small _ (abs_small h)
  show (if i == 0 then 0 else i.natAbs.log2 + 1) ≤ 10
  split <;> omega
theorem short_small {i : Int} (h : Small i) : (PyData.int i).intsShort 13 = true := by
  have := abs_small h
  exact decide_eq_true (PyData.shown_int_le (Nat.lt_trans this (by decide)))
theorem ints_all : ∀ {ns : List Int}, (∀ z ∈ ns, Small z) → PyData.showableAll (ns.map .int) = true ∧ PyData.hasDictAll (ns.map .int) = false ∧ PyData.depthAll (ns.map .int) = 0 ∧ PyData.canLayAll0 (ns.map .int) = true ∧
    PyData.intsShortAll 13 (ns.map .int) = true ∧ PyData.weightAll (ns.map .int) ≤ 11 * ns.length
  | [], _ => ⟨rfl, rfl, rfl, rfl, rfl, Nat.zero_le _⟩
  | z :: r, h => by
    have hz := h z List.mem_cons_self
    obtain ⟨a, b, c, d, e, g⟩ := ints_all (ns := r) fun y hy => h y (List.mem_cons_of_mem _ hy)
    refine ⟨?_, b, ?_, d, ?_, ?_⟩
    · show ((PyData.int z).showable && PyData.showableAll (r.map .int)) = true
      rw [show_small hz, a]
      rfl
    · show max 0 (PyData.depthAll (r.map .int)) = 0
      rw [c]
      rfl
    · show ((PyData.int z).intsShort 13 && PyData.intsShortAll 13 (r.map .int)) = true
      rw [short_small hz, e]
      rfl
    · show (PyData.int z).weight + 1 + PyData.weightAll (r.map .int) ≤ 11 * (r.length + 1)
      have := weigh_small hz
      omega
theorem row_ok {ns : List Int} (h : ∀ z ∈ ns, Small z) (hz : ns.length ≤ 1000) : ROk (.tuple (ns.map .int)) := by
  obtain ⟨a, b, c, d, e, g⟩ := ints_all h
  refine ⟨a, b, by show PyData.depthAll (ns.map .int) + 1 ≤ 60; omega, PyData.shown_fits_of_layable0 (B := 13) (by decide) (by decide) ?_ e⟩
  show ((PyData.canLayAll0 (ns.map .int) && decide (PyData.depthAll (ns.map .int) + 1 ≤ 64)) && decide (PyData.weightAll (ns.map .int) ≤ 2 ^ 20)) = true
  rw [d, decide_eq_true (by omega), decide_eq_true (Nat.le_trans g (Nat.le_trans (Nat.mul_le_mul_left 11 hz) (by decide)))]
  rfl
def SmallP (p : Int × Int) : Prop := Small p.1 ∧ Small p.2
theorem pairs_all : ∀ {gs : List (Int × Int)}, (∀ p ∈ gs, SmallP p) → PyData.showableAll (gs.map pD) = true ∧ PyData.hasDictAll (gs.map pD) = false ∧ PyData.depthAll (gs.map pD) ≤ 1 ∧ PyData.canLayAll0 (gs.map pD) = true ∧
    PyData.intsShortAll 13 (gs.map pD) = true ∧ PyData.weightAll (gs.map pD) ≤ 30 * gs.length
  | [], _ => ⟨rfl, rfl, Nat.zero_le _, rfl, rfl, Nat.zero_le _⟩
  | p :: r, h => by
    obtain ⟨p1, p2⟩ := h p List.mem_cons_self
    obtain ⟨a, b, c, d, e, g⟩ := pairs_all (gs := r) fun y hy => h y (List.mem_cons_of_mem _ hy)
    refine ⟨?_, b, ?_, d, ?_, ?_⟩
    · show (((PyData.int p.1).showable && ((PyData.int p.2).showable && true)) && PyData.showableAll (r.map pD)) = true
      rw [show_small p1, show_small p2, a]
      rfl
    · show max 1 (PyData.depthAll (r.map pD)) ≤ 1
      exact Nat.max_le.mpr ⟨Nat.le_refl _, c⟩
    · show (((PyData.int p.1).intsShort 13 && ((PyData.int p.2).intsShort 13 && true)) && PyData.intsShortAll 13 (r.map pD)) = true
      rw [short_small p1, short_small p2, e]
      rfl
    · show ((PyData.int p.1).weight + 1 + ((PyData.int p.2).weight + 1 + 0)) + 1 + PyData.weightAll (r.map pD) ≤ 30 * (r.length + 1)
      have h1 := weigh_small p1
      have h2 := weigh_small p2
      omega
theorem gates_ok {gs : List (Int × Int)} (h : ∀ p ∈ gs, SmallP p) (hz : gs.length ≤ 1000) : ROk (gD gs) := by
  obtain ⟨a, b, c, d, e, g⟩ := pairs_all h
  refine ⟨a, b, by show PyData.depthAll (gs.map pD) + 1 ≤ 60; omega, PyData.shown_fits_of_layable0 (B := 13) (by decide) (by decide) ?_ e⟩
  show ((PyData.canLayAll0 (gs.map pD) && decide (PyData.depthAll (gs.map pD) + 1 ≤ 64)) && decide (PyData.weightAll (gs.map pD) ≤ 2 ^ 20)) = true
  rw [d, decide_eq_true (by omega), decide_eq_true (Nat.le_trans g (Nat.le_trans (Nat.mul_le_mul_left 30 hz) (by decide)))]
  rfl
theorem shaped_ints {ns : List Int} (h : ∀ z ∈ ns, Small z) : SeqAt.shaped (.list (ns.map .int)) = true ∧ SeqAt.shaped (.tuple (ns.map .int)) = true := by
  obtain ⟨a, b, c, d, e, g⟩ := ints_all h
  have k : (PyData.canLayAll0 (ns.map .int) && decide (PyData.depthAll (ns.map .int) + 1 ≤ 64)) = true := by
    rw [d, decide_eq_true (by omega)]
    rfl
  exact ⟨k, k⟩
theorem eqv_len : ∀ (xs ys : List PyData), PyData.eqvAll xs ys = true → xs.length = ys.length
  | [], [], _ => rfl
  | [], _ :: _, h => by
    unfold PyData.eqvAll at h
    cases h
  | _ :: _, [], h => by
    unfold PyData.eqvAll at h
    cases h
  | x :: xs, y :: ys, h => by
    unfold PyData.eqvAll at h
    exact congrArg Nat.succ (eqv_len xs ys (Bool.and_eq_true_iff.mp h).2)
theorem eqv_self (gs : List (Int × Int)) : PyData.eqv (gD gs) (gD gs) = true := SeqAt.eqv_refl _ (Gr.can_pD gs)
theorem eqv_cut {gs hs : List (Int × Int)} (h : gs.length ≠ hs.length) : PyData.eqv (gD gs) (gD hs) = false := by
  cases e : PyData.eqv (gD gs) (gD hs) with
  | false => rfl
  | true =>
    have e' : PyData.eqvAll (gs.map pD) (hs.map pD) = true := by
      unfold gD PyData.eqv at e
      exact e
    have := eqv_len _ _ e'
    rw [List.length_map, List.length_map] at this
    exact absurd this h
end Rp
namespace Yt
open PySem PySem.Spec PyProof.Rows L2 LamX Gd Wy
/-! ## A law that holds a lambda: its table; it may call repr -/
/-- from the def's body; its code object is told -/
theorem mk_ofC {P : Program} {w : World} {K : PySem.W.Frag} {mg : Str → Option Value} {base : Heap} {CX : CXT} {k : Nat} {f : Addr} {fd : FuncData} {ps : List Str} {sp : Sp} {x qual : Str} {params : Arguments} {body : List Stmt} {scope : Scope} {dvs : List V} {kws : List (Str × V)} {N : List Str}
    (F : FunD K x qual params body scope dvs kws f fd) (S : FnScope N ps scope) (many : ∀ vs H Q E, sp vs H Q E → vs.length = ps.length)
    (walk : ∀ (cv : Value) (A : Around) (fs : List Env) (s : Shared) (H : Hp) (vs : List V) (Q : VK) (E : XK), fd.code = cv → A.guards = some [] → Room k (A.deeper (envOfC qual scope s.heap.objs.size f cv)) → sp vs H Q E →
      ∃ t, PSs (cxOf CX P w K mg base N qual scope f cv A fs s H E) body t ∧ t { nx := fun _ H' => Q .non H', rt := Q } (L2.start N vs) H) :
    FnG P w K mg base CX (k + 1) f fd ps sp := by
  obtain ⟨_, _, _, _, _, _, _, cv, _, _, rfl, look, code, d1, d2⟩ := F.ex
  refine ⟨many, fun A fs s H ag us vs Q E hg room e bind rel prom => ?_⟩
  have kin : K.In s.heap := e.mod.kin.keeps fun b u z => (e.bs b u z).1
  have kinds : ∀ y ∈ ps.zip us, scope.names.lookup y.1 = some .local ∨ (scope.names.lookup y.1 = some .cell ∧ ((cellsFrom (s.heap.objs.size + 1) scope.names []).lookup y.1).isSome = true) := by
    rintro ⟨y, u⟩ hy
    rcases S.par y (List.of_mem_zip hy).1 with q | q
    · exact Or.inl q
    · exact Or.inr ⟨q, PySem.W.cellsFrom_some _ _ _ (Or.inl q)⟩
  refine codeAny_call_function room.depth (kin _ _ look) rfl S.co S.gen rfl (PySem.W.codeRec_of kin code) (bind _ _ _ _ ?_)
  refine wpAny_newFunctionEnv_cells S.kind kinds ?_
  rintro env rfl s1 hs1
  refine ⟨(e.mod.nolimit.keeps fun b u z => (e.bs b u z).1).keeps hs1.toInCall.keep, codeAny_func ?_⟩
  obtain ⟨t, ht, q⟩ := walk cv A fs s H vs Q E rfl hg (room.deeper _) prom
  have I := inv_start (CX := CX) (E := E) S room.hd e (many _ _ _ _ prom) rel hs1
  refine wpAny_mono (ht.run [] s1 (L2.start N vs) H _ I q) (fun fl s2 z => ?_) (fun _ _ z => z)
  match fl, z with
  | .ret u, ⟨v, σ', H', J, rv, q⟩ => exact ⟨v, H', J.os, J.bare, J.base, J.hok, rv, q⟩
  | .next, ⟨σ', H', J, q⟩ => exact ⟨V.non, H', J.os, J.bare, J.base, J.hok, rfl, q⟩
  | .brk, ⟨_, _, _, q⟩ => exact q.elim
  | .cont, ⟨_, _, _, q⟩ => exact q.elim
abbrev none_ : Obj := { cls := .none, data := .fields #[] }
/-- the heap in which the script, if the top did not write it, and the law's table are tracked -/
def scrT (K : PySem.W.Frag) (a T : Addr) (vs : List Value) (ns : List Int) : Hp := fun b => if b = T then some (.tbl #[]) else onlyScr K a vs ns b
theorem scrT_get {K : PySem.W.Frag} {a T b : Addr} {vs : List Value} {ns : List Int} {o : HO} (h : scrT K a T vs ns b = some o) : (b = T ∧ o = .tbl #[]) ∨ (b ≠ T ∧ b = a ∧ K.lookup a = none ∧ o = .frz (scr vs) (.lst (ns.map V.int))) := by
  unfold scrT at h
  by_cases e : b = T
  · rw [if_pos e] at h
    exact .inl ⟨e, (Option.some.inj h).symm⟩
  · rw [if_neg e] at h
    exact .inr ⟨e, onlyScr_get h⟩
theorem law_goT {P : Program} {w : World} {K : PySem.W.Frag} {mg mb : Str → Option Value} {CX : CXT} {k : Nat} {f a c T : Addr} {fd : FuncData} {x : Str} {sp : Sp} {s : Shared} {vs : List Value} {ns : List Int}
    (kin : K.In s.heap) (hm : s.heap.Ns mainGlobals mg) (hb : s.heap.Ns builtinsNs mb) (hbb : ∀ y : Str, y ≠ "__name__" → mb y = bootBuiltins y) (lim : s.heap.NoLimit) (hgen : s.gens = #[])
    (tab : s.heap.get? T = some none_) (out : K.lookup T = none) (hd : PySem.W.codeHdIn K c T = true) (bmain : ∃ (bm : Addr) (ob : Obj), mg "__builtins__" = some (.ref bm) ∧ bm ≠ builtinsNs ∧ s.heap.get? bm = some ob ∧ ob.cls = .type "module" ∧ ob.dict = some builtinsNs ∧ ob.data = .plain)
    (ha : s.heap.get? a = some (scr vs)) (hi : IntsAre vs ns) (hl : ns.length ≤ sizeLine) (hr : Room k callerA)
    (F : ∀ base : Heap, K.In base → base.Ns mainGlobals mg → TabB base mg c T → FnG P w K mg base CX k f fd [x] sp) (bind : ∀ (s : Shared) (u : Value), BindsTo s fd ⟨[u], []⟩ [(x, u)])
    (prom : ∀ H : Hp, H T = some (.tbl #[]) → SqL K H a (ns.map V.int) → sp [.ref a] H (fun v _ => v = .bl true) fun _ _ _ => False)
    (none_out : ∀ H e s', CX [] H s (fun _ _ _ => False) e s' → False) :
    codeAny (model P w) callerA (.call (.ref f) ⟨[.ref a], []⟩) (fun r s' => r = .ok (.ret (.bool true)) ∧ OldK s.heap s'.heap ∧ s'.os = s.os ∧ AllBare s'.gens) s := by
  have hv := vals_ints hi
  have hlen := hi.length
  have aT : a ≠ T := fun z => by
    rw [z, tab] at ha
    cases ha
  let H := scrT K a T vs ns
  have hT : H T = some (.tbl #[]) := if_pos rfl
  have gone : ∀ {b : Addr} {o : Obj}, K.lookup b = some o → H b = none := fun {b o} q => by
    cases e : H b with
    | none => rfl
    | some u =>
      rcases scrT_get e with ⟨rfl, _⟩ | ⟨_, rfl, n, _⟩
      · rw [out] at q
        cases q
      · rw [n] at q
        cases q
  have free : ∀ {b : Addr} {o : Obj}, s.heap.get? b = some o → (∀ (u : Array Value) (n : Nat), o.data ≠ .seq u n) → (∀ u, o.data ≠ .fields u) → H b = none := fun {b o} q d1 d2 => by
    cases e : H b with
    | none => rfl
    | some u =>
      rcases scrT_get e with ⟨rfl, _⟩ | ⟨_, rfl, _, _⟩
      · rw [tab] at q
        cases q
        exact (d2 _ rfl).elim
      · rw [ha] at q
        cases q
        exact (d1 _ _ rfl).elim
  have stays : ∀ {b : Addr} {m : Str → Option Value}, s.heap.Ns b m → (hidT s.heap H).Ns b m := fun ⟨o, es, ep, q, d, r⟩ =>
    ⟨o, es, ep, hidT_get q (free q (fun _ _ z => by rw [d] at z; cases z) fun _ z => by rw [d] at z; cases z), d, r⟩
  have kinT : K.In (hidT s.heap H) := fun b o q => hidT_get (kin b o q) (gone q)
  have hok : HOk P w H s.heap := fun b u q => by
    rcases scrT_get q with ⟨rfl, rfl⟩ | ⟨_, rfl, _, rfl⟩
    · exact tab
    · exact ⟨ha, by rw [List.length_map]; exact hl, vs, _, hv, ha⟩
  have hS : SqL K H a (ns.map V.int) := by
    cases e : K.lookup a with
    | none => exact .inl (.inr ⟨scr vs, (if_neg aT).trans (if_pos ⟨rfl, by rw [e]; rfl⟩)⟩)
    | some o =>
      have q := kin a o e
      rw [ha] at q
      cases q
      exact .inr ⟨_, vs.toArray, _, e, rfl, rfl, rfl, by rw [List.size_toArray, hlen]; exact hl, by simpa using hv⟩
  have notG : mainGlobals ≠ T := fun z => by
    obtain ⟨o, es, ep, q, d, _⟩ := hm
    rw [z, tab] at q
    cases q
    cases d
  have TB : TabB (hidT s.heap H) mg c T := by
    obtain ⟨bm, ob, b1, b2, b3, b4, b5, b6⟩ := bmain
    refine ⟨PySem.W.codeHd_of_K kinT hd, ⟨bm, ob, b1, b2, fun z => ?_, fun z => ?_, hidT_get b3 (free b3 (fun _ _ z => by rw [b6] at z; cases z) fun _ z => by rw [b6] at z; cases z), b4, b5, b6⟩, notG⟩
    · obtain ⟨o, es, ep, q, d, _⟩ := hm
      rw [z, q] at b3
      cases b3
      rw [d] at b6
      cases b6
    · rw [z, tab] at b3
      cases b3
      cases b6
  obtain ⟨mc, l1, l2⟩ := lim
  have e0 : Env0 P w K mg (hidT s.heap H) callerA [] s H := by
    refine ⟨rfl, ⟨kinT, stays hm, ⟨mb, stays hb, hbb⟩, ⟨mc, stays l1, l2⟩⟩, fun b o q => of_hidT q, Nat.le_of_eq (hidT_size _ _), trivial, fun b q => ?_, hok, .of_eq hgen⟩
    cases q
  refine codeAny_mono ((F _ kinT (stays hm) TB).go callerA [] s H ⟨[.ref a], []⟩ [.ref a] [.ref a] _ _ rfl hr e0 (bind s (.ref a)) (.cons rfl .nil) (prom H hT hS)) fun r s' h => ?_
  match r, h with
  | .error e, h => exact (none_out H e s' h).elim
  | .ok .next, h => exact h.elim
  | .ok .brk, h => exact h.elim
  | .ok .cont, h => exact h.elim
  | .ok (.ret u), ⟨v, H', os, bare, un, hok', rv, q⟩ =>
    have q' : v = .bl true := q
    subst q'
    have hu : u = Value.bool true := rv
    subst hu
    have rest : ∀ b o, b ≠ T → s.heap.get? b = some o → s'.heap.get? b = some o := fun b o nb z => by
      cases e : H b with
      | none => exact un.keep b o z e (by intro y; cases y) (by simp)
      | some t =>
        rcases scrT_get e with ⟨y, _⟩ | ⟨_, rfl, _, rfl⟩
        · exact absurd y nb
        · rw [ha] at z
          cases z
          exact (hok' b _ (un.frzs b _ _ e)).1
    obtain ⟨more, grown⟩ := un.tbls T #[] hT
    have hT2 : s'.heap.get? T = some { cls := .none, data := .fields (#[] ++ more) } := hok' T _ grown
    refine ⟨rfl, ⟨fun b o z => ?_, fun b o z => ?_⟩, os, bare⟩
    · by_cases nb : b = T
      · subst nb
        rw [tab] at z
        cases z
        exact .inr (.inl ⟨((PySem.W.codeHd_of_K kin hd).tab tab).isCodeTable, rfl, #[], more, rfl, hT2⟩)
      · exact .inl (rest b o nb z)
    · by_cases nb : b = T
      · subst nb
        exact ⟨_, hT2⟩
      · exact ⟨o, rest b o nb z⟩
theorem walk_goT {l : PySem.W.OpenLaw} {n k : Nat} {q : Program} {loose : List Str} {XP : (Str → Option Value) → Heap → Prop} {YP : World → Heap → Prop} {d : DefRec} {CX : World → CXT} {x : Str}
    (hn : l.most = some n) (hn2 : n ≤ sizeLine) (hdf : d.params.defaults = []) (hr : Room k callerA)
    (F : ∀ (w : World) (mg : Str → Option Value) (f : Addr) (h : Heap), YP w h → h.Ns mainGlobals mg → mg d.name = some (.ref f) → ∃ (K : PySem.W.Frag) (fd : FuncData) (sp : Sp) (c T : Addr), K.In h ∧ h.get? T = some none_ ∧ K.lookup T = none ∧ PySem.W.codeHdIn K c T = true ∧ (∀ (s : Shared) (u : Value), BindsTo s fd ⟨[u], []⟩ [(x, u)]) ∧
      (∀ (H : Hp) (a : Addr) (ns : List Int), ns.length ≤ n → H T = some (.tbl #[]) → SqL K H a (ns.map V.int) → sp [.ref a] H (fun v _ => v = .bl true) fun _ _ _ => False) ∧ ∀ base : Heap, K.In base → base.Ns mainGlobals mg → TabB base mg c T → FnG l.prog w K mg base (CX w) k f fd [x] sp)
    (none_out : ∀ (w : World) (H : Hp) (s : Shared) (e : Value) (s' : Shared), CX w [] H s (fun _ _ _ => False) e s' → False) : PySem.W.WalkO q loose XP YP l.row.toRowW d [] (fun f vs => PySem.call f vs) :=
  Att.attach_call hn hdf fun w _ s _ _ f _ _ _ _ a _ ns G Y _ _ _ hmg hobj hints hlen hgen =>
    let ⟨_, _, _, _, _, kin, tab, out, hd, bind, prom, ok⟩ := F w _ f _ Y G.T.g hmg
    law_goT kin G.T.g G.T.b G.T.builtins G.T.nolimit hgen tab out hd G.T.bmain hobj hints (Nat.le_trans hlen hn2) hr ok bind (fun H hT hS => prom H a ns hlen hT hS) fun H e s' => none_out w H s e s'
end Yt
namespace Xg
open PySem PySem.Spec PyProof.Rows L2 LamX Pen Dat Ki Fi Gr Wy Yd Yh
/-! ## What is refused: numbers of leaves, gates -/
abbrev sNumI : Stmt := inClass cBadN 0
abbrev sRowI : Stmt := inClass cBadR 0
abbrev niN : List Str := ["self", "what", "number"]
abbrev riN : List Str := ["self", "row"]
theorem scNumI : FnScope niN niN (defScope sNumI) := ⟨rfl, rfl, rfl, by decide +kernel, rfl, by decide +kernel, by decide +kernel⟩
theorem scRowI : FnScope riN riN (defScope sRowI) := ⟨rfl, rfl, rfl, by decide +kernel, rfl, by decide +kernel, by decide +kernel⟩
def spNumI (C : Addr) : Sp := fun vs H Q _ => ∃ (a : Addr) (m v : V), vs = [.ref a, m, v] ∧ H a = some (exo a C none) ∧
  ∀ d, H d = none → d ≠ a → Q .non (upd (upd (upd H d (exd d [("what", m)])) a (exo a C (some d))) d (exd d [("number", v), ("what", m)]))
def spRowI (C : Addr) : Sp := fun vs H Q _ => ∃ (a : Addr) (v : V), vs = [.ref a, v] ∧ H a = some (exo a C none) ∧ ∀ d, H d = none → d ≠ a → Q .non (upd (upd H d (exd d [("row", v)])) a (exo a C (some d)))
/-- the exception that tells a wrong number, a wrong row -/
def Num (CN : Addr) (E : XK) (H : Hp) (m : Str) (v : V) : Prop := ∀ d H', Same H H' → H' d = some (.xd [("number", v), ("what", .str m)]) → E (.ref CN) (some d) H'
def Row (CR : Addr) (E : XK) (H : Hp) (v : V) : Prop := ∀ d H', Same H H' → H' d = some (.xd [("row", v)]) → E (.ref CR) (some d) H'
theorem del_keep {H H2 : Hp} {a d : Addr} {u : HO} (na : H a = none) (nd : H d = none) (s : ∀ b o, H b = some o → b ≠ a → b ≠ d → H2 b = some o) : Same H (upd (del H2 a) d u) := fun b o e => by
  have ha : b ≠ a := ne_of_none e na
  have hd : b ≠ d := ne_of_none e nd
  rw [upd_ne hd, del_ne ha]
  exact s b o e ha hd
theorem mk_num {σ : L2.St} {H : Hp} {Q : XK} {CN : Addr} {m : Str} {v : V} {te : TE} (hv : ∀ R : VK, R v H → te σ H R) (q : Num CN Q H m v) : tMkO CN (spNumI CN) [] (tCons (tC (.str m)) (tCons te tNil)) σ H Q := by
  refine hv _ ⟨(by show 2 ≤ 1000; decide), fun a na => ⟨a, .str m, v, rfl, upd_same, fun d nd dne => ?_⟩⟩
  rw [upd_ne dne] at nd
  refine ⟨rfl, d, _, by rw [upd_ne (Ne.symm dne), upd_same], upd_same, nd, q d _ (del_keep na nd fun b o e ha hd => ?_) upd_same⟩
  rw [upd_ne hd, upd_ne ha, upd_ne hd, upd_ne ha]
  exact e
theorem mk_row {σ : L2.St} {H : Hp} {Q : XK} {CR : Addr} {v : V} {te : TE} (hv : ∀ R : VK, R v H → te σ H R) (q : Row CR Q H v) : tMkO CR (spRowI CR) [] (tCons te tNil) σ H Q := by
  refine hv _ ⟨(by show 1 ≤ 1000; decide), fun a na => ⟨a, v, rfl, upd_same, fun d nd dne => ?_⟩⟩
  rw [upd_ne dne] at nd
  refine ⟨rfl, d, _, upd_same, by rw [upd_ne dne, upd_same], nd, q d _ (del_keep na nd fun b o e ha hd => ?_) upd_same⟩
  rw [upd_ne ha, upd_ne hd, upd_ne ha]
  exact e
/-- what is asked of an exception class, and of its __init__ -/
structure Xi (K : PySem.W.Frag) (C f : Addr) : Prop where
  oe : OexC K C
  ini : PySem.W.findIn K (.ref C) "__init__" = some (some (.ref f))
  fn : PySem.W.typeIn K (.ref f) = some (.type "function")
structure Te (K : PySem.W.Frag) (mg : Str → Option Value) (CN CR fN fR : Addr) : Prop where
  why : Yh.Tw K mg CN CR
  n : Xi K CN fN
  r : Xi K CR fR
/-- two promises of one def -/
theorem fn_or {P : Program} {w : World} {K : PySem.W.Frag} {mg : Str → Option Value} {base : Heap} {CX : CXT} {k : Nat} {f : Addr} {fd : FuncData} {ps : List Str} {sp sp' : Sp} (a : FnOk P w K mg base CX k f fd ps sp) (b : FnOk P w K mg base CX k f fd ps sp') : FnOk P w K mg base CX k f fd ps fun vs H Q E => sp vs H Q E ∨ sp' vs H Q E :=
  ⟨fun vs H Q E h => h.elim (a.len vs H Q E) (b.len vs H Q E), fun A fs s H ag us vs Q E hr e bd r h => h.elim (a.run A fs s H ag us vs Q E hr e bd r) (b.run A fs s H ag us vs Q E hr e bd r)⟩
def spRowD (K : PySem.W.Frag) : Sp := fun vs H Q _ => ∃ (a : Addr) (kvs : List (Key × V)), vs = [.ref a] ∧ H a = some (.dK kvs) ∧ ∀ H', Same H H' → Q (.bl false) H'
def spGatesD (K : PySem.W.Frag) : Sp := fun vs H Q _ => ∃ (n : Int) (a : Addr) (kvs : List (Key × V)), vs = [.int n, .ref a] ∧ H a = some (.dK kvs) ∧ ∀ H', Same H H' → Q (.bl false) H'
def spNeed2 (K : PySem.W.Frag) (CN : Addr) : Sp := fun vs H Q E => ∃ (v : V) (d : PyData), vs = [v] ∧ Dp K H v d ∧ ((fromD d 0 = true ∧ Q .non H) ∨ (fromD d 0 = false ∧ Num CN E H "leaves" v))
/-- Graph(leaves, gates), refused -/
def spGIX (K : PySem.W.Frag) (C CN CR : Addr) : Sp := fun vs H Q E => ∃ (p dx : Addr) (v u : V), vs = [.ref p, v, u] ∧ H p = some (.ins C dx []) ∧
  ((∃ d, Dp K H v d ∧ fromD d 0 = false ∧ Num CN E H "leaves" v) ∨ ∃ n, v = .int n ∧ 0 ≤ n ∧ Row CR E H u ∧
    ((∃ d, Dp K H u d ∧ (rowsD d).length ≤ 1000 ∧ (∀ e ∈ rowsD d, (rowsD e).length ≤ 1000) ∧ gatesB n d = false) ∨ ∃ a kvs, u = .ref a ∧ H a = some (.dK kvs)))
theorem kit_dict {K : PySem.W.Frag} : PySem.W.kitAny K (.type "dict") [.type "tuple", .type "list"] = some false :=
  kitAny_cons (b := false) (kit_ty (a := "dict") (b := "tuple") (r := false) (by decide +kernel)) (fun _ => kitAny_cons (b := false) (kit_ty (a := "dict") (b := "list") (r := false) (by decide +kernel)) (fun _ => rfl) (fun z => by cases z)) (fun z => by cases z)
section
variable {P : Program} {w : World} {K : PySem.W.Frag} {mg : Str → Option Value} {base : Heap} {f C CN CR fN fR : Addr} {fd : FuncData}
theorem ok_numi (F : FunD K "__init__" "BadNumber.__init__" (defArgs sNumI) (defBody sNumI) (defScope sNumI) [] [] f fd) (T : Te K mg CN CR fN fR) : FnOk P w K mg base CX0 1 f fd niN (spNumI CN) := by
  refine F.ok scNumI (fun vs H Q E h => ?_) (fun cdv A outer s H vs Q E hr h => ?_)
  · obtain ⟨a, m, v, rfl, _⟩ := h
    rfl
  · obtain ⟨a, m, v, rfl, ha, q⟩ := h
    refine ⟨_, PSs.nox (pss_cons (ps_ost (pv 0) (pv 1)) (pss_one (ps_ost (pv 0) (pv 2)))), ?_⟩
    refine ⟨_, rfl, _, rfl, a, CN, rfl, T.n.oe, T.why.nw, .inl ⟨ha, fun d hd dne => ?_⟩⟩
    exact ⟨_, rfl, _, rfl, a, CN, rfl, T.n.oe, T.why.nb, .inr ⟨d, _, upd_same, (by rw [upd_ne dne, upd_same]), (by show 1 ≤ 900; decide), q d hd dne⟩⟩
theorem ok_rowi (F : FunD K "__init__" "BadRow.__init__" (defArgs sRowI) (defBody sRowI) (defScope sRowI) [] [] f fd) (T : Te K mg CN CR fN fR) : FnOk P w K mg base CX0 1 f fd riN (spRowI CR) := by
  refine F.ok scRowI (fun vs H Q E h => ?_) (fun cdv A outer s H vs Q E hr h => ?_)
  · obtain ⟨a, v, rfl, _⟩ := h
    rfl
  · obtain ⟨a, v, rfl, ha, q⟩ := h
    refine ⟨_, PSs.nox (pss_one (ps_ost (pv 0) (pv 1))), ?_⟩
    exact ⟨_, rfl, _, rfl, a, CR, rfl, T.r.oe, T.why.nr, .inl ⟨ha, fun d hd dne => q d hd dne⟩⟩
theorem ok_rowD (F : FnP K "is_row" sRow f fd) (T : Ki.Tx mg) : FnOk P w K mg base CX0 1 f fd ["value"] (spRowD K) := by
  refine F.ok scRow (fun vs H Q E h => ?_) (fun cdv A outer s H vs Q E hr h => ?_)
  · obtain ⟨a, kvs, rfl, _⟩ := h
    rfl
  · obtain ⟨a, kvs, rfl, hd, q⟩ := h
    refine ⟨_, PSs.nox (pss_one (ps_ret (pe_callB call_isiT (by rfl) T.isi (by decide +kernel) (pa_cons (pv 0) (pa_cons (pe_tup (pa_cons (pe_bltn (v := .ty "tuple") (by rfl) T.tuple (by decide +kernel) rfl) (pa_cons (pe_bltn (v := .ty "list") (by rfl) T.list (by decide +kernel) rfl) pa_nil))) pa_nil))))), ?_⟩
    refine ⟨_, rfl, (by show 2 ≤ sizeLine; decide), fun p np => ?_⟩
    exact ⟨_, _, _, _, _, _, rfl, upd_same, .cons (.ty _) (.cons (.ty _) .nil), .base (.dK (same_new np _ _ hd)), kit_dict, q _ (same_new np)⟩
theorem ok_gatesD {fR' : Addr} {fdR : FuncData} (F : FnP K "are_gates" sGates f fd) (GR : FnOk P w K mg base CX0 1 fR' fdR ["value"] (spRowD K)) (gR : mg "is_row" = some (.ref fR')) (kR : PySem.W.keepIn K (.ref fR') = true) (bR : Binds K fdR ["value"] []) : FnOk P w K mg base CX0 3 f fd ["leaves", "value"] (spGatesD K) := by
  refine F.ok scGates (fun vs H Q E h => ?_) (fun cdv A outer s H vs Q E hr h => ?_)
  · obtain ⟨n, a, kvs, rfl, _⟩ := h
    rfl
  · obtain ⟨n, a, kvs, rfl, hd, q⟩ := h
    refine ⟨_, PSs.nox (pss_cons (ps_if (pt_not (pt_val (pe_call GR (hr.mono (by decide)) (by rfl) gR kR bR .nil pass0 (pa_cons (pv 1) pa_nil)))) (pss_one (ps_ret pe_bl)) pss_nil) (pss_cons ps_never (pss_cons ps_never (pss_one ps_never)))), ?_⟩
    exact ⟨_, rfl, a, kvs, rfl, hd, fun H1 s1 => ⟨_, rfl, iteT (q _ s1)⟩⟩
theorem ok_need2 {fF : Addr} {fdF fd1 : FuncData} (F : FnP K "need_leaves" sNeed f fd) (T : Te K mg CN CR fN fR) (GF : FnOk P w K mg base CX0 1 fF fdF ["value", "least"] (spFrom K)) (gF : mg "is_from" = some (.ref fF)) (kF : PySem.W.keepIn K (.ref fF) = true) (bF : Binds K fdF ["value", "least"] [])
    (GN : FnOk P w K mg base CX0 1 fN fd1 niN (spNumI CN)) (bN : Binds K fd1 niN []) : FnOk P w K mg base (L2.CX P w) 3 f fd ["leaves"] (spNeed2 K CN) := by
  refine F.ok scNeed (fun vs H Q E h => ?_) (fun cdv A outer s H vs Q E hr h => ?_)
  · obtain ⟨v, d, rfl, _⟩ := h
    rfl
  · obtain ⟨v, d, rfl, hd, h⟩ := h
    have tk : Takes (cxOf (L2.CX P w) P w K mg base ["leaves"] "need_leaves" (defScope sNeed) f cdv A outer s H E) (fun cls d _ H => E cls d H) := takes_of rfl rfl rfl rfl
    refine ⟨_, pss_one (ps_if (pt_not (pt_val (pe_call GF (hr.mono (by decide)) (by rfl) gF kF bF .nil pass0 (pa_cons (pv 0) (pa_cons pe_int pa_nil))))) (pss_one (ps_raise rfl tk (pmk_oex T.n.oe T.n.ini T.n.fn GN hr bN .nil pass0 (by rfl) T.why.mN (pa_cons pe_str (pa_cons (pv 0) pa_nil))))) pss_nil), ?_⟩
    refine ⟨_, rfl, _, _, d, rfl, hd, _, rfl, ?_⟩
    rcases h with ⟨e, q⟩ | ⟨e, num⟩
    · rw [e]
      exact iteF q
    · rw [e]
      exact iteT (mk_num (te := tVar 0) (fun R r => ⟨_, rfl, r⟩) num)
theorem ok_gix {fL fA : Addr} {fdL fdA fd2 : FuncData} (F : FnI K f fd) (T : Te K mg CN CR fN fR) (GL : FnOk P w K mg base (L2.CX P w) 3 fL fdL ["leaves"] (spNeed2 K CN)) (gL : mg "need_leaves" = some (.ref fL)) (kL : PySem.W.keepIn K (.ref fL) = true) (bL : Binds K fdL ["leaves"] [])
    (GA : FnOk P w K mg base CX0 3 fA fdA ["leaves", "value"] fun vs H Q E => spGates K vs H Q E ∨ spGatesD K vs H Q E) (gA : mg "are_gates" = some (.ref fA)) (kA : PySem.W.keepIn K (.ref fA) = true) (bA : Binds K fdA ["leaves", "value"] [])
    (GX : FnOk P w K mg base CX0 1 fR fd2 riN (spRowI CR)) (bX : Binds K fd2 riN []) : FnOk P w K mg base (L2.CX P w) 4 f fd ["self", "leaves", "gates"] (spGIX K C CN CR) := by
  refine F.ok scInit (fun vs H Q E h => ?_) (fun cdv A outer s H vs Q E hr h => ?_)
  · obtain ⟨p, dx, v, u, rfl, _⟩ := h
    rfl
  · obtain ⟨p, dx, v, u, rfl, hp, h⟩ := h
    have tk : Takes (cxOf (L2.CX P w) P w K mg base inN "Graph.__init__" (defScope sInit) f cdv A outer s H E) (fun cls d _ H => E cls d H) := takes_of rfl rfl rfl rfl
    refine ⟨_, pss_cons (ps_expr (pe_call GL hr (by rfl) gL kL bL .nil (passes_call tk fun _ _ _ _ h => h) (pa_cons (pv 1) pa_nil)))
      (pss_cons (ps_if (pt_not (pt_val (pe_call GA hr (by rfl) gA kA bA .nil pass0 (pa_cons (pv 1) (pa_cons (pv 2) pa_nil))))) (pss_one (ps_raise rfl tk (pmk_oex T.r.oe T.r.ini T.r.fn GX (hr.mono (by decide)) bX .nil pass0 (by rfl) T.why.mR (pa_cons (pv 2) pa_nil)))) pss_nil)
      (pss_cons ps_never (pss_one ps_never))), ?_⟩
    rcases h with ⟨d, hd, e, num⟩ | ⟨n, rfl, n0, row, h⟩
    · exact ⟨_, rfl, v, d, rfl, hd, .inr ⟨e, num⟩⟩
    · refine ⟨_, rfl, .int n, .int n, rfl, .int n, .inl ⟨decide_eq_true n0, ?_⟩⟩
      have rowS : ∀ {H1 : Hp}, Same H H1 → Row CR E H1 u := fun s d H' s2 e => row d H' (s.trans s2) e
      rcases h with ⟨d, hd, z1, z2, e⟩ | ⟨a, kvs, rfl, ha⟩
      · refine ⟨_, rfl, _, rfl, .inl ⟨n, u, d, rfl, hd, z1, z2, fun H1 s1 => ⟨_, rfl, ?_⟩⟩⟩
        rw [e]
        exact iteT (mk_row (te := tVar 2) (fun R r => ⟨_, rfl, r⟩) (rowS s1))
      · exact ⟨_, rfl, _, rfl, .inr ⟨n, a, kvs, rfl, ha, fun H1 s1 => ⟨_, rfl, iteT (mk_row (te := tVar 2) (fun R r => ⟨_, rfl, r⟩) (rowS s1))⟩⟩⟩
end
end Xg
namespace Exo
open PySem PySem.Spec PyProof.Rows L2
/-! ## Own exceptions as values: made by a call, with or without an own __init__, their fields, isinstance -/
/-- the class at C: an own exception class over ValueError -/
def oexB (K : PySem.W.Frag) (C : Addr) : Bool := match K.lookup C with
  | some ⟨.type "type", _, .cls cd, sl⟩ =>
    (match cd.mro, sl.toList with
    | .ref D :: bm, [_, _, _, _, some (.builtin n), _] => (decide (D = C) && decide (n = "ValueError.__new__")) && ((!cd.hasDel && cd.hasDict) && PySem.HandSPX.refsVE bm)
    | _, _ => false)
  | _ => false
theorem and2 {a b : Bool} (h : (a && b) = true) : a = true ∧ b = true := Bool.and_eq_true_iff.mp h
theorem oexB_ok {K : PySem.W.Frag} {C : Addr} (h : oexB K C = true) :
    ∃ nm q N bs bm sn sub ab col dd k0 k1 k2 k3 k5, K.lookup C = some (excClassObj nm q C N bs bm true sn sub ab col dd k0 k1 k2 k3 k5 "ValueError.__new__") ∧ PySem.HandSPX.refsVE bm = true := by
  unfold oexB at h
  split at h
  · rename_i dd cd sl ho
    split at h
    · rename_i D bm k0 k1 k2 k3 n k5 hm hs
      obtain ⟨h1, h2⟩ := and2 h
      obtain ⟨e1, e2⟩ := and2 h1
      obtain ⟨h3, h4⟩ := and2 h2
      obtain ⟨e3, e4⟩ := and2 h3
      have e1 := of_decide_eq_true e1
      have e2 := of_decide_eq_true e2
      subst e1 e2
      obtain ⟨nm, bs, mro, ns, qn, hd, sn, sub, ab, col, del⟩ := cd
      dsimp only at hm e3 e4
      have e3 : del = false := by
        cases del with
        | false => rfl
        | true => cases e3
      subst hm e3 e4
      have hsl : sl = #[k0, k1, k2, k3, some (.builtin "ValueError.__new__"), k5] := by
        obtain ⟨l⟩ := sl
        have hs : l = _ := hs
        rw [hs]
      subst hsl
      exact ⟨nm, qn, ns, bs, bm, sn, sub, ab, col, dd, k0, k1, k2, k3, k5, ho, h4⟩
    · cases h
  · cases h
/-- all that is asked of such a class, decided -/
def okB (K : PySem.W.Frag) (C : Addr) : Bool :=
  (oexB K C && decide (PySem.W.findIn K (.ref C) "__setattr__" = some (some (.builtin "object.__setattr__")))) &&
  ((decide (PySem.W.subIn K (.ref C) (.type "BaseException") = some true) && decide (PySem.W.typeIn K (.ref C) = some (.type "type"))) &&
  ((PySem.W.keepIn K (.ref C) && decide (PySem.W.findIn K (.ref C) "__getattribute__" = some (some (.builtin "BaseException.__getattribute__")))) &&
  ((decide (PySem.W.findIn K (.ref C) "__getattr__" = some none) && PySem.W.hasDictIn K C) &&
  ((decide (PySem.W.findIn K (.ref C) "__class__" = some (some (.builtin "object.__class__"))) && decide (PySem.W.specialIn K (.builtin "object.__class__") "__get__" = some (some (.builtin "getset_descriptor.__get__")))) &&
  (decide (PySem.W.takesIn K (.builtin "object.__class__") = some true) && decide (PySem.W.mroIn K C (.type "object") = some true))))))
structure Cl (K : PySem.W.Frag) (C : Addr) : Prop where
  oe : OexC K C
  ex : ExcC K C
theorem okB_ok {K : PySem.W.Frag} {C : Addr} (h : okB K C = true) : Cl K C := by
  obtain ⟨h1, h⟩ := and2 h
  obtain ⟨a1, a2⟩ := and2 h1
  obtain ⟨h2, h⟩ := and2 h
  obtain ⟨a3, a4⟩ := and2 h2
  obtain ⟨h3, h⟩ := and2 h
  obtain ⟨a5, a6⟩ := and2 h3
  obtain ⟨h4, h⟩ := and2 h
  obtain ⟨a7, a8⟩ := and2 h4
  obtain ⟨h5, h6⟩ := and2 h
  obtain ⟨a9, b1⟩ := and2 h5
  obtain ⟨b2, b3⟩ := and2 h6
  exact ⟨⟨oexB_ok a1, of_decide_eq_true a2, of_decide_eq_true a3, of_decide_eq_true a4, a5⟩,
    ⟨of_decide_eq_true a6, of_decide_eq_true a7, of_decide_eq_true a3, a8, of_decide_eq_true a9, of_decide_eq_true b1, of_decide_eq_true b2, of_decide_eq_true b3⟩⟩
end Exo
namespace Us
open PySem PySem.Spec PyProof.Rows L2
def rListOf (K : PySem.W.Frag) : List V → Hp → VK → Prop := fun xs H Q => ∃ p ys, xs = [V.ref p] ∧ (SqL K H p ys ∨ SqT K H p ys) ∧ ∀ l, H l = none → Q (.ref l) (upd H l (.lst ys))
/-- the block of a comprehension within a comprehension -/
theorem blkOk_in {N : List Str} {sc scopeO scope2 : Scope} {own : List (Str × Nat)} {cl : List (Str × Addr)} {C : Addr} {env : Env} (h : blkC N (relS scopeO sc) scope2 own = true) (e : env.scope = sc) : BlkOk N (compEnvC scopeO cl C env).scope scope2 own := by
  subst e
  exact blkOk_by h
section
variable {X : Cx} {K : PySem.W.Frag} {pos : Pos}
theorem pi_listK {tg l : Expr} {tl : TE} (hK : X.K = K) (hl : PE X l tl) : PI X tg l (iList K tl) := hK ▸ pi_list hl
theorem pi_tupK {tg l : Expr} {tl : TE} (hK : X.K = K) (hl : PE X l tl) : PI X tg l (iTup K tl) := hK ▸ pi_tup hl
theorem pg_tupK {es : List Expr} {k : Nat} {t : TGs} {n : Nat} (hK : X.K = K) (hc : X.calm = true) (h : PGs X es t)
    (hn : (assignEach es X.env).length = n := by rfl) (hst : (assignEach es X.env).findIdx? (·.1) = none := by rfl) : PG X (.Tuple es k pos) (gTup K n t) := hK ▸ pg_tup hc h hn hst
theorem pg_unlK {es : List Expr} {k : Nat} {t : TGs} {n : Nat} (hK : X.K = K) (hc : X.calm = true) (h : PGs X es t)
    (hn : (assignEach es X.env).length = n := by rfl) (hst : (assignEach es X.env).findIdx? (·.1) = none := by rfl) : PG X (.Tuple es k pos) (gUnl K n t) := hK ▸ pg_unl hc h hn hst
theorem pe_fldK {e : Expr} {f : Str} {ta : TE} (hK : X.K = K) (he : PE X e ta) (hb : attributeBase e f X.env (eval e X.env) = eval e X.env) : PE X (.Attribute e f pos) (tFld K ta f) := hK ▸ pe_fld he hb
end
end Us
namespace Zp
open PySem PySem.Spec PyProof.Rows L2
/-! ## zip of two rows, each a list or a tuple -/
/-- a row at a: a list if t, else a tuple -/
def SqB (K : PySem.W.Frag) (t : Bool) (H : Hp) (a : Addr) (xs : List V) : Prop := match t with
  | true => SqL K H a xs
  | false => SqT K H a xs
def IsB (t : Bool) (h : Heap) (a : Addr) (us : Array Value) : Prop := match t with
  | true => h.IsList a us
  | false => h.IsTuple a us
def ItB (t : Bool) (h : Heap) (j a : Addr) (i : Nat) : Prop := match t with
  | true => h.IsListIter j a i
  | false => h.IsTupleIter j a i
def obB (t : Bool) (a : Addr) : Obj := match t with
  | true => { cls := .type "list_iterator", data := .fields #[.ref a, .int 0 0] }
  | false => { cls := .type "tuple_iterator", data := .fields #[.ref a, .int 0 0] }
theorem drawsB {prog : Program} {w : World} {A : Around} (hh : A.handled = none) (t : Bool) (j a : Addr) (ne : a ≠ j) (us : Array Value) :
    Draws prog w A j [j, a] us.size (fun i v => us[i]? = some v) (fun i h => ItB t h j a i ∧ IsB t h a us) := by
  cases t with
  | true => exact Draws.list hh j a ne us
  | false => exact Draws.tuple hh j a ne us
theorem beginsB (t : Bool) (a : Addr) (us : Array Value) : Begins (.ref a) (obB t a) fun h => IsB t h a us := by
  cases t with
  | true => exact begins_list a us
  | false => exact begins_tuple a us
theorem ItB.obj {t : Bool} {h : Heap} {j a : Addr} {i : Nat} (x : ItB t h j a i) : ∃ o, h.get? j = some o ∧ ∀ v, o.data ≠ .cell v := by
  cases t with
  | true =>
    obtain ⟨o, ho, _, hd⟩ := x
    exact ⟨o, ho, fun v q => by rw [hd] at q; cases q⟩
  | false =>
    obtain ⟨o, ho, _, hd⟩ := x
    exact ⟨o, ho, fun v q => by rw [hd] at q; cases q⟩
theorem ItB.to {t : Bool} {h h' : Heap} {j a : Addr} {i : Nat} (x : ItB t h j a i) (k : ∀ o, h.get? j = some o → h'.get? j = some o) : ItB t h' j a i := by
  cases t with
  | true => exact Heap.IsListIter.at x k
  | false => exact Heap.IsTupleIter.at x k
theorem ItB.new {t : Bool} {h : Heap} {j a : Addr} (x : h.get? j = some (obB t a)) : ItB t h j a 0 := by
  cases t with
  | true => exact ⟨_, x, rfl, rfl⟩
  | false => exact ⟨_, x, rfl, rfl⟩
theorem IsB.lt {t : Bool} {h : Heap} {a : Addr} {us : Array Value} (x : IsB t h a us) : a < h.objs.size := by
  cases t with
  | true =>
    obtain ⟨o, ho, _⟩ := x
    exact Heap.lt_size ho
  | false =>
    obtain ⟨o, ho, _⟩ := x
    exact Heap.lt_size ho
section
variable {X : Cx} {pins : List (Addr × Obj)} {σ : L2.St} {H : Hp} {s : Shared} {a : Addr} {t : Bool} {xs ys : List V}
theorem sqB_get (I : Inv X pins σ H s) (h : SqB X.K t H a xs) : ∃ its : List Value, Vals xs its ∧ IsB t s.heap a its.toArray := by
  cases t with
  | true =>
    obtain ⟨its, r, p, _⟩ := I.list h
    exact ⟨its, r, p.isList⟩
  | false =>
    obtain ⟨its, r, p, _⟩ := I.tuple h
    exact ⟨its, r, p⟩
theorem sqB_inj (I : Inv X pins σ H s) (h : SqB X.K t H a xs) (k : SqB X.K t H a ys) : xs = ys := by
  cases t with
  | true => exact I.list_inj h k
  | false => exact I.tuple_inj h k
end
/-- the rows at a and b as they stand at each turn, their items in new pairs -/
def Izb (K : PySem.W.Frag) (t u : Bool) (a b : Addr) : It :=
  ⟨fun i H => ∃ (xs ys : List V) (x y : V), SqB K t H a xs ∧ SqB K u H b ys ∧ xs[i]? = some x ∧ ys[i]? = some y,
   fun i H v H' => ∃ q x y, v = .ref q ∧ H q = none ∧ H' = upd H q (.tup [x, y]) ∧ (∀ xs, SqB K t H a xs → xs[i]? = some x) ∧ ∀ ys, SqB K u H b ys → ys[i]? = some y,
   fun i H => ∃ xs ys : List V, SqB K t H a xs ∧ SqB K u H b ys ∧ i ≤ xs.length ∧ i ≤ ys.length ∧ (i = xs.length ∨ i = ys.length)⟩
abbrev five (N : Nat) : List Addr := [N + 4, N + 2, N + 3, N, N + 1]
theorem five_mem {N : Nat} {c : Addr} (h : c ∈ five N) : c = (N + 4 : Nat) ∨ c = (N + 2 : Nat) ∨ c = (N + 3 : Nat) ∨ c = (N : Nat) ∨ c = (N + 1 : Nat) := by simpa [five] using h
theorem no_five {N : Nat} {c : Addr} (h : c ∉ five N) : c ≠ (N + 4 : Nat) ∧ c ≠ (N + 3 : Nat) ∧ c ≠ (N : Nat) ∧ c ≠ (N + 1 : Nat) :=
  ⟨fun e => h (by rw [e]; simp [five]), fun e => h (by rw [e]; simp [five]), fun e => h (by rw [e]; simp [five]), fun e => h (by rw [e]; simp [five])⟩
abbrev stB (N : Nat) (t u : Bool) (a b : Addr) (i : Nat) (h : Heap) : Prop :=
  IsZip h (N + 4 : Nat) (N + 2 : Nat) (N + 3 : Nat) .none ∧ IsTupOf2 h (N + 2 : Nat) (.ref (N : Nat)) (.ref (N + 1 : Nat)) ∧ (∃ x y, IsTupOf2 h (N + 3 : Nat) x y) ∧ ItB t h (N : Nat) a i ∧ ItB u h (N + 1 : Nat) b i
theorem lt_sep {N : Nat} {a b : Addr} (ha : a < (N : Nat)) (hb : b < (N : Nat)) : ZipSep2 (N + 4 : Nat) (N + 2 : Nat) (N + 3 : Nat) (N : Nat) (N + 1 : Nat) [(N : Nat), a] [(N + 1 : Nat), b] :=
  zip_sep2 (fp1 := [a]) (fp2 := [b]) (fun c h => by rw [List.mem_singleton.mp h]; exact ha) (fun c h => by rw [List.mem_singleton.mp h]; exact hb)
theorem lt_more {N : Nat} {a : Addr} (h : a < (N : Nat)) : a < (N + 1 : Nat) := Nat.lt_succ_of_lt h
theorem turnB {P : Program} {w : World} {K : PySem.W.Frag} {es : List Expr} {k : Nat} {pos : Pos} {N : Nat} {t u : Bool} {a b : Addr} (ha : a < (N : Nat)) (hb : b < (N : Nat)) :
    Turn P w K (.Tuple es k pos) (Izb K t u a b) (five N) (N + 4 : Nat) (stB N t u a b) where
  mem := List.mem_cons_self
  obj := fun i h st c hc => by
    obtain ⟨h1, h2, ⟨x, y, h3⟩, h4, h5⟩ := st
    rcases five_mem hc with rfl | rfl | rfl | rfl | rfl
    · exact ⟨_, h1, fun v q => nomatch q⟩
    · exact ⟨_, h2, fun v q => nomatch q⟩
    · exact ⟨_, h3, fun v q => nomatch q⟩
    · exact h4.obj
    · exact h5.obj
  keep := fun i h h' st kp => by
    obtain ⟨h1, h2, ⟨x, y, h3⟩, h4, h5⟩ := st
    exact ⟨kp _ (by simp [five]) _ h1, kp _ (by simp [five]) _ h2, ⟨x, y, kp _ (by simp [five]) _ h3⟩, h4.to fun o q => kp _ (by simp [five]) o q, h5.to fun o q => kp _ (by simp [five]) o q⟩
  item := by
    rintro X rfl rfl rfl calm i pins s σ H E I fp ⟨h1, h2, ⟨z1, z2, h3⟩, h4, h5⟩ ⟨xs, ys, x, y, qx, qy, ex, ey⟩
    obtain ⟨is1, r1, p1⟩ := sqB_get I qx
    obtain ⟨is2, r2, p2⟩ := sqB_get I qy
    obtain ⟨u1, e1, rx⟩ := r1.get ex
    obtain ⟨u2, e2, ry⟩ := r2.get ey
    have l1 : i < is1.toArray.size := by
      have z := (List.getElem?_eq_some_iff.mp e1).1
      simpa using z
    have l2 : i < is2.toArray.size := by
      have z := (List.getElem?_eq_some_iff.mp e2).1
      simpa using z
    have S := lt_sep ha hb
    have D1 := drawsB (prog := X.prog) (w := X.w) (A := X.A.in1) (I.ok.hd calm) t (N : Nat) a (Nat.ne_of_lt ha) is1.toArray
    have D2 := drawsB (prog := X.prog) (w := X.w) (A := X.A.in1) (I.ok.hd calm) u (N + 1 : Nat) b (Nat.ne_of_lt (lt_more hb)) is2.toArray
    have lz := Heap.lt_size h1
    refine wpAny_pyNext_zipD2_item S D1 D2 h1 h2 h3 ⟨h4, p1⟩ ⟨h5, p2⟩ l1 l2 fun v1 v2 h' tk g1 g2 b1 b2 d1 d2 new _ same => ?_
    have ev1 : v1 = u1 := by
      have z : is1[i]? = some v1 := by simpa using g1
      rw [e1] at z
      exact (Option.some.inj z).symm
    have ev2 : v2 = u2 := by
      have z : is2[i]? = some v2 := by simpa using g2
      rw [e2] at z
      exact (Option.some.inj z).symm
    subst ev1 ev2
    refine ⟨_, rfl, wpAny_letOwnedTupleGo_zip (s := { s with heap := h', toks := tk }) b1 fun h'' hz2 sb => ?_⟩
    have made : h''.get? s.heap.objs.size = some { cls := .type "tuple", data := .seq #[v1, v2] } := (sb.2 _ (Nat.ne_of_gt lz)).trans new
    have ob : ObjOk X.prog X.w (upd H s.heap.objs.size (.tup [x, y])) h'' s.heap.objs.size (.tup [x, y]) := ⟨by show 2 ≤ sizeLine; decide, [v1, v2], .cons rx (.cons ry .nil), ⟨_, made, rfl, _, rfl⟩⟩
    have J := I.turnedNew (t' := tk) (ch := five N) (fun c o hc q => by
      obtain ⟨n1, n2, n3, n4⟩ := no_five hc
      exact (sb.2 c n1).trans (same c o n1 n2 n3 n4 q)) fp (Nat.le_refl _) ob
    refine ⟨.ref s.heap.objs.size, _, J, rfl, ⟨_, x, y, rfl, I.hok.fresh (Nat.le_refl _), rfl, fun l hl => by rw [sqB_inj I hl qx]; exact ex, fun l hl => by rw [sqB_inj I hl qy]; exact ey⟩, ⟨hz2, ?_, ⟨v1, v2, ?_⟩, ?_, ?_⟩, fun c hc => ?_⟩
    · exact (sb.2 _ S.TIz).trans (same _ _ S.TIz S.TITO S.TIi1 S.TIi2 h2)
    · exact (sb.2 _ S.TOz).trans b2
    · exact d1.1.to fun o q => (sb.2 _ S.zi1.symm).trans q
    · exact d2.1.to fun o q => (sb.2 _ S.zi2.symm).trans q
    · have hlt : c < s.heap.objs.size := by
        rcases five_mem hc with rfl | rfl | rfl | rfl | rfl
        · exact lz
        · exact Heap.lt_size h2
        · exact Heap.lt_size h3
        · obtain ⟨o, q, _⟩ := h4.obj
          exact Heap.lt_size q
        · obtain ⟨o, q, _⟩ := h5.obj
          exact Heap.lt_size q
      rw [upd_ne (Nat.ne_of_lt hlt)]
      exact (fp c hc).1
  done := by
    rintro X rfl rfl rfl calm i pins s σ H E I fp ⟨h1, h2, ⟨z1, z2, h3⟩, h4, h5⟩ ⟨xs, ys, qx, qy, lx, ly, le⟩
    obtain ⟨is1, r1, p1⟩ := sqB_get I qx
    obtain ⟨is2, r2, p2⟩ := sqB_get I qy
    have n1 := r1.length
    have n2 := r2.length
    have s1 : is1.toArray.size = is1.length := List.size_toArray
    have s2 : is2.toArray.size = is2.length := List.size_toArray
    have D1 := drawsB (prog := X.prog) (w := X.w) (A := X.A.in1) (I.ok.hd calm) t (N : Nat) a (Nat.ne_of_lt ha) is1.toArray
    have D2 := drawsB (prog := X.prog) (w := X.w) (A := X.A.in1) (I.ok.hd calm) u (N + 1 : Nat) b (Nat.ne_of_lt (lt_more hb)) is2.toArray
    refine wpAny_pyNext_zipD2_end (lt_sep ha hb) D1 D2 h1 h2 h3 ⟨h4, p1⟩ ⟨h5, p2⟩ (by omega) (by omega) (by omega) fun h' tk same => ⟨rfl, I.turnedL (t' := tk) (ch := five N) (fun c o hc q => by
      obtain ⟨n1, n2, n3, n4⟩ := no_five hc
      exact same c o n1 n2 n3 n4 q) fp⟩
  self := fun A i s Q E st q => wpAny_pyIter_zip st.1 q
/-- for x, y in zip(a, b) -/
def iZipB (K : PySem.W.Frag) (ta : TA) : TI := fun σ H R => ta σ H fun vs H1 => ∃ t u a b xs ys, vs = [.ref a, .ref b] ∧ SqB K t H1 a xs ∧ SqB K u H1 b ys ∧ R (Izb K t u a b) H1
theorem pi_zipB {X : Cx} {e e2 : Expr} {ta : TA} {p pos tpos : Pos} {es : List Expr} {k : Nat} (hg : Gl X "zip") (hm : X.mg "zip" = none) (ha : PA X [e, e2] ta)
    (hs : starEach [e, e2] X.env = (false, eval e X.env) :: starEach [e2] X.env := by rfl) (hb : (backTo pos (starEach [e2] X.env)).any (·.1) = false := by rfl) :
    PI X (.Tuple es k tpos) (.Call (.Name "zip" p) [e, e2] [] pos) (iZipB X.K ta) := by
  refine ⟨fun pins s σ H R I h => Call_ (ld_blt I hg hm PyProof.Rows.boot_zip (PyProof.Rows.callWith_type1 (thn (ha.run pos pins s σ H _ I h) fun us s1 z => ?_) hs hb))⟩
  obtain ⟨vs, H1, I1, r, t, u, a, b, xs, ys, rfl, qx, qy, q⟩ := z
  cases r with
  | cons ra rr =>
    cases rr with
    | cons rb rr =>
      cases rr
      cases ra
      cases rb
      obtain ⟨is1, _, p1⟩ := sqB_get I1 qx
      obtain ⟨is2, _, p2⟩ := sqB_get I1 qy
      refine zip_begins2 (beginsB t a is1.toArray) (beginsB u b is2.toArray) p1 p2 fun h' hz hT hO g1 g2 _ same => wpAny_pyIter_zip hz ?_
      have I2 := I1.kept (t' := s1.toks) same
      refine ⟨s1.heap.objs.size + 4, five s1.heap.objs.size, _, _, H1, rfl, I2, turnB p1.lt p2.lt, ⟨hz, hT, ⟨_, _, hO⟩, ItB.new g1, ItB.new g2⟩, fun c hc => ?_, q⟩
      have low : s1.heap.objs.size ≤ c := by
        rcases five_mem hc with rfl | rfl | rfl | rfl | rfl
        · exact Nat.le_add_right _ _
        · exact Nat.le_add_right _ _
        · exact Nat.le_add_right _ _
        · exact Nat.le_refl _
        · exact Nat.le_add_right _ _
      exact I1.fpOk low (I1.hok.fresh low)
section
variable {K : PySem.W.Frag} {t u : Bool} {a b : Addr} {xs ys : List V}
theorem for_zipB {g : TG} {tb : TS} {D : Ends} {σ : L2.St} {H : Hp} (hl : xs.length = ys.length) (Pv : Nat → L2.St → Hp → Prop) (h0 : Pv 0 σ H) (hq : ∀ i σ H, Pv i σ H → SqB K t H a xs ∧ SqB K u H b ys)
    (hs : ∀ (i : Nat) (x y : V) (q : Addr) (σ : L2.St) (H : Hp), xs[i]? = some x → ys[i]? = some y → Pv i σ H → H q = none → g (.ref q) σ (upd H q (.tup [x, y])) fun σ2 H2 => tb { D with nx := Pv (i + 1), ct := Pv (i + 1), bk := D.nx } σ2 H2)
    (hd : ∀ σ H, Pv xs.length σ H → D.nx σ H) :
    ∃ W : Nat → Nat → L2.St → Hp → Prop, (∃ m, W 0 m σ H) ∧ ∀ i m σ H, W i m σ H →
      ((Izb K t u a b).stop i H ∧ D.nx σ H) ∨ ((Izb K t u a b).go i H ∧ ∃ N : L2.St → Hp → Prop, (∀ σ' H', N σ' H' → ∃ m', m' < m ∧ W (i + 1) m' σ' H') ∧ ∀ v H', (Izb K t u a b).yld i H v H' → g v σ H' fun σ2 H2 => tb { D with nx := N, ct := N, bk := D.nx } σ2 H2) := by
  refine ⟨fun i m σ H => m = xs.length - i ∧ i ≤ xs.length ∧ Pv i σ H, ⟨_, rfl, Nat.zero_le _, h0⟩, ?_⟩
  rintro i m σ H ⟨rfl, hi, pv⟩
  obtain ⟨qx, qy⟩ := hq i σ H pv
  rcases Nat.lt_or_ge i xs.length with lt | ge
  · refine .inr ⟨⟨xs, ys, xs[i], ys[i]'(hl ▸ lt), qx, qy, List.getElem?_eq_getElem lt, List.getElem?_eq_getElem _⟩, Pv (i + 1), fun σ' H' p' => ⟨xs.length - (i + 1), by omega, rfl, lt, p'⟩, fun v H' yl => ?_⟩
    obtain ⟨q, x, y, rfl, hq, rfl, f1, f2⟩ := yl
    exact hs i x y q σ H (f1 _ qx) (f2 _ qy) pv hq
  · obtain rfl : i = xs.length := Nat.le_antisymm hi ge
    exact .inl ⟨⟨xs, ys, qx, qy, Nat.le_refl _, Nat.le_of_eq hl, .inl rfl⟩, hd σ H pv⟩
theorem lc_zipB {g : TG} {tt : TT} {te : TE} {vs : List Nat} {σ : L2.St} {H1 : Hp} {D : Addr} {Qd : Hp → Prop} (hl : xs.length = ys.length) (Pv : Nat → Hp → Prop) (h0 : Pv 0 (upd H1 D (.lst []))) (hq : ∀ i H, Pv i H → SqB K t H a xs ∧ SqB K u H b ys)
    (hs : ∀ (i : Nat) (x y : V) (q : Addr) (H : Hp), xs[i]? = some x → ys[i]? = some y → Pv i H → H q = none → g (.ref q) (wipe σ vs) (upd H q (.tup [x, y])) fun σ2 H2 => wipe σ2 vs = wipe σ vs ∧ tt σ2 H2 fun b H3 =>
      if b = true then te σ2 H3 fun z H4 => ∃ acc, H4 D = some (.lst acc) ∧ acc.length < sizeLine ∧ Pv (i + 1) (upd H4 D (.lst (acc ++ [z]))) else Pv (i + 1) H3) (hd : ∀ H, Pv xs.length H → Qd H) :
    ∃ W : Nat → Nat → Hp → Prop, (∃ m, W 0 m (upd H1 D (.lst []))) ∧ ∀ i m H, W i m H →
      ((Izb K t u a b).stop i H ∧ Qd H) ∨ ((Izb K t u a b).go i H ∧ ∃ Nx : Hp → Prop, (∀ H', Nx H' → ∃ m', m' < m ∧ W (i + 1) m' H') ∧ ∀ v H', (Izb K t u a b).yld i H v H' → g v (wipe σ vs) H' fun σ2 H2 => wipe σ2 vs = wipe σ vs ∧ tt σ2 H2 fun b H3 =>
        if b = true then te σ2 H3 fun z H4 => ∃ acc, H4 D = some (.lst acc) ∧ acc.length < sizeLine ∧ Nx (upd H4 D (.lst (acc ++ [z]))) else Nx H3) := by
  refine ⟨fun i m H => m = xs.length - i ∧ i ≤ xs.length ∧ Pv i H, ⟨_, rfl, Nat.zero_le _, h0⟩, ?_⟩
  rintro i m H ⟨rfl, hi, pv⟩
  obtain ⟨qx, qy⟩ := hq i H pv
  rcases Nat.lt_or_ge i xs.length with lt | ge
  · refine .inr ⟨⟨xs, ys, xs[i], ys[i]'(hl ▸ lt), qx, qy, List.getElem?_eq_getElem lt, List.getElem?_eq_getElem _⟩, Pv (i + 1), fun H' p' => ⟨xs.length - (i + 1), by omega, rfl, lt, p'⟩, fun v H' yl => ?_⟩
    obtain ⟨q, x, y, rfl, hq, rfl, f1, f2⟩ := yl
    exact hs i x y q H (f1 _ qx) (f2 _ qy) pv hq
  · obtain rfl : i = xs.length := Nat.le_antisymm hi ge
    exact .inl ⟨⟨xs, ys, qx, qy, Nat.le_refl _, Nat.le_of_eq hl, .inl rfl⟩, hd H pv⟩
end
end Zp
namespace Su
open PySem PySem.Spec PyProof.Rows L2 Pen Dat Ki Fi Gr No
/-! ## Values that bits settle -/
def oV : Option Int → V
  | none => .non
  | some i => .int i
def oD : Option Int → PyData
  | none => .none
  | some i => .int i
abbrev Opts := List (Option Int)
def litS (f : Opts) (a : Int) : Option Int := (f.getD (a / 2).toNat none).map fun x => ab (x - a % 2)
def andS (x y : Option Int) : Option Int := if x = some 0 ∨ y = some 0 then some 0 else if x = none ∨ y = none then none else some 1
def stepS (f : Opts) (p : Int × Int) : Opts := f ++ [andS (litS f p.1) (litS f p.2)]
def sures (bs : Opts) (gs : List (Int × Int)) : Opts := gs.foldl stepS (some 0 :: bs)
def O01 (z : Option Int) : Prop := z = none ∨ z = some 0 ∨ z = some 1
def S01 (f : Opts) : Prop := ∀ z ∈ f, O01 z
theorem getD_S {f : Opts} (h : S01 f) (j : Nat) : O01 (f.getD j none) := by
  rw [List.getD_eq_getElem?_getD]
  cases e : f[j]? with
  | none => exact .inl rfl
  | some z => exact h z (List.mem_of_getElem? e)
theorem litS_S {f : Opts} (h : S01 f) (a : Int) : O01 (litS f a) := by
  have h2 : a % 2 = 0 ∨ a % 2 = 1 := by omega
  unfold litS
  rcases getD_S h (a / 2).toNat with e | e | e <;> rw [e]
  · exact .inl rfl
  · rcases h2 with e2 | e2 <;> rw [e2]
    · exact .inr (.inl rfl)
    · exact .inr (.inr rfl)
  · rcases h2 with e2 | e2 <;> rw [e2]
    · exact .inr (.inr rfl)
    · exact .inr (.inl rfl)
theorem andS_S (x y : Option Int) : O01 (andS x y) := by
  unfold andS
  split
  · exact .inr (.inl rfl)
  · split
    · exact .inl rfl
    · exact .inr (.inr rfl)
theorem step_S {f : Opts} (h : S01 f) (p : Int × Int) : S01 (stepS f p) := fun z hz => by
  rcases List.mem_append.mp hz with q | q
  · exact h z q
  · rw [List.mem_singleton.mp q]
    exact andS_S _ _
theorem foldS_len : ∀ (gs : List (Int × Int)) (f : Opts), (gs.foldl stepS f).length = f.length + gs.length
  | [], _ => rfl
  | p :: r, f => by
    show (r.foldl stepS (stepS f p)).length = _
    rw [foldS_len r]
    unfold stepS
    rw [List.length_append]
    show f.length + 1 + r.length = f.length + (r.length + 1)
    omega
theorem foldS_S : ∀ (gs : List (Int × Int)) {f : Opts}, S01 f → S01 (gs.foldl stepS f)
  | [], _, h => h
  | p :: r, _, h => foldS_S r (step_S h p)
theorem sures_len (bs : Opts) (gs : List (Int × Int)) : (sures bs gs).length = bs.length + 1 + gs.length := by
  unfold sures
  rw [foldS_len]
  rfl
theorem sures_S {bs : Opts} (gs : List (Int × Int)) (h : S01 bs) : S01 (sures bs gs) :=
  foldS_S gs fun z hz => by
    rcases List.mem_cons.mp hz with rfl | hz
    · exact .inr (.inl rfl)
    · exact h z hz
theorem sures_take (bs : Opts) {gs : List (Int × Int)} {i : Nat} {p : Int × Int} (h : gs[i]? = some p) : sures bs (gs.take (i + 1)) = stepS (sures bs (gs.take i)) p := by
  unfold sures
  rw [take_more h, List.foldl_append]
  rfl
/-- bits that fill a row -/
def Fills (f : Opts) (g : List Int) : Prop := f.length = g.length ∧ ∀ (i : Nat) (x : Int), f[i]? = some (some x) → g[i]? = some x
theorem fills_lit {f : Opts} {g : List Int} (h : Fills f g) {a x : Int} (e : litS f a = some x) : lit g a = x := by
  unfold litS at e
  rw [List.getD_eq_getElem?_getD] at e
  cases e2 : f[(a / 2).toNat]? with
  | none =>
    rw [e2] at e
    cases e
  | some z =>
    rw [e2] at e
    cases z with
    | none => cases e
    | some y =>
      have hy := h.2 _ _ e2
      unfold lit
      rw [List.getD_eq_getElem?_getD, hy]
      exact Option.some.inj e
theorem fills_and {f : Opts} {g : List Int} (h : Fills f g) (hf : S01 f) {a b x : Int} (e : andS (litS f a) (litS f b) = some x) : lit g a * lit g b = x := by
  unfold andS at e
  split at e
  · rename_i z
    cases e
    rcases z with z | z
    · rw [fills_lit h z, Int.zero_mul]
    · rw [fills_lit h z, Int.mul_zero]
  · rename_i n0
    split at e
    · cases e
    · rename_i n1
      cases e
      have n2 : litS f a ≠ some 0 ∧ litS f b ≠ some 0 := ⟨fun q => n0 (.inl q), fun q => n0 (.inr q)⟩
      have n3 : litS f a ≠ none ∧ litS f b ≠ none := ⟨fun q => n1 (.inl q), fun q => n1 (.inr q)⟩
      have e1 : litS f a = some 1 := by
        rcases litS_S hf a with q | q | q
        · exact absurd q n3.1
        · exact absurd q n2.1
        · exact q
      have e2 : litS f b = some 1 := by
        rcases litS_S hf b with q | q | q
        · exact absurd q n3.2
        · exact absurd q n2.2
        · exact q
      rw [fills_lit h e1, fills_lit h e2]
      rfl
theorem fills_snoc {f : Opts} {g : List Int} (h : Fills f g) {x : Option Int} {y : Int} (e : ∀ z, x = some z → y = z) : Fills (f ++ [x]) (g ++ [y]) := by
  refine ⟨by rw [List.length_append, List.length_append, h.1]; rfl, fun i z hz => ?_⟩
  rcases Nat.lt_or_ge i f.length with lt | ge
  · rw [List.getElem?_append_left lt] at hz
    rw [List.getElem?_append_left (h.1 ▸ lt)]
    exact h.2 i z hz
  · rw [List.getElem?_append_right ge] at hz
    rw [List.getElem?_append_right (h.1 ▸ ge), ← h.1]
    have i0 : i - f.length = 0 := by
      have z := (List.getElem?_eq_some_iff.mp hz).1
      simpa using z
    rw [i0] at hz ⊢
    have hz2 : x = some z := by simpa using hz
    rw [e z hz2]
    rfl
theorem fills_fold : ∀ (gs : List (Int × Int)) {f : Opts} {g : List Int}, Fills f g → S01 f → Fills (gs.foldl stepS f) (gs.foldl No.step g)
  | [], _, _, h, _ => h
  | p :: r, _, _, h, hf => fills_fold r (fills_snoc h fun z hz => fills_and h hf hz) (step_S hf p)
theorem fills_cons {f : Opts} {g : List Int} (h : Fills f g) (x : Int) : Fills (some x :: f) (x :: g) := by
  refine ⟨congrArg Nat.succ h.1, fun i z hz => ?_⟩
  cases i with
  | zero => simpa using hz
  | succ i => simpa using h.2 i z (by simpa using hz)
theorem fills_sures {f : Opts} {g : List Int} (gs : List (Int × Int)) (h : Fills f g) (hf : S01 f) : Fills (sures f gs) (vals g gs) :=
  fills_fold gs (fills_cons h 0) fun z hz => by
    rcases List.mem_cons.mp hz with rfl | hz
    · exact .inr (.inl rfl)
    · exact hf z hz
theorem getD_some (g : List Int) {j : Nat} (h : j < g.length) : (g.map some).getD j none = some (g.getD j 0) := by
  rw [List.getD_eq_getElem?_getD, List.getD_eq_getElem?_getD, List.getElem?_map, List.getElem?_eq_getElem h]
  rfl
theorem lit_some (g : List Int) {a : Int} (h : (a / 2).toNat < g.length) : litS (g.map some) a = some (lit g a) := by
  unfold litS lit
  rw [getD_some g h]
  rfl
theorem and_some {x y : Int} (hx : x = 0 ∨ x = 1) (hy : y = 0 ∨ y = 1) : andS (some x) (some y) = some (x * y) := by
  rcases hx with rfl | rfl <;> rcases hy with rfl | rfl <;> rfl
theorem full_fold : ∀ (gs : List (Int × Int)) (g : List Int) (m : Int), B01 g → (g.length : Int) * 2 = m + 1 → okG m gs = true → gs.foldl stepS (g.map some) = (gs.foldl No.step g).map some
  | [], _, _, _, _, _ => rfl
  | p :: r, g, m, hb, hl, ok => by
    unfold okG at ok
    rw [Bool.and_eq_true, Bool.and_eq_true] at ok
    obtain ⟨⟨o1, o2⟩, o3⟩ := ok
    unfold within at o1 o2
    rw [Bool.and_eq_true, decide_eq_true_eq, decide_eq_true_eq] at o1 o2
    have e : stepS (g.map some) p = (No.step g p).map some := by
      unfold stepS No.step
      rw [lit_some g (by omega), lit_some g (by omega), and_some (lit_01 hb _) (lit_01 hb _), List.map_append]
      rfl
    show r.foldl stepS (stepS (g.map some) p) = _
    rw [e]
    refine full_fold r _ (m + 2) (step_01 hb p) ?_ o3
    unfold No.step
    rw [List.length_append]
    show ((g.length + 1 : Nat) : Int) * 2 = _
    omega
theorem full_sures {g : List Int} {gs : List (Int × Int)} (hb : B01 g) (ok : okG (2 * g.length + 1) gs = true) : sures (g.map some) gs = (vals g gs).map some :=
  full_fold gs (0 :: g) _ (fun z hz => by
    rcases List.mem_cons.mp hz with rfl | hz
    · exact .inl rfl
    · exact hb z hz) (by rw [List.length_cons]; omega) ok
/-! ### the values and what is read of them -/
theorem oV_some (g : List Int) : (g.map some).map oV = g.map V.int := by
  rw [List.map_map]
  rfl
theorem some_S {g : List Int} (h : B01 g) : S01 (g.map some) := fun z hz => by
  obtain ⟨x, hx, rfl⟩ := List.mem_map.mp hz
  rcases h x hx with rfl | rfl
  · exact .inr (.inl rfl)
  · exact .inr (.inr rfl)
theorem oDp (K : PySem.W.Frag) (H : Hp) : ∀ z : Option Int, Dp K H (oV z) (oD z)
  | none => .non
  | some i => .int i
theorem oDps (K : PySem.W.Frag) (H : Hp) : ∀ f : Opts, DpAll K H (f.map oV) (f.map oD)
  | [] => .nil
  | z :: r => .cons (oDp K H z) (oDps K H r)
theorem getO {f : Opts} {j : Nat} (h : j < f.length) : (f.map oV)[j]? = some (oV (f.getD j none)) := by
  rw [List.getElem?_map, List.getD_eq_getElem?_getD, List.getElem?_eq_getElem h]
  rfl
theorem opts_all : ∀ {f : Opts}, S01 f → PyData.showableAll (f.map oD) = true ∧ PyData.hasDictAll (f.map oD) = false ∧ PyData.depthAll (f.map oD) = 0 ∧ PyData.canLayAll0 (f.map oD) = true ∧
    PyData.intsShortAll 13 (f.map oD) = true ∧ PyData.weightAll (f.map oD) ≤ 11 * f.length
  | [], _ => ⟨rfl, rfl, rfl, rfl, rfl, Nat.zero_le _⟩
  | z :: r, h => by
    obtain ⟨a, b, c, d, e, g⟩ := opts_all (f := r) fun y hy => h y (List.mem_cons_of_mem _ hy)
    have one : (oD z).showable = true ∧ (oD z).hasDict = false ∧ (oD z).depth = 0 ∧ (oD z).canLay0 = true ∧ (oD z).intsShort 13 = true ∧ (oD z).weight ≤ 10 := by
      rcases h z List.mem_cons_self with rfl | rfl | rfl
      · exact ⟨rfl, rfl, rfl, rfl, rfl, by decide⟩
      · exact ⟨rfl, rfl, rfl, rfl, by decide +kernel, by decide +kernel⟩
      · exact ⟨by decide +kernel, rfl, rfl, rfl, by decide +kernel, by decide +kernel⟩
    obtain ⟨a1, b1, c1, d1, e1, g1⟩ := one
    refine ⟨?_, ?_, ?_, ?_, ?_, ?_⟩
    · show ((oD z).showable && PyData.showableAll (r.map oD)) = true
      rw [a1, a]
      rfl
    · show ((oD z).hasDict || PyData.hasDictAll (r.map oD)) = false
      rw [b1, b]
      rfl
    · show max (oD z).depth (PyData.depthAll (r.map oD)) = 0
      rw [c1, c]
      rfl
    · show ((oD z).canLay0 && PyData.canLayAll0 (r.map oD)) = true
      rw [d1, d]
      rfl
    · show ((oD z).intsShort 13 && PyData.intsShortAll 13 (r.map oD)) = true
      rw [e1, e]
      rfl
    · show (oD z).weight + 1 + PyData.weightAll (r.map oD) ≤ 11 * (r.length + 1)
      omega
theorem opts_ok {f : Opts} (h : S01 f) (hz : f.length ≤ 1000) : Rp.ROk (.tuple (f.map oD)) := by
  obtain ⟨a, b, c, d, e, g⟩ := opts_all h
  refine ⟨a, b, by show PyData.depthAll (f.map oD) + 1 ≤ 60; omega, PyData.shown_fits_of_layable0 (B := 13) (by decide) (by decide) ?_ e⟩
  show ((PyData.canLayAll0 (f.map oD) && decide (PyData.depthAll (f.map oD) + 1 ≤ 64)) && decide (PyData.weightAll (f.map oD) ≤ 2 ^ 20)) = true
  rw [d, decide_eq_true (by omega), decide_eq_true (Nat.le_trans g (Nat.le_trans (Nat.mul_le_mul_left 11 hz) (by decide)))]
  rfl
def cl1 (z : Option Int) (y : Int) : Nat := match z with
  | none => 0
  | some x => if x = y then 0 else 1
theorem cl1_le (z : Option Int) (y : Int) : cl1 z y ≤ 1 := by
  cases z with
  | none => exact Nat.zero_le _
  | some x =>
    show (if x = y then 0 else 1) ≤ 1
    split <;> omega
/-- how many places of two rows tell against one another -/
def clash : Opts → List Int → Nat
  | z :: r, y :: s => cl1 z y + clash r s
  | _, _ => 0
theorem clash_fills : ∀ {f : Opts} {g : List Int}, f.length = g.length → clash f g = 0 → Fills f g
  | [], [], _, _ => ⟨rfl, fun i x h => by simp at h⟩
  | [], _ :: _, h, _ => by cases h
  | _ :: _, [], h, _ => by cases h
  | z :: r, y :: s, h, c => by
    unfold clash at c
    have t := clash_fills (f := r) (g := s) (Nat.succ.inj h) (by omega)
    refine ⟨h, fun i x e => ?_⟩
    cases i with
    | zero =>
      have e2 : z = some x := by simpa using e
      rw [e2] at c
      by_cases q : x = y
      · rw [q]
        rfl
      · simp [cl1, q] at c
    | succ i => simpa using t.2 i x (by simpa using e)
theorem fills_clash : ∀ {f : Opts} {g : List Int}, Fills f g → clash f g = 0
  | [], _, _ => by unfold clash; rfl
  | _ :: _, [], h => by cases h.1
  | z :: r, y :: s, h => by
    have t := fills_clash (f := r) (g := s) ⟨Nat.succ.inj h.1, fun i x e => by simpa using h.2 (i + 1) x (by simpa using e)⟩
    unfold clash
    rw [t]
    cases z with
    | none => rfl
    | some x =>
      have q := h.2 0 x rfl
      have q2 : y = x := by simpa using q
      simp [cl1, q2]
theorem clash_take : ∀ {f : Opts} {g : List Int} {i : Nat} {z : Option Int} {y : Int}, f[i]? = some z → g[i]? = some y → clash (f.take (i + 1)) (g.take (i + 1)) = clash (f.take i) (g.take i) + cl1 z y
  | [], _, _, _, _, h, _ => by simp at h
  | _ :: _, [], _, _, _, _, h => by simp at h
  | z0 :: r, y0 :: s, 0, z, y, h, k => by
    have e1 : z0 = z := by simpa using h
    have e2 : y0 = y := by simpa using k
    subst e1 e2
    simp [clash]
  | z0 :: r, y0 :: s, i + 1, z, y, h, k => by
    have t := clash_take (f := r) (g := s) (i := i) (z := z) (y := y) (by simpa using h) (by simpa using k)
    show clash (z0 :: r.take (i + 1)) (y0 :: s.take (i + 1)) = clash (z0 :: r.take i) (y0 :: s.take i) + _
    unfold clash
    rw [t]
    omega
end Su
namespace Sv
open PySem PySem.Spec PyProof.Rows L2 LamX Pen Dat Ki Fi Gr No Su Yh Xg
/-! ## sure_values, and what it refuses -/
def SeqO (K : PySem.W.Frag) (H : Hp) (v : V) (f : Opts) : Prop := ∃ r, v = .ref r ∧ (SqL K H r (f.map oV) ∨ SqT K H r (f.map oV))
def isNoneD : PyData → Bool
  | .none => true
  | _ => false
def sureB (d : PyData) (n : Int) : Bool := isRowD d && (decide (((rowsD d).length : Int) = n) && (rowsD d).all fun e => isNoneD e || betD e 0 1)
theorem bet_S : ∀ {f : Opts}, S01 f → ((f.map oD).all fun e => isNoneD e || betD e 0 1) = true
  | [], _ => rfl
  | z :: r, h => by
    have t := bet_S (f := r) fun y hy => h y (List.mem_cons_of_mem _ hy)
    show ((isNoneD (oD z) || betD (oD z) 0 1) && (r.map oD).all fun e => isNoneD e || betD e 0 1) = true
    rw [t]
    rcases h z List.mem_cons_self with rfl | rfl | rfl <;> rfl
theorem seqO_dp {K : PySem.W.Frag} {H : Hp} {v : V} {f : Opts} (h : SeqO K H v f) (hb : S01 f) : ∃ d, Dp K H v d ∧ (rowsD d).length = f.length ∧ sureB d (f.length : Int) = true := by
  have e : (true && (decide (((f.map oD).length : Int) = f.length) && (f.map oD).all fun e => isNoneD e || betD e 0 1)) = true := by
    rw [bet_S hb, List.length_map, decide_eq_true rfl]
    rfl
  obtain ⟨r, rfl, h | h⟩ := h
  · exact ⟨.list (f.map oD), .lst h (oDps K H f), List.length_map .., e⟩
  · exact ⟨.tuple (f.map oD), .tup h (oDps K H f), List.length_map .., e⟩
theorem SeqO.same {K : PySem.W.Frag} {H H' : Hp} {v : V} {f : Opts} (s : Same H H') (h : SeqO K H v f) : SeqO K H' v f := by
  obtain ⟨r, e, h⟩ := h
  exact ⟨r, e, h.elim (fun h => .inl (s.seq h)) fun h => .inr (seqT_same s h)⟩
theorem none_dec {K : PySem.W.Frag} {H : Hp} {v : V} {d : PyData} (h : Dp K H v d) : decide (v = .non) = isNoneD d := by
  cases h <;> rfl
def spLitS (K : PySem.W.Frag) : Sp := fun vs H Q _ => ∃ (l : Addr) (f : Opts) (a : Int), vs = [.ref l, .int a] ∧ SqL K H l (f.map oV) ∧ S01 f ∧ 0 ≤ a ∧ (a / 2).toNat < f.length ∧ Q (oV (litS f a)) H
def spSAnd : Sp := fun vs H Q _ => ∃ x y : Option Int, vs = [oV x, oV y] ∧ O01 x ∧ O01 y ∧ Q (oV (andS x y)) H
def spAreS (K : PySem.W.Frag) : Sp := fun vs H Q _ => ∃ (v : V) (n : Int) (d : PyData), vs = [v, .int n] ∧ Dp K H v d ∧ (rowsD d).length ≤ 1000 ∧ ∀ H', Same H H' → Q (.bl (sureB d n)) H'
def spAreD (K : PySem.W.Frag) : Sp := fun vs H Q _ => ∃ (a : Addr) (kvs : List (Key × V)) (n : Int), vs = [.ref a, .int n] ∧ H a = some (.dK kvs) ∧ ∀ H', Same H H' → Q (.bl false) H'
def spSure (K : PySem.W.Frag) (C : Addr) : Sp := fun vs H Q _ => ∃ (p : Addr) (v : V) (gs : List (Int × Int)) (bs : Opts), vs = [.ref p, v] ∧ GraphAt K C H p bs.length gs ∧ SeqO K H v bs ∧ S01 bs ∧ okG (2 * bs.length + 1) gs = true ∧ bs.length ≤ 500 ∧ gs.length ≤ 500 ∧
  ∀ (H' : Hp) (t : Addr), Same H H' → H' t = some (.tup ((sures bs gs).map oV)) → Q (.ref t) H'
def spSureX (K : PySem.W.Frag) (C CR : Addr) : Sp := fun vs H Q E => ∃ (x : Addr) (v : V) (n : Int) (gs : List (Int × Int)), vs = [.ref x, v] ∧ GraphAt K C H x n gs ∧ Row CR E H v ∧
  ((∃ d, Dp K H v d ∧ (rowsD d).length ≤ 1000 ∧ sureB d n = false) ∨ ∃ a kvs, v = .ref a ∧ H a = some (.dK kvs))
section
variable {P : Program} {w : World} {K : PySem.W.Frag} {mg : Str → Option Value} {base : Heap} {f C CN CR fN fR : Addr} {fd : FuncData}
abbrev nLitS : List Str := ["found", "literal", "value"]
theorem scLitS : FnScope nLitS ["found", "literal"] (defScope sLit) := ⟨rfl, rfl, rfl, by decide +kernel, rfl, by decide +kernel, by decide +kernel⟩
abbrev nSAnd : List Str := ["one", "other"]
theorem scSAnd : FnScope nSAnd ["one", "other"] (defScope sSAnd) := ⟨rfl, rfl, rfl, by decide +kernel, rfl, by decide +kernel, by decide +kernel⟩
abbrev nAreS : List Str := ["value", "many", "bit"]
theorem scAreS : FnScope nAreS ["value", "many"] (defScope sAreS) := ⟨rfl, rfl, rfl, by decide +kernel, rfl, by decide +kernel, by decide +kernel⟩
abbrev nSure : List Str := ["graph", "bits", "found", "one", "other"]
theorem scSure : FnScope nSure ["graph", "bits"] (defScope sSure) := ⟨rfl, rfl, rfl, by decide +kernel, rfl, by decide +kernel, by decide +kernel⟩
theorem at_ix {a : Int} (h : 0 ≤ a) : a / 2 ^ (1 : Int).toNat = (((a / 2).toNat : Nat) : Int) := by
  show a / 2 = _
  omega
theorem ok_litS (F : FnP K "literal_value" sLit f fd) : FnOk P w K mg base CX0 1 f fd ["found", "literal"] (spLitS K) := by
  refine F.ok scLitS (fun vs H Q E h => ?_) (fun cdv A outer s H vs Q E hr h => ?_)
  · obtain ⟨l, f, a, rfl, _⟩ := h
    rfl
  · obtain ⟨l, f, a, rfl, hl, hb, ha, hz, q⟩ := h
    refine ⟨_, PSs.nox (pss_cons (ps_set (i := 2) scLitS.nd rfl (Or.inl rfl) (pe_ix ix_list (pv 0) (pe_op op_shr (pv 1) pe_int) (fun _ _ => rfl)))
      (pss_cons (ps_if (pt_cmpR op_isN (pv 2) pe_non (nomark _))
        (pss_one (ps_ret pe_non))
        pss_nil)
      (pss_one (ps_ret (pe_op op_xor (pv 2) (pe_op op_and (pv 1) pe_int)))))), ?_⟩
    refine ⟨_, rfl, _, rfl, _, _, rfl, rfl, (by show (0 : Int) ≤ 1; decide), l, _, _, _, rfl, rfl, hl, at_of (at_ix ha) (getO hz), ?_⟩
    have h01 := getD_S hb (a / 2).toNat
    unfold litS at q
    cases e : f.getD (a / 2).toNat none with
    | none =>
      rw [e] at q
      exact ⟨_, rfl, rfl, _, rfl, iteT q⟩
    | some x =>
      rw [e] at q h01
      have hx : x = 0 ∨ x = 1 := by
        rcases h01 with z | z | z
        · cases z
        · exact .inl (Option.some.inj z)
        · exact .inr (Option.some.inj z)
      refine ⟨_, rfl, rfl, _, rfl, iteF ?_⟩
      refine ⟨_, rfl, _, rfl, _, _, rfl, rfl, _, _, rfl, rfl, ?_⟩
      show Q (.int (Builtin.bitXor x (Builtin.bitAnd a 1))) H
      rw [flip_bit hx]
      exact q
theorem ok_sand (F : FnP K "sure_and" sSAnd f fd) : FnOk P w K mg base CX0 1 f fd ["one", "other"] spSAnd := by
  refine F.ok scSAnd (fun vs H Q E h => ?_) (fun cdv A outer s H vs Q E hr h => ?_)
  · obtain ⟨x, y, rfl, _⟩ := h
    rfl
  · obtain ⟨x, y, rfl, hx, hy, q⟩ := h
    refine ⟨_, PSs.nox (pss_cons (ps_if (PW.pt (pw_or (pt_cmpR op_eq (pv 0) pe_int (nomark _)) (pw_or1 (pt_cmpR op_eq (pv 1) pe_int (nomark _)))))
        (pss_one (ps_ret pe_int))
        pss_nil)
      (pss_cons (ps_if (PW.pt (pw_or (pt_cmpR op_isN (pv 0) pe_non (nomark _)) (pw_or1 (pt_cmpR op_isN (pv 1) pe_non (nomark _)))))
        (pss_one (ps_ret pe_non))
        pss_nil)
      (pss_one (ps_ret pe_int)))), ?_⟩
    rcases hx with rfl | rfl | rfl
    · rcases hy with rfl | rfl | rfl
      · exact ⟨_, rfl, rfl, _, rfl, iteF ⟨_, rfl, rfl, _, rfl, iteF ⟨_, rfl, rfl, _, rfl, iteT q⟩⟩⟩
      · exact ⟨_, rfl, rfl, _, rfl, iteF ⟨_, rfl, rfl, _, rfl, iteT q⟩⟩
      · exact ⟨_, rfl, rfl, _, rfl, iteF ⟨_, rfl, rfl, _, rfl, iteF ⟨_, rfl, rfl, _, rfl, iteT q⟩⟩⟩
    · exact ⟨_, rfl, rfl, _, rfl, iteT (by unfold andS at q; rw [if_pos (.inl rfl)] at q; exact q)⟩
    · rcases hy with rfl | rfl | rfl
      · exact ⟨_, rfl, rfl, _, rfl, iteF ⟨_, rfl, rfl, _, rfl, iteF ⟨_, rfl, rfl, _, rfl, iteF ⟨_, rfl, rfl, _, rfl, iteT q⟩⟩⟩⟩
      · exact ⟨_, rfl, rfl, _, rfl, iteF ⟨_, rfl, rfl, _, rfl, iteT q⟩⟩
      · exact ⟨_, rfl, rfl, _, rfl, iteF ⟨_, rfl, rfl, _, rfl, iteF ⟨_, rfl, rfl, _, rfl, iteF ⟨_, rfl, rfl, _, rfl, iteF q⟩⟩⟩⟩
theorem ok_ares (F : FnP K "are_sure_bits" sAreS f fd) (T : Ki.Tx mg)
    {fW fB : Addr} {dW dB : FuncData}
    (GW : FnOk P w K mg base CX0 1 fW dW ["value"] (spRow K)) (gW : mg "is_row" = some (.ref fW)) (kW : PySem.W.keepIn K (.ref fW) = true) (bW : Binds K dW ["value"] [])
    (GB : FnOk P w K mg base CX0 1 fB dB ["value", "least", "most"] (spBetween K)) (gB : mg "is_between" = some (.ref fB)) (kB : PySem.W.keepIn K (.ref fB) = true) (bB : Binds K dB ["value", "least", "most"] [])
    : FnOk P w K mg base CX0 2 f fd ["value", "many"] (spAreS K) := by
  refine F.ok scAreS (fun vs H Q E h => ?_) (fun cdv A outer s H vs Q E hr h => ?_)
  · obtain ⟨v, n, d, rfl, _⟩ := h
    rfl
  · obtain ⟨v, n, d, rfl, hd, hz, q⟩ := h
    cases hd with
    | lst ht ha =>
      rename_i a vs ds
      have hlen := dps_len ha
      have hz' : ds.length ≤ 1000 := hz
      refine ⟨_, PSs.nox (pss_cons (ps_if (PW.pt (pw_or (pt_not (pt_val (pe_call GW (hr.mono (by decide)) (by rfl) gW kW bW .nil pass0 (pa_cons (pv 0) pa_nil)))) (pw_or1 (pt_cmpR op_ne (pe_callB call_len_seq (by rfl) T.len PySem.boot_len (pa_cons (pv 0) pa_nil)) (pv 1) (nomark _)))))
        (pss_one (ps_ret pe_bl))
        pss_nil)
      (pss_one (ps_ret (pe_callB (cr_all rfl) (by rfl) T.all (by decide +kernel) (pa_cons (pe_lc (own := [("bit", 2)]) (g := gName 2) (tt := tYes) rfl scAreS.nd (pi_list (pv 0)) (blkOk_by (N := nAreS) (sc := defScope sAreS) (by decide +kernel)) (fun _ _ _ _ _ => pg_name (i := 2) scAreS.nd rfl (Or.inl rfl)) (fun _ _ _ _ _ => pts_nil) (fun _ _ _ _ _ => (pe_or (pe_cmpR op_isN (pv 2) pe_non (nomark _)) (pe_one (pe_call GB (hr.mono (by decide)) (by rfl) gB kB bB .nil pass0 (pa_cons (pv 2) (pa_cons pe_int (pa_cons pe_int pa_nil)))))))) pa_nil))))), ?_⟩
      refine ⟨_, rfl, _, _, rfl, .lst ht ha, fun H1 s1 => ⟨_, rfl, iteF ?_⟩⟩
      have hq1 := Same.seq s1 ht
      refine ⟨_, rfl, _, _, rfl, .inl hq1, _, rfl, rfl, _, rfl, ?_⟩
      refine ite2 (fun e1 => ?_) (fun e1 => ?_)
      · have e2 : ¬ (ds.length : Int) = n := fun z => by
          rw [← hlen] at z
          rw [z] at e1
          simp at e1
        have e3 : sureB (.list ds) n = false := by
          show (true && (decide ((ds.length : Int) = n) && _)) = false
          rw [decide_eq_false e2]
          rfl
        rw [← e3]
        exact q _ s1
      · have e2 : (ds.length : Int) = n := by
          rw [← hlen]
          rcases Decidable.em ((vs.length : Int) = n) with z | z
          · exact z
          · refine absurd ?_ e1
            simp [z]
        refine ⟨_, rfl, a, rfl, ⟨_, hq1⟩, fun D nD => ?_⟩
        have sD : Same H1 (upd H1 D (.lst [])) := same_new nD
        refine lc_list (K := K) (a := a) (xs := vs) (fun i H2 => Same H1 H2 ∧ H2 D = some (.lst ((ds.take i).map fun e => V.bl (isNoneD e || betD e 0 1)))) ⟨sD, by rw [upd_same]; rfl⟩ (fun i H2 _ ⟨s2, _⟩ => Same.seq s2 hq1) ?_ ?_
        · rintro i v H2 hi ⟨s2, h2⟩
          obtain ⟨e, he, hv⟩ := dps_get ha hi
          have hv2 := dp_same (s1.trans s2) hv
          refine ⟨rfl, yes_of ?_⟩
          have fin : ∀ b : Bool, b = (isNoneD e || betD e 0 1) → ∃ acc, H2 D = some (.lst acc) ∧ acc.length < sizeLine ∧ Same H1 (upd H2 D (.lst (acc ++ [V.bl b]))) ∧ upd H2 D (.lst (acc ++ [V.bl b])) D = some (.lst ((ds.take (i + 1)).map fun e => V.bl (isNoneD e || betD e 0 1))) := by
            rintro b rfl
            refine ⟨_, h2, ?_, fun b o z => ?_, ?_⟩
            · rw [List.length_map, List.length_take]
              exact Nat.lt_of_le_of_lt (Nat.min_le_right _ _) (Nat.lt_of_le_of_lt hz' (by decide))
            · rw [upd_ne (ne_of_none z nD)]
              exact s2 _ _ z
            · rw [upd_same, take_more he, List.map_append]
              rfl
          refine ⟨_, rfl, rfl, _, rfl, ?_⟩
          rw [none_dec hv2]
          cases en : isNoneD e with
          | true => exact iteT (fin true (by rw [en]; rfl))
          | false => exact iteF ⟨_, rfl, _, _, _, e, rfl, hv2, fin _ (by rw [en]; rfl)⟩
        · rintro H2 ⟨s2, h2⟩
          rw [hlen, List.take_length] at h2
          refine ⟨D, ds.map fun e => isNoneD e || betD e 0 1, rfl, SqL.of ?_, ?_⟩
          · rw [h2, List.map_map]
            rfl
          · have e3 : sureB (.list ds) n = (ds.map fun e => isNoneD e || betD e 0 1).all id := by
              show (true && (decide ((ds.length : Int) = n) && ds.all fun e => isNoneD e || betD e 0 1)) = _
              rw [decide_eq_true e2, List.all_map]
              rfl
            rw [← e3]
            exact q _ (s1.trans s2)
    | tup ht ha =>
      rename_i a vs ds
      have hlen := dps_len ha
      have hz' : ds.length ≤ 1000 := hz
      refine ⟨_, PSs.nox (pss_cons (ps_if (PW.pt (pw_or (pt_not (pt_val (pe_call GW (hr.mono (by decide)) (by rfl) gW kW bW .nil pass0 (pa_cons (pv 0) pa_nil)))) (pw_or1 (pt_cmpR op_ne (pe_callB call_len_seq (by rfl) T.len PySem.boot_len (pa_cons (pv 0) pa_nil)) (pv 1) (nomark _)))))
        (pss_one (ps_ret pe_bl))
        pss_nil)
      (pss_one (ps_ret (pe_callB (cr_all rfl) (by rfl) T.all (by decide +kernel) (pa_cons (pe_lc (own := [("bit", 2)]) (g := gName 2) (tt := tYes) rfl scAreS.nd (pi_tup (pv 0)) (blkOk_by (N := nAreS) (sc := defScope sAreS) (by decide +kernel)) (fun _ _ _ _ _ => pg_name (i := 2) scAreS.nd rfl (Or.inl rfl)) (fun _ _ _ _ _ => pts_nil) (fun _ _ _ _ _ => (pe_or (pe_cmpR op_isN (pv 2) pe_non (nomark _)) (pe_one (pe_call GB (hr.mono (by decide)) (by rfl) gB kB bB .nil pass0 (pa_cons (pv 2) (pa_cons pe_int (pa_cons pe_int pa_nil)))))))) pa_nil))))), ?_⟩
      refine ⟨_, rfl, _, _, rfl, .tup ht ha, fun H1 s1 => ⟨_, rfl, iteF ?_⟩⟩
      have hq1 := seqT_same s1 ht
      refine ⟨_, rfl, _, _, rfl, .inr hq1, _, rfl, rfl, _, rfl, ?_⟩
      refine ite2 (fun e1 => ?_) (fun e1 => ?_)
      · have e2 : ¬ (ds.length : Int) = n := fun z => by
          rw [← hlen] at z
          rw [z] at e1
          simp at e1
        have e3 : sureB (.tuple ds) n = false := by
          show (true && (decide ((ds.length : Int) = n) && _)) = false
          rw [decide_eq_false e2]
          rfl
        rw [← e3]
        exact q _ s1
      · have e2 : (ds.length : Int) = n := by
          rw [← hlen]
          rcases Decidable.em ((vs.length : Int) = n) with z | z
          · exact z
          · refine absurd ?_ e1
            simp [z]
        refine ⟨_, rfl, a, rfl, ⟨_, hq1⟩, fun D nD => ?_⟩
        have sD : Same H1 (upd H1 D (.lst [])) := same_new nD
        refine lc_tup (K := K) (a := a) (xs := vs) (fun i H2 => Same H1 H2 ∧ H2 D = some (.lst ((ds.take i).map fun e => V.bl (isNoneD e || betD e 0 1)))) ⟨sD, by rw [upd_same]; rfl⟩ (fun i H2 _ ⟨s2, _⟩ => seqT_same s2 hq1) ?_ ?_
        · rintro i v H2 hi ⟨s2, h2⟩
          obtain ⟨e, he, hv⟩ := dps_get ha hi
          have hv2 := dp_same (s1.trans s2) hv
          refine ⟨rfl, yes_of ?_⟩
          have fin : ∀ b : Bool, b = (isNoneD e || betD e 0 1) → ∃ acc, H2 D = some (.lst acc) ∧ acc.length < sizeLine ∧ Same H1 (upd H2 D (.lst (acc ++ [V.bl b]))) ∧ upd H2 D (.lst (acc ++ [V.bl b])) D = some (.lst ((ds.take (i + 1)).map fun e => V.bl (isNoneD e || betD e 0 1))) := by
            rintro b rfl
            refine ⟨_, h2, ?_, fun b o z => ?_, ?_⟩
            · rw [List.length_map, List.length_take]
              exact Nat.lt_of_le_of_lt (Nat.min_le_right _ _) (Nat.lt_of_le_of_lt hz' (by decide))
            · rw [upd_ne (ne_of_none z nD)]
              exact s2 _ _ z
            · rw [upd_same, take_more he, List.map_append]
              rfl
          refine ⟨_, rfl, rfl, _, rfl, ?_⟩
          rw [none_dec hv2]
          cases en : isNoneD e with
          | true => exact iteT (fin true (by rw [en]; rfl))
          | false => exact iteF ⟨_, rfl, _, _, _, e, rfl, hv2, fin _ (by rw [en]; rfl)⟩
        · rintro H2 ⟨s2, h2⟩
          rw [hlen, List.take_length] at h2
          refine ⟨D, ds.map fun e => isNoneD e || betD e 0 1, rfl, SqL.of ?_, ?_⟩
          · rw [h2, List.map_map]
            rfl
          · have e3 : sureB (.tuple ds) n = (ds.map fun e => isNoneD e || betD e 0 1).all id := by
              show (true && (decide ((ds.length : Int) = n) && ds.all fun e => isNoneD e || betD e 0 1)) = _
              rw [decide_eq_true e2, List.all_map]
              rfl
            rw [← e3]
            exact q _ (s1.trans s2)
    | non =>
      refine ⟨_, PSs.nox (pss_cons (ps_if (PW.pt (pw_or (pt_not (pt_val (pe_call GW (hr.mono (by decide)) (by rfl) gW kW bW .nil pass0 (pa_cons (pv 0) pa_nil)))) (pw_or1 (pt_cmpR op_ne (pe_callB call_len_seq (by rfl) T.len PySem.boot_len (pa_cons (pv 0) pa_nil)) (pv 1) (nomark _)))))
        (pss_one (ps_ret pe_bl))
        pss_nil)
      (pss_one (ps_ret (pe_callB (cr_all rfl) (by rfl) T.all (by decide +kernel) (pa_cons (pe_lc (own := [("bit", 2)]) (g := gName 2) (tt := tYes) rfl scAreS.nd (pi_list (pv 0)) (blkOk_by (N := nAreS) (sc := defScope sAreS) (by decide +kernel)) (fun _ _ _ _ _ => pg_name (i := 2) scAreS.nd rfl (Or.inl rfl)) (fun _ _ _ _ _ => pts_nil) (fun _ _ _ _ _ => (pe_or (pe_cmpR op_isN (pv 2) pe_non (nomark _)) (pe_one (pe_call GB (hr.mono (by decide)) (by rfl) gB kB bB .nil pass0 (pa_cons (pv 2) (pa_cons pe_int (pa_cons pe_int pa_nil)))))))) pa_nil))))), ?_⟩
      exact ⟨_, rfl, _, _, rfl, .non, fun H1 s1 => ⟨_, rfl, iteT (q _ s1)⟩⟩
    | bl b =>
      refine ⟨_, PSs.nox (pss_cons (ps_if (PW.pt (pw_or (pt_not (pt_val (pe_call GW (hr.mono (by decide)) (by rfl) gW kW bW .nil pass0 (pa_cons (pv 0) pa_nil)))) (pw_or1 (pt_cmpR op_ne (pe_callB call_len_seq (by rfl) T.len PySem.boot_len (pa_cons (pv 0) pa_nil)) (pv 1) (nomark _)))))
        (pss_one (ps_ret pe_bl))
        pss_nil)
      (pss_one (ps_ret (pe_callB (cr_all rfl) (by rfl) T.all (by decide +kernel) (pa_cons (pe_lc (own := [("bit", 2)]) (g := gName 2) (tt := tYes) rfl scAreS.nd (pi_list (pv 0)) (blkOk_by (N := nAreS) (sc := defScope sAreS) (by decide +kernel)) (fun _ _ _ _ _ => pg_name (i := 2) scAreS.nd rfl (Or.inl rfl)) (fun _ _ _ _ _ => pts_nil) (fun _ _ _ _ _ => (pe_or (pe_cmpR op_isN (pv 2) pe_non (nomark _)) (pe_one (pe_call GB (hr.mono (by decide)) (by rfl) gB kB bB .nil pass0 (pa_cons (pv 2) (pa_cons pe_int (pa_cons pe_int pa_nil)))))))) pa_nil))))), ?_⟩
      exact ⟨_, rfl, _, _, rfl, .bl b, fun H1 s1 => ⟨_, rfl, iteT (q _ s1)⟩⟩
    | int i =>
      refine ⟨_, PSs.nox (pss_cons (ps_if (PW.pt (pw_or (pt_not (pt_val (pe_call GW (hr.mono (by decide)) (by rfl) gW kW bW .nil pass0 (pa_cons (pv 0) pa_nil)))) (pw_or1 (pt_cmpR op_ne (pe_callB call_len_seq (by rfl) T.len PySem.boot_len (pa_cons (pv 0) pa_nil)) (pv 1) (nomark _)))))
        (pss_one (ps_ret pe_bl))
        pss_nil)
      (pss_one (ps_ret (pe_callB (cr_all rfl) (by rfl) T.all (by decide +kernel) (pa_cons (pe_lc (own := [("bit", 2)]) (g := gName 2) (tt := tYes) rfl scAreS.nd (pi_list (pv 0)) (blkOk_by (N := nAreS) (sc := defScope sAreS) (by decide +kernel)) (fun _ _ _ _ _ => pg_name (i := 2) scAreS.nd rfl (Or.inl rfl)) (fun _ _ _ _ _ => pts_nil) (fun _ _ _ _ _ => (pe_or (pe_cmpR op_isN (pv 2) pe_non (nomark _)) (pe_one (pe_call GB (hr.mono (by decide)) (by rfl) gB kB bB .nil pass0 (pa_cons (pv 2) (pa_cons pe_int (pa_cons pe_int pa_nil)))))))) pa_nil))))), ?_⟩
      exact ⟨_, rfl, _, _, rfl, .int i, fun H1 s1 => ⟨_, rfl, iteT (q _ s1)⟩⟩
    | str x =>
      refine ⟨_, PSs.nox (pss_cons (ps_if (PW.pt (pw_or (pt_not (pt_val (pe_call GW (hr.mono (by decide)) (by rfl) gW kW bW .nil pass0 (pa_cons (pv 0) pa_nil)))) (pw_or1 (pt_cmpR op_ne (pe_callB call_len_seq (by rfl) T.len PySem.boot_len (pa_cons (pv 0) pa_nil)) (pv 1) (nomark _)))))
        (pss_one (ps_ret pe_bl))
        pss_nil)
      (pss_one (ps_ret (pe_callB (cr_all rfl) (by rfl) T.all (by decide +kernel) (pa_cons (pe_lc (own := [("bit", 2)]) (g := gName 2) (tt := tYes) rfl scAreS.nd (pi_list (pv 0)) (blkOk_by (N := nAreS) (sc := defScope sAreS) (by decide +kernel)) (fun _ _ _ _ _ => pg_name (i := 2) scAreS.nd rfl (Or.inl rfl)) (fun _ _ _ _ _ => pts_nil) (fun _ _ _ _ _ => (pe_or (pe_cmpR op_isN (pv 2) pe_non (nomark _)) (pe_one (pe_call GB (hr.mono (by decide)) (by rfl) gB kB bB .nil pass0 (pa_cons (pv 2) (pa_cons pe_int (pa_cons pe_int pa_nil)))))))) pa_nil))))), ?_⟩
      exact ⟨_, rfl, _, _, rfl, .str x, fun H1 s1 => ⟨_, rfl, iteT (q _ s1)⟩⟩
theorem ok_ared (F : FnP K "are_sure_bits" sAreS f fd) (T : Ki.Tx mg) {fW : Addr} {dW : FuncData} (GW : FnOk P w K mg base CX0 1 fW dW ["value"] (spRowD K)) (gW : mg "is_row" = some (.ref fW)) (kW : PySem.W.keepIn K (.ref fW) = true) (bW : Binds K dW ["value"] []) :
    FnOk P w K mg base CX0 2 f fd ["value", "many"] (spAreD K) := by
  refine F.ok scAreS (fun vs H Q E h => ?_) (fun cdv A outer s H vs Q E hr h => ?_)
  · obtain ⟨a, kvs, n, rfl, _⟩ := h
    rfl
  · obtain ⟨a, kvs, n, rfl, hd, q⟩ := h
    refine ⟨_, PSs.nox (pss_cons (ps_if (PW.pt (pw_or (pt_not (pt_val (pe_call GW (hr.mono (by decide)) (by rfl) gW kW bW .nil pass0 (pa_cons (pv 0) pa_nil)))) (pw_or1 (pt_cmpR op_ne (pe_callB call_len_seq (by rfl) T.len PySem.boot_len (pa_cons (pv 0) pa_nil)) (pv 1) (nomark _))))) (pss_one (ps_ret pe_bl)) pss_nil) (pss_one ps_never)), ?_⟩
    exact ⟨_, rfl, a, kvs, rfl, hd, fun H1 s1 => ⟨_, rfl, iteT (q _ s1)⟩⟩
theorem ok_sure (F : FnP K "sure_values" sSure f fd) (T : Gr.Tx K mg C)
    {fS fA fL : Addr} {dS dA dL : FuncData}
    (GS : FnOk P w K mg base CX0 2 fS dS ["value", "many"] (spAreS K)) (gS : mg "are_sure_bits" = some (.ref fS)) (kS : PySem.W.keepIn K (.ref fS) = true) (bS : Binds K dS ["value", "many"] [])
    (GA : FnOk P w K mg base CX0 1 fA dA ["one", "other"] (spSAnd)) (gA : mg "sure_and" = some (.ref fA)) (kA : PySem.W.keepIn K (.ref fA) = true) (bA : Binds K dA ["one", "other"] [])
    (GL : FnOk P w K mg base CX0 1 fL dL ["found", "literal"] (spLitS K)) (gL : mg "literal_value" = some (.ref fL)) (kL : PySem.W.keepIn K (.ref fL) = true) (bL : Binds K dL ["found", "literal"] [])
    : FnOk P w K mg base CX0 3 f fd ["graph", "bits"] (spSure K C) := by
  refine F.ok scSure (fun vs H Q E h => ?_) (fun cdv A outer s H vs Q E hr h => ?_)
  · obtain ⟨p, v, gs, bs, rfl, _⟩ := h
    rfl
  · obtain ⟨p, v, gs, bs, rfl, hG, hB, hb, hok, hz1, hz2, q⟩ := h
    obtain ⟨d, d1, d2, d3⟩ := seqO_dp hB hb
    obtain ⟨dx, g, h1, h2⟩ := hG
    obtain ⟨ps, hg, ha⟩ := id h2
    obtain ⟨r, rfl, hr1⟩ := id hB
    refine ⟨_, PSs.nox (pss_cons (ps_if (pt_not (pt_val (pe_call GS (hr.mono (by decide)) (by rfl) gS kS bS .nil pass0 (pa_cons (pv 1) (pa_cons (pe_fld (pv 0) rfl) pa_nil)))))
        (pss_one ps_never)
        pss_nil)
      (pss_cons (ps_set (i := 2) scSure.nd rfl (Or.inl rfl) (pe_lst (pa_cons pe_int (StX.pa_star (pv 1) pa_nil))))
      (pss_cons (ps_for PassesOwn.never rfl (pi_tup (pe_fld (pv 0) rfl)) (pg_tup rfl (pgs_cons (pg_name (i := 3) scSure.nd rfl (Or.inl rfl)) (pgs_cons (pg_name (i := 4) scSure.nd rfl (Or.inl rfl)) pgs_nil)))
        (pss_one (ps_expr (pe_bm PySem.F.plainAttrs_list PySem.F.slot_list_append PySem.F.type_list_append mt_append (pv 2) (pa_cons (pe_call GA (hr.mono (by decide)) (by rfl) gA kA bA .nil pass0 (pa_cons (pe_call GL (hr.mono (by decide)) (by rfl) gL kL bL .nil pass0 (pa_cons (pv 2) (pa_cons (pv 3) pa_nil))) (pa_cons (pe_call GL (hr.mono (by decide)) (by rfl) gL kL bL .nil pass0 (pa_cons (pv 2) (pa_cons (pv 4) pa_nil))) pa_nil))) pa_nil)))))
      (pss_one (ps_ret (pe_callTy (T := "tuple") (r := rTupOf K) (by exact call_tuple_of) (by rfl) T.ki.tuple (by decide +kernel) (pa_cons (pv 2) pa_nil))))))), ?_⟩
    refine ⟨_, rfl, _, rfl, p, C, dx, _, _, rfl, h1, T.cl, T.nL, flds_L _ _, _, _, d, rfl, d1, by omega, fun H1 s1 => ⟨_, rfl, ?_⟩⟩
    rw [d3]
    refine iteF ?_
    have hr2 : SqT K H1 r (bs.map oV) ∨ SqL K H1 r (bs.map oV) := hr1.elim (fun h => .inr (s1.seq h)) fun h => .inl (seqT_same s1 h)
    refine ⟨_, rfl, r, _, rfl, hr2, ?_, fun l nl => ?_⟩
    · show (V.int 0 :: (bs.map oV ++ [])).length ≤ sizeLine
      rw [List.append_nil, List.length_cons, List.length_map]
      exact Nat.le_trans (Nat.succ_le_succ hz1) (by decide)
    have sl : Same H1 (upd H1 l (.lst (V.int 0 :: (bs.map oV ++ [])))) := same_new nl
    refine ⟨_, rfl, p, C, dx, _, _, rfl, sl _ _ (s1 _ _ h1), T.cl, T.nG, flds_G _ _, g, rfl, ⟨_, seqT_same (s1.trans sl) hg⟩, for_tup (K := K) (a := g) (xs := ps)
      (fun i σ H2 => ∃ u w : Option V, σ = [some (.ref p), some (.ref r), some (.ref l), u, w] ∧ Same H1 H2 ∧ H2 l = some (.lst ((sures bs (gs.take i)).map oV)))
      ⟨none, none, rfl, sl, ?_⟩ (fun i σ H2 _ ⟨_, _, _, s2, _⟩ => seqT_same (s1.trans s2) hg) ?_ ?_⟩
    · rw [upd_same, List.append_nil]
      rfl
    · rintro i x σ H2 hi ⟨u, w, rfl, s2, h2'⟩
      obtain ⟨z, hz, hx⟩ := ha.get hi
      obtain ⟨q0, rfl, hq⟩ := hx
      have hi2 : i < gs.length := (List.getElem?_eq_some_iff.mp hz).1
      obtain ⟨⟨a0, a1⟩, b0, b1⟩ := okG_at hok hz
      have lv : (sures bs (gs.take i)).length = bs.length + 1 + i := by
        rw [sures_len, List.length_take, Nat.min_eq_left (Nat.le_of_lt hi2)]
      have v01 := sures_S (gs.take i) hb
      have j1 : (z.1 / 2).toNat < (sures bs (gs.take i)).length := by omega
      have j2 : (z.2 / 2).toNat < (sures bs (gs.take i)).length := by omega
      refine ⟨q0, _, rfl, seqT_same (s1.trans s2) hq, rfl, _, _, rfl, _, _, rfl, rfl, ?_⟩
      refine ⟨_, rfl, .inl ⟨rfl, _, SqL.of h2'⟩, _, rfl, _, rfl, l, _, z.1, rfl, SqL.of h2', v01, a0, j1, _, rfl, _, rfl, l, _, z.2, rfl, SqL.of h2', v01, b0, j2, litS _ z.1, litS _ z.2, rfl, litS_S v01 _, litS_S v01 _, l, _, _, rfl, rfl, h2', ?_, ?_⟩
      · rw [List.length_map, lv]
        exact Nat.lt_of_lt_of_le (by omega : bs.length + 1 + i < 1002) (by decide)
      · refine ⟨_, _, rfl, fun b o e => ?_, ?_⟩
        · rw [upd_ne (ne_of_none e nl)]
          exact s2 _ _ e
        · rw [upd_same, sures_take bs hz]
          unfold stepS
          rw [List.map_append]
          rfl
    · rintro σ H2 ⟨u, w, rfl, s2, h2'⟩
      rw [ha.len, List.take_length] at h2'
      refine ⟨_, rfl, l, _, rfl, .inl ⟨SqL.of h2', fun t nt => ?_⟩⟩
      exact q _ t (s1.trans (s2.trans (same_new nt))) upd_same
theorem ok_surex {fS : Addr} {dS fd2 : FuncData} (F : FnP K "sure_values" sSure f fd) (T : Gr.Tx K mg C) (X : Te K mg CN CR fN fR) (GS : FnOk P w K mg base CX0 2 fS dS ["value", "many"] fun vs H Q E => spAreS K vs H Q E ∨ spAreD K vs H Q E) (gS : mg "are_sure_bits" = some (.ref fS)) (kS : PySem.W.keepIn K (.ref fS) = true)
    (bS : Binds K dS ["value", "many"] []) (GX : FnOk P w K mg base CX0 1 fR fd2 riN (spRowI CR)) (bX : Binds K fd2 riN []) : FnOk P w K mg base (L2.CX P w) 3 f fd ["graph", "bits"] (spSureX K C CR) := by
  refine F.ok scSure (fun vs H Q E h => ?_) (fun cdv A outer s H vs Q E hr h => ?_)
  · obtain ⟨x, v, n, gs, rfl, _⟩ := h
    rfl
  · obtain ⟨x, v, n, gs, rfl, ⟨dg, g, x1, _⟩, row, h⟩ := h
    have tk : Takes (cxOf (L2.CX P w) P w K mg base nSure "sure_values" (defScope sSure) f cdv A outer s H E) (fun cls d _ H => E cls d H) := takes_of rfl rfl rfl rfl
    refine ⟨_, pss_cons (ps_if (pt_not (pt_val (pe_call GS hr (by rfl) gS kS bS .nil pass0 (pa_cons (pv 1) (pa_cons (pe_fld (pv 0) rfl) pa_nil)))))
      (pss_one (ps_raise rfl tk (pmk_oex X.r.oe X.r.ini X.r.fn GX hr bX .nil pass0 (by rfl) X.why.mR (pa_cons (pv 1) pa_nil)))) pss_nil) (pss_cons ps_never (pss_cons ps_never (pss_one ps_never))), ?_⟩
    have rowS : ∀ {H1 : Hp}, Same H H1 → Row CR E H1 v := fun s d H' s2 e => row d H' (s.trans s2) e
    refine ⟨_, rfl, _, rfl, x, C, dg, _, _, rfl, x1, T.cl, T.nL, flds_L _ _, ?_⟩
    rcases h with ⟨d, hd, lz, e⟩ | ⟨a, kvs, rfl, ha⟩
    · refine .inl ⟨v, n, d, rfl, hd, lz, fun H1 s1 => ⟨_, rfl, ?_⟩⟩
      rw [e]
      exact iteT (mk_row (te := tVar 1) (fun R r => ⟨_, rfl, r⟩) (rowS s1))
    · exact .inr ⟨a, kvs, n, rfl, ha, fun H1 s1 => ⟨_, rfl, iteT (mk_row (te := tVar 1) (fun R r => ⟨_, rfl, r⟩) (rowS s1))⟩⟩
end
end Sv
namespace Sw
open PySem PySem.Spec PyProof.Rows L2 Pen Dat Ki Fi Gr No Lf Su
/-! ## The law's own sure values and rows of 0, 1 and None -/
def TuO (K : PySem.W.Frag) (H : Hp) (v : V) (r : Opts) : Prop := ∃ q, v = .ref q ∧ H q = some (.tup (r.map oV))
theorem TuO.firm {K : PySem.W.Frag} {H H' : Hp} {v : V} {r : Opts} (s : Firm H H') (h : TuO K H v r) : TuO K H' v r := let ⟨q, e, h⟩ := h; ⟨q, e, s _ _ h rfl⟩
def spBitO (K : PySem.W.Frag) : Sp := fun vs H Q _ => ∃ (l : Addr) (f : Opts) (a x : Int), vs = [.ref l, .int a] ∧ SqL K H l (f.map oV) ∧ 0 ≤ a ∧ (a / 2).toNat < f.length ∧ f.getD (a / 2).toNat none = some x ∧ Q (.int (ab (x - a % 2))) H
def spOwnS (K : PySem.W.Frag) : Sp := fun vs H Q _ => ∃ (u : V) (g r : Addr) (gs : List (Int × Int)) (bs : Opts), vs = [u, .ref g, .ref r] ∧ GT K H g gs ∧ H r = some (.tup (bs.map oV)) ∧ S01 bs ∧ okG (2 * bs.length + 1) gs = true ∧ bs.length ≤ 500 ∧ gs.length ≤ 500 ∧
  ∀ (H' : Hp) (t : Addr), Same H H' → H' t = some (.tup ((sures bs gs).map oV)) → Q (.ref t) H'
def spThree (K : PySem.W.Frag) : Sp := fun vs H Q _ => ∃ (p c : Addr) (k : Nat) (n : Int), vs = [.ref p, .int n] ∧ PenC H p c k ∧ k ≤ 100000000000 ∧ 0 ≤ n ∧ n ≤ 6 ∧
  ∀ (H' : Hp) (l : Addr) (ws : List V) (rs : List Opts), PenC H' p c (k + 72) → But p H H' → H' l = some (.lst ws) → All2 (TuO K H') ws rs → (∀ r ∈ rs, r.length = n.toNat ∧ S01 r) → rs.length ≤ 81 → Q (.ref l) H'
theorem catA_use {K : PySem.W.Frag} {H : Hp} {x y : Addr} {xs ys : List V} {Q : VK} (hx : SqT K H x xs) (hy : H y = some (.tup ys)) (ne : ys ≠ []) (len : xs.length + ys.length ≤ sizeLine) (q : ∀ t H', Same H H' → H' t = some (.tup (xs ++ ys)) → Q (.ref t) H') : rCatA K (.ref x) (.ref y) H Q :=
  ⟨x, y, xs, ys, rfl, rfl, hx, .inl (.inl hy), len, fun e => q y H (fun _ _ e => e) (by rw [e]; exact hy), fun _ e => absurd e ne, fun _ _ t nt => q t _ (same_new nt) upd_same⟩
theorem sides_key {x y : Option Int} (hx : O01 x) (hy : O01 y) : (inV (.int 0) [oV x, oV y] = true ∧ andS x y = some 0) ∨ (inV (.int 0) [oV x, oV y] = false ∧ inV .non [oV x, oV y] = true ∧ andS x y = none) ∨ (inV (.int 0) [oV x, oV y] = false ∧ inV .non [oV x, oV y] = false ∧ andS x y = some 1) := by
  rcases hx with rfl | rfl | rfl <;> rcases hy with rfl | rfl | rfl <;> first | exact .inl ⟨rfl, rfl⟩ | exact .inr (.inl ⟨rfl, rfl, rfl⟩) | exact .inr (.inr ⟨rfl, rfl, rfl⟩)
theorem len0 : ([] : List V).length ≤ sizeLine := Nat.zero_le _
theorem flat_oV (x : Option Int) : flatV (oV x) = true := by cases x <;> rfl
theorem half_of {a : Int} (h : 0 ≤ a) : a / 2 = (((a / 2).toNat : Nat) : Int) := by omega
section
variable {P : Program} {w : World} {K : PySem.W.Frag} {mg : Str → Option Value} {base : Heap} {f : Addr} {fd : FuncData}
abbrev nOwnS : List Str := ["_law_leaves", "_law_gates", "_law_bits", "_law_found", "_law_gate", "_law_sides", "_law_literal", "_law_value"]
theorem scOwnS : FnScope nOwnS ["_law_leaves", "_law_gates", "_law_bits"] (defScope sOwnS) := ⟨rfl, rfl, rfl, by decide +kernel, rfl, by decide +kernel, by decide +kernel⟩
abbrev nThree : List Str := ["_law_pen_here", "_law_leaves", "_law_rows_here", "_law_turn", "_law_k", "_law_row"]
theorem scThree : FnScope nThree ["_law_pen_here", "_law_leaves"] (defScope sThree) := ⟨rfl, rfl, rfl, by decide +kernel, rfl, by decide +kernel, by decide +kernel⟩
theorem ok_bitO (F : FnP K "_law_bit" sBit f fd) (T : Lf.Tx mg) : FnOk P w K mg base CX0 1 f fd ["_law_found", "_law_literal"] (spBitO K) := by
  refine F.ok scBit (fun vs H Q E h => ?_) (fun cdv A outer s H vs Q E hr h => ?_)
  · obtain ⟨l, f, a, x, rfl, _⟩ := h
    rfl
  · obtain ⟨l, f, a, x, rfl, hl, ha, hz, hx, q⟩ := h
    refine ⟨_, PSs.nox (pss_one (ps_ret (pe_callB call_abs (by rfl) T.abs (by decide +kernel) (pa_cons (pe_op op_sub (pe_ix ix_list (pv 0) (pe_op op_fdiv (pv 1) pe_int) (fun _ _ => rfl))
      (pe_op op_mod (pe_callTy call_int1 (by rfl) T.pen.int (by decide +kernel) (pa_cons (pv 1) pa_nil)) pe_int)) pa_nil)))), ?_⟩
    refine ⟨_, rfl, _, rfl, _, _, rfl, rfl, ⟨by decide, by decide⟩, l, _, _, _, rfl, rfl, hl, at_of (half_of ha) (getO hz), _, rfl, .inl ⟨_, rfl, _, _, rfl, rfl, (by show (0 : Int) < 2; decide), _, _, ?_, rfl, _, rfl, q⟩⟩
    rw [hx]
    rfl
theorem ok_owns (F : FnP K "_law_own_sure" sOwnS f fd) (T : Lf.Tx mg)
    {fB : Addr} {dB : FuncData}
    (GB : FnOk P w K mg base CX0 1 fB dB ["_law_found", "_law_literal"] (spBitO K)) (gB : mg "_law_bit" = some (.ref fB)) (kB : PySem.W.keepIn K (.ref fB) = true) (bB : Binds K dB ["_law_found", "_law_literal"] [])
    : FnOk P w K mg base CX0 2 f fd ["_law_leaves", "_law_gates", "_law_bits"] (spOwnS K) := by
  refine F.ok scOwnS (fun vs H Q E h => ?_) (fun cdv A outer s H vs Q E hr h => ?_)
  · obtain ⟨u, g, r, gs, bs, rfl, _⟩ := h
    rfl
  · obtain ⟨u, g, r, gs, bs, rfl, hG, hB, hb, hok, hz1, hz2, q⟩ := h
    obtain ⟨ps, hg, ha⟩ := id hG
    refine ⟨_, PSs.nox (pss_cons (ps_set (i := 3) scOwnS.nd rfl (Or.inl rfl) (pe_op op_cat (pe_lst (pa_cons pe_int pa_nil)) (pe_callTy call_list_of (by rfl) T.pen.list (by decide +kernel) (pa_cons (pv 2) pa_nil))))
      (pss_cons (ps_for PassesOwn.never rfl (pi_tup (pv 1)) (pg_name (i := 4) scOwnS.nd rfl (Or.inl rfl))
        (pss_cons (ps_set (i := 5) scOwnS.nd rfl (Or.inl rfl) (pe_lst pa_nil))
        (pss_cons (ps_for PassesOwn.never rfl (pi_tup (pv 4)) (pg_name (i := 6) scOwnS.nd rfl (Or.inl rfl))
          (pss_cons (ps_set (i := 7) scOwnS.nd rfl (Or.inl rfl) (pe_ix ix_list (pv 3) (pe_op op_fdiv (pv 6) pe_int) (fun _ _ => rfl)))
          (pss_one (ps_expr (pe_bm PySem.F.plainAttrs_list PySem.F.slot_list_append PySem.F.type_list_append mt_append (pv 5) (pa_cons (pe_ifExp (pt_cmpR op_isN (pv 7) pe_non (nomark _)) (pv 7) (pe_call GB (hr.mono (by decide)) (by rfl) gB kB bB .nil pass0 (pa_cons (pv 3) (pa_cons (pv 6) pa_nil)))) pa_nil))))))
        (pss_one (ps_expr (pe_bm PySem.F.plainAttrs_list PySem.F.slot_list_append PySem.F.type_list_append mt_append (pv 3) (pa_cons (pe_ifExp (pt_cmpR (r := rIn K false) (by exact op_in_seq) pe_int (pv 5) (by rfl)) pe_int (pe_ifExp (pt_cmpR (r := rIn K false) (by exact op_in_seq) pe_non (pv 5) (by rfl)) pe_non pe_int)) pa_nil)))))))
      (pss_one (ps_ret (pe_callTy (T := "tuple") (r := rTupOf K) (by exact call_tuple_of) (by rfl) T.tuple (by decide +kernel) (pa_cons (pv 3) pa_nil)))))), ?_⟩
    refine ⟨(by show 1 ≤ sizeLine; decide), fun l1 n1 => ?_⟩
    have s1 : Same H (upd H l1 (.lst [.int 0])) := same_new n1
    refine ⟨_, rfl, r, _, rfl, .inr (SqT.of (s1 _ _ hB)), fun l2 n2 => ?_⟩
    have s2 := same_new (u := .lst (bs.map oV)) n2
    refine ⟨_, _, _, _, rfl, rfl, s2 _ _ upd_same, upd_same, ?_, fun l n3 => ?_⟩
    · rw [List.length_map]
      show 1 + bs.length ≤ sizeLine
      exact Nat.le_trans (by omega : 1 + bs.length ≤ 501) (by decide)
    have s3 := same_new (u := .lst ([V.int 0] ++ bs.map oV)) n3
    have s123 := s1.trans (s2.trans s3)
    have nl : H l = none := (s1.trans s2).free n3
    generalize hH : upd _ l _ = H1 at s123
    have h1 : H1 l = some (.lst ((sures bs []).map oV)) := by
      rw [← hH, upd_same]
      rfl
    clear hH s3 n3
    refine ⟨_, rfl, g, rfl, ⟨_, seqT_same s123 hg⟩, for_tup (K := K) (a := g) (xs := ps)
      (fun i σ H2 => ∃ x4 x5 x6 x7 : Option V, σ = [some u, some (.ref g), some (.ref r), some (.ref l), x4, x5, x6, x7] ∧ Same H H2 ∧ H2 l = some (.lst ((sures bs (gs.take i)).map oV)))
      ⟨none, none, none, none, rfl, s123, h1⟩ (fun i σ H2 _ ⟨_, _, _, _, _, z, _⟩ => seqT_same z hg) ?_ ?_⟩
    · rintro i x σ H2 hi ⟨x4, x5, x6, x7, rfl, z2, h2⟩
      obtain ⟨z, hz, hx⟩ := ha.get hi
      obtain ⟨q0, rfl, hq⟩ := hx
      have hi2 : i < gs.length := (List.getElem?_eq_some_iff.mp hz).1
      obtain ⟨⟨a0, a1⟩, b0, b1⟩ := okG_at hok hz
      have lv : (sures bs (gs.take i)).length = bs.length + 1 + i := by
        rw [sures_len, List.length_take, Nat.min_eq_left (Nat.le_of_lt hi2)]
      have v01 := sures_S (gs.take i) hb
      refine ⟨len0, fun sd nsd => ?_⟩
      have ss := same_new (u := .lst []) nsd
      have hq2 := seqT_same (z2.trans ss) hq
      refine ⟨_, rfl, q0, rfl, ⟨_, hq2⟩, for_tup (K := K) (a := q0) (xs := [V.int z.1, V.int z.2])
        (fun j σ H3 => ∃ x6 x7 : Option V, σ = [some u, some (.ref g), some (.ref r), some (.ref l), some (.ref q0), some (.ref sd), x6, x7] ∧ Same H2 H3 ∧ H3 sd = some (.lst (([z.1, z.2].take j).map fun a => oV (litS (sures bs (gs.take i)) a))))
        ⟨x6, x7, rfl, ss, upd_same⟩ (fun j σ H3 _ ⟨_, _, _, s3, _⟩ => seqT_same (z2.trans s3) hq) ?_ ?_⟩
      · rintro j x σ H3 hj ⟨y6, y7, rfl, s3, h3⟩
        obtain ⟨a, rfl, hja, ha0, ha1⟩ : ∃ a : Int, x = V.int a ∧ [z.1, z.2][j]? = some a ∧ 0 ≤ a ∧ (a / 2).toNat < (sures bs (gs.take i)).length := by
          match j, hj with
          | 0, hj => exact ⟨z.1, by simpa using hj.symm, rfl, a0, by omega⟩
          | 1, hj => exact ⟨z.2, by simpa using hj.symm, rfl, b0, by omega⟩
          | j + 2, hj => simp at hj
        have hl3 := s3 _ _ h2
        have key : ∀ H4, H4 = H3 → ∀ v, v = oV (litS (sures bs (gs.take i)) a) → ∀ y7 : Option V, ∃ (l' : Addr) (xs : List V) (y : V), [V.ref sd, v] = [V.ref l', y] ∧ H4 l' = some (.lst xs) ∧ xs.length < sizeLine ∧ ∃ y6 y7' : Option V, [some u, some (.ref g), some (.ref r), some (.ref l), some (.ref q0), some (.ref sd), some (.int a), y7] = [some u, some (.ref g), some (.ref r), some (.ref l), some (.ref q0), some (.ref sd), y6, y7'] ∧ Same H2 (upd H4 l' (.lst (xs ++ [y]))) ∧ upd H4 l' (.lst (xs ++ [y])) sd = some (.lst (([z.1, z.2].take (j + 1)).map fun a => oV (litS (sures bs (gs.take i)) a))) := by
          rintro H4 rfl v rfl y7
          refine ⟨sd, _, _, rfl, h3, ?_, some (.int a), y7, rfl, fun b o e => ?_, ?_⟩
          · rw [List.length_map, List.length_take]
            exact Nat.lt_of_le_of_lt (Nat.min_le_right _ _) (by show 2 < sizeLine; decide)
          · rw [upd_ne (ne_of_none e nsd)]
            exact s3 _ _ e
          · rw [upd_same, take_more hja, List.map_append]
            rfl
        refine ⟨_, rfl, _, rfl, _, _, rfl, rfl, ⟨by decide, by decide⟩, l, _, _, _, rfl, rfl, SqL.of hl3, at_of (half_of ha0) (getO ha1), ?_⟩
        refine ⟨_, rfl, .inl ⟨rfl, _, SqL.of h3⟩, ?_⟩
        cases e : (sures bs (gs.take i)).getD (a / 2).toNat none with
        | none =>
          refine ⟨_, rfl, rfl, _, rfl, iteT ⟨_, rfl, ?_⟩⟩
          obtain ⟨l', xs, y, e1, e2, e3, y6, y7', e4, e5, e6⟩ := key _ rfl .non (by unfold litS; rw [e]; rfl) (some .non)
          cases e1
          exact ⟨_, _, _, rfl, rfl, e2, e3, _, _, rfl, e5, e6⟩
        | some x =>
          refine ⟨_, rfl, rfl, _, rfl, iteF ⟨_, rfl, _, rfl, l, _, a, x, rfl, SqL.of hl3, ha0, ha1, e, ?_⟩⟩
          obtain ⟨l', xs, y, e1, e2, e3, y6, y7', e4, e5, e6⟩ := key _ rfl (.int (ab (x - a % 2))) (by unfold litS; rw [e]; rfl) (some (.int x))
          cases e1
          exact ⟨_, _, _, rfl, rfl, e2, e3, _, _, rfl, e5, e6⟩
      · rintro σ H3 ⟨y6, y7, rfl, s3, h3⟩
        have h3' : H3 sd = some (.lst [oV (litS (sures bs (gs.take i)) z.1), oV (litS (sures bs (gs.take i)) z.2)]) := h3
        have hl3 := s3 _ _ h2
        have key : ∀ v, v = oV (andS (litS (sures bs (gs.take i)) z.1) (litS (sures bs (gs.take i)) z.2)) → Same H (upd H3 l (.lst ((sures bs (gs.take i)).map oV ++ [v]))) ∧ upd H3 l (.lst ((sures bs (gs.take i)).map oV ++ [v])) l = some (.lst ((sures bs (gs.take (i + 1))).map oV)) := by
          rintro v rfl
          refine ⟨fun b o e => ?_, ?_⟩
          · rw [upd_ne (ne_of_none e nl)]
            exact s3 _ _ (z2 _ _ e)
          · rw [upd_same, sures_take bs hz]
            unfold stepS
            rw [List.map_append]
            rfl
        have hlen : ((sures bs (gs.take i)).map oV).length < sizeLine := by
          rw [List.length_map, lv]
          exact Nat.lt_of_lt_of_le (by omega : bs.length + 1 + i < 1002) (by decide)
        have hfl : [oV (litS (sures bs (gs.take i)) z.1), oV (litS (sures bs (gs.take i)) z.2)].all flatV = true := by
          show (flatV _ && (flatV _ && true)) = true
          rw [flat_oV, flat_oV]
          rfl
        refine ⟨_, rfl, .inl ⟨rfl, _, SqL.of hl3⟩, ?_⟩
        refine ⟨_, rfl, sd, _, rfl, .inl (SqL.of h3'), rfl, hfl, ?_⟩
        rcases sides_key (litS_S v01 z.1) (litS_S v01 z.2) with ⟨k1, k2⟩ | ⟨k1, k2, k3⟩ | ⟨k1, k2, k3⟩
        · obtain ⟨e5, e6⟩ := key (.int 0) (by rw [k2]; rfl)
          refine ⟨_, rfl, ?_⟩
          rw [show (if false = true then !inV (V.int 0) [oV (litS (sures bs (gs.take i)) z.1), oV (litS (sures bs (gs.take i)) z.2)] else inV (V.int 0) [oV (litS (sures bs (gs.take i)) z.1), oV (litS (sures bs (gs.take i)) z.2)]) = true from k1]
          exact iteT ⟨_, _, _, rfl, rfl, hl3, hlen, _, _, _, _, rfl, e5, e6⟩
        · obtain ⟨e5, e6⟩ := key .non (by rw [k3]; rfl)
          refine ⟨_, rfl, ?_⟩
          rw [show (if false = true then !inV (V.int 0) [oV (litS (sures bs (gs.take i)) z.1), oV (litS (sures bs (gs.take i)) z.2)] else inV (V.int 0) [oV (litS (sures bs (gs.take i)) z.1), oV (litS (sures bs (gs.take i)) z.2)]) = false from k1]
          refine iteF ⟨_, rfl, sd, _, rfl, .inl (SqL.of h3'), rfl, hfl, _, rfl, ?_⟩
          rw [show (if false = true then !inV V.non [oV (litS (sures bs (gs.take i)) z.1), oV (litS (sures bs (gs.take i)) z.2)] else inV V.non [oV (litS (sures bs (gs.take i)) z.1), oV (litS (sures bs (gs.take i)) z.2)]) = true from k2]
          exact iteT ⟨_, _, _, rfl, rfl, hl3, hlen, _, _, _, _, rfl, e5, e6⟩
        · obtain ⟨e5, e6⟩ := key (.int 1) (by rw [k3]; rfl)
          refine ⟨_, rfl, ?_⟩
          rw [show (if false = true then !inV (V.int 0) [oV (litS (sures bs (gs.take i)) z.1), oV (litS (sures bs (gs.take i)) z.2)] else inV (V.int 0) [oV (litS (sures bs (gs.take i)) z.1), oV (litS (sures bs (gs.take i)) z.2)]) = false from k1]
          refine iteF ⟨_, rfl, sd, _, rfl, .inl (SqL.of h3'), rfl, hfl, _, rfl, ?_⟩
          rw [show (if false = true then !inV V.non [oV (litS (sures bs (gs.take i)) z.1), oV (litS (sures bs (gs.take i)) z.2)] else inV V.non [oV (litS (sures bs (gs.take i)) z.1), oV (litS (sures bs (gs.take i)) z.2)]) = false from k2]
          exact iteF ⟨_, _, _, rfl, rfl, hl3, hlen, _, _, _, _, rfl, e5, e6⟩
    · rintro σ H2 ⟨x4, x5, x6, x7, rfl, z2, h2⟩
      rw [ha.len, List.take_length] at h2
      exact ⟨_, rfl, l, _, rfl, .inl ⟨SqL.of h2, fun t nt => q _ t (z2.trans (same_new nt)) upd_same⟩⟩
theorem ok_three (F : FnP K "_law_three_rows" sThree f fd) (T : Lf.Tx mg)
    {fK : Addr} {dK : FuncData}
    (GK : FnOk P w K mg base CX0 2 fK dK ["_law_pen_here", "_law_some"] (spPick K)) (gK : mg "_law_pick" = some (.ref fK)) (kK : PySem.W.keepIn K (.ref fK) = true) (bK : Binds K dK ["_law_pen_here", "_law_some"] [])
    : FnOk P w K mg base CX0 3 f fd ["_law_pen_here", "_law_leaves"] (spThree K) := by
  refine F.ok scThree (fun vs H Q E h => ?_) (fun cdv A outer s H vs Q E hr h => ?_)
  · obtain ⟨p, c, k, n, rfl, _⟩ := h
    rfl
  · obtain ⟨p, c, k, n, rfl, hP, hk, n0, n6, q⟩ := h
    refine ⟨_, PSs.nox (pss_cons (ps_set (i := 2) scThree.nd rfl (Or.inl rfl) (pe_lst pa_nil))
      (pss_cons (ps_if (pt_cmpR op_gt (pv 1) pe_int (nomark _))
        (pss_cons (ps_for PassesOwn.never rfl (pi_range1 (by rfl) T.range (pa_cons pe_int pa_nil)) (pg_name (i := 3) scThree.nd rfl (Or.inl rfl))
          (pss_one (ps_expr (pe_bm PySem.F.plainAttrs_list PySem.F.slot_list_append PySem.F.type_list_append mt_append (pv 2) (pa_cons (pe_callTy (T := "tuple") (r := rTupOf K) (by exact call_tuple_of) (by rfl) T.tuple (by decide +kernel) (pa_cons (pe_lc (own := [("_law_k", 4)]) (g := gName 4) (tt := tYes) rfl scThree.nd (pi_range1 (by rfl) T.range (pa_cons (pv 1) pa_nil)) (blkOk_by (N := nThree) (sc := defScope sThree) (by decide +kernel)) (fun _ _ _ _ _ => pg_name (i := 4) scThree.nd rfl (Or.inl rfl)) (fun _ _ _ _ _ => pts_nil) (fun _ _ _ _ _ => (pe_call GK hr (by rfl) gK kK bK .nil pass0 (pa_cons (pv 0) (pa_cons (pe_lst (pa_cons pe_int (pa_cons pe_int (pa_cons pe_non pa_nil)))) pa_nil))))) pa_nil)) pa_nil)))))
        (pss_one (ps_ret (pv 2))))
        pss_nil)
      (pss_cons (ps_set (i := 2) scThree.nd rfl (Or.inl rfl) (pe_lst (pa_cons (pe_tup pa_nil) pa_nil)))
      (pss_cons (ps_for PassesOwn.never rfl (pi_range1 (by rfl) T.range (pa_cons (pv 1) pa_nil)) (pg_name (i := 4) scThree.nd rfl (Or.inl rfl))
        (pss_one (ps_set (i := 2) scThree.nd rfl (Or.inl rfl) (pe_op op_cat (pe_op op_cat (pe_lc (own := [("_law_row", 5)]) (g := gName 5) (tt := tYes) rfl scThree.nd (pi_list (pv 2)) (blkOk_by (N := nThree) (sc := defScope sThree) (by decide +kernel)) (fun _ _ _ _ _ => pg_name (i := 5) scThree.nd rfl (Or.inl rfl)) (fun _ _ _ _ _ => pts_nil) (fun _ _ _ _ _ => (pe_op (r := rCatA K) (by exact op_catA) (pv 5) (pe_tup (pa_cons pe_int pa_nil))))) (pe_lc (own := [("_law_row", 5)]) (g := gName 5) (tt := tYes) rfl scThree.nd (pi_list (pv 2)) (blkOk_by (N := nThree) (sc := defScope sThree) (by decide +kernel)) (fun _ _ _ _ _ => pg_name (i := 5) scThree.nd rfl (Or.inl rfl)) (fun _ _ _ _ _ => pts_nil) (fun _ _ _ _ _ => (pe_op (r := rCatA K) (by exact op_catA) (pv 5) (pe_tup (pa_cons pe_int pa_nil)))))) (pe_lc (own := [("_law_row", 5)]) (g := gName 5) (tt := tYes) rfl scThree.nd (pi_list (pv 2)) (blkOk_by (N := nThree) (sc := defScope sThree) (by decide +kernel)) (fun _ _ _ _ _ => pg_name (i := 5) scThree.nd rfl (Or.inl rfl)) (fun _ _ _ _ _ => pts_nil) (fun _ _ _ _ _ => (pe_op (r := rCatA K) (by exact op_catA) (pv 5) (pe_tup (pa_cons pe_non pa_nil)))))))))
      (pss_one (ps_ret (pv 2))))))), ?_⟩
    refine ⟨len0, fun l0 nl0 => ?_⟩
    have s0 := same_new (u := .lst []) nl0
    refine ⟨_, rfl, _, _, rfl, rfl, _, rfl, ite2 (fun _ => ?_) (fun h4 => ?_)⟩
    · have P0 := hP.same s0
      have lp : l0 ≠ p := (hP.free nl0).1
      have lc : l0 ≠ c := (hP.free nl0).2
      refine ⟨12, rfl, by decide, by decide, for_range (lo := 0) (n := 12)
        (fun i σ H2 => ∃ (x3 : Option V) (zs : List V) (rs : List Opts), σ = [some (.ref p), some (.int n), some (.ref l0), x3, none, none] ∧ PenC H2 p c (k + 6 * i) ∧ But p H H2 ∧ H2 l0 = some (.lst zs) ∧ All2 (TuO K H2) zs rs ∧ (∀ r ∈ rs, r.length = n.toNat ∧ S01 r) ∧ rs.length = i)
        ⟨none, [], [], rfl, P0, But.of_same s0, upd_same, .nil, (fun r h => by cases h), rfl⟩ ?_ ?_⟩
      · rintro i σ H2 hi ⟨x3, zs, rs, rfl, P2, B2, h2, a2, m2, e2⟩
        refine ⟨_, rfl, .inl ⟨rfl, _, SqL.of h2⟩, ?_⟩
        refine ⟨_, rfl, n, rfl, by omega, by omega, fun D nD => ?_⟩
        obtain ⟨Dp1, Dc1⟩ := P2.free nD
        refine lc_range (lo := 0) (n := n.toNat) (fun j H3 => PenC H3 p c (k + 6 * i + j) ∧ But p H2 H3 ∧ ∃ f : Opts, H3 D = some (.lst (f.map oV)) ∧ f.length = j ∧ S01 f)
          ⟨P2.same (same_new nD), But.of_same (same_new nD), [], upd_same, rfl, (fun z h => by cases h)⟩ ?_ ?_
        · rintro j H3 hj ⟨P3, B3, f, h3, e3, f3⟩
          refine ⟨rfl, yes_of ?_⟩
          refine ⟨_, rfl, (by show 3 ≤ sizeLine; decide), fun l3 nl3 => ?_⟩
          have s3 := same_new (u := .lst [V.int 0, V.int 1, V.non]) nl3
          have P4 := P3.same s3
          refine ⟨p, c, l3, _, _, rfl, P4, by omega, (P3.free nl3).1, SqL.of upd_same, (by show 0 < 3; decide), (by show 3 ≤ 1000; decide), fun v m H5 hv P5 B5 => ?_⟩
          have h5 := B5 _ _ (s3 _ _ h3) Dp1
          obtain ⟨z, rfl, hz⟩ : ∃ z : Option Int, v = oV z ∧ O01 z := by
            match m, hv with
            | 0, hv => exact ⟨some 0, (Option.some.inj hv).symm, .inr (.inl rfl)⟩
            | 1, hv => exact ⟨some 1, (Option.some.inj hv).symm, .inr (.inr rfl)⟩
            | 2, hv => exact ⟨none, (Option.some.inj hv).symm, .inl rfl⟩
            | m + 3, hv => simp at hv
          refine ⟨_, h5, ?_, P5.upd Dp1 Dc1, fun b o e ne => ?_, f ++ [z], ?_, by rw [List.length_append, e3]; rfl, fun y hy => ?_⟩
          · rw [List.length_map, e3]
            exact Nat.lt_of_lt_of_le (by omega : j < 7) (by decide)
          · rw [upd_ne (ne_of_none e nD)]
            exact B5 _ _ (s3 _ _ (B3 _ _ e ne)) ne
          · rw [upd_same, List.map_append]
            rfl
          · rcases List.mem_append.mp hy with hy | hy
            · exact f3 y hy
            · rw [List.mem_singleton.mp hy]
              exact hz
        · rintro H3 ⟨P3, B3, f, h3, e3, f3⟩
          refine ⟨D, _, rfl, .inl ⟨SqL.of h3, fun t nt => ?_⟩⟩
          have st := same_new (u := .tup (f.map oV)) nt
          have h4 := st _ _ (B3 _ _ h2 lp)
          have fi : Firm H2 (upd H3 t (.tup (f.map oV))) := (Firm.pen B3 P2).trans (Firm.of st)
          refine ⟨l0, _, _, rfl, rfl, h4, ?_, ?_⟩
          · rw [a2.len, e2]
            exact Nat.lt_of_lt_of_le (by omega : i < 12) (by decide)
          · have fl : Firm (upd H3 t (.tup (f.map oV))) (upd (upd H3 t (.tup (f.map oV))) l0 (.lst (zs ++ [.ref t]))) := Firm.upd h4 rfl
            refine ⟨_, zs ++ [.ref t], rs ++ [f], rfl, ((P3.same st).upd lp lc).more (by omega), fun b o e ne => ?_, upd_same, (a2.imp fun _ _ h => (h.firm fi).firm fl).snoc ⟨t, rfl, fl _ _ upd_same rfl⟩, fun r hr => ?_, by rw [List.length_append, e2]; rfl⟩
            · rw [upd_ne (ne_of_none e nl0)]
              exact st _ _ (B3 _ _ (B2 _ _ e ne) ne)
            · rcases List.mem_append.mp hr with hr | hr
              · exact m2 r hr
              · rw [List.mem_singleton.mp hr]
                exact ⟨e3, f3⟩
      · rintro σ H2 ⟨x3, zs, rs, rfl, P2, B2, h2, a2, m2, e2⟩
        exact ⟨_, rfl, q _ l0 zs rs (P2.more (by omega)) B2 h2 a2 m2 (by omega)⟩
    · have n4 : n ≤ 4 := by
        rcases Int.lt_or_le 4 n with z | z
        · exact absurd (decide_eq_true (show n > 4 from z)) h4
        · exact z
      refine ⟨len0, fun t nt => ⟨(by show 1 ≤ sizeLine; decide), fun l nl => ?_⟩⟩
      have s1 := same_new (u := .tup []) nt
      have s2 := same_new (u := .lst [.ref t]) nl
      refine ⟨_, rfl, n, rfl, by omega, by omega, for_range (lo := 0) (n := n.toNat)
        (fun i σ H2 => ∃ (x4 : Option V) (l : Addr) (zs : List V) (rs : List Opts), σ = [some (.ref p), some (.int n), some (.ref l), none, x4, none] ∧ Same H H2 ∧ H2 l = some (.lst zs) ∧ All2 (TuO K H2) zs rs ∧ (∀ r ∈ rs, r.length = i ∧ S01 r) ∧ rs.length ≤ 3 ^ i)
        ⟨none, l, [.ref t], [[]], rfl, s0.trans (s1.trans s2), upd_same, .cons ⟨t, rfl, s2 _ _ upd_same⟩ .nil, (fun r h => by rw [List.mem_singleton.mp h]; exact ⟨rfl, fun z h => by cases h⟩), Nat.le_refl _⟩ ?_ ?_⟩
      · rintro i σ H2 hi ⟨x4, l, zs, rs, rfl, s2, h2, a2, m2, e2⟩
        have hi4 : i < 4 := by omega
        have r81 : rs.length ≤ 81 := Nat.le_trans e2 (Nat.le_trans (Nat.pow_le_pow_right (by decide) (by omega : i ≤ 4)) (by decide))
        refine ⟨_, rfl, l, rfl, ⟨_, SqL.of h2⟩, fun D1 nD1 => ?_⟩
        refine lc_list (K := K) (a := l) (xs := zs) (fun j H' => Same H2 H' ∧ ∃ us, H' D1 = some (.lst us) ∧ All2 (TuO K H') us ((rs.take j).map (· ++ [some 0]))) ⟨same_new nD1, [], upd_same, .nil⟩ (fun j H' _ ⟨s, _⟩ => SqL.of (s _ _ h2)) ?_ ?_
        · rintro j x H' hj ⟨s, us, hu, au⟩
          obtain ⟨r0, hr0, q0, rfl, hq0⟩ := a2.get hj
          have hq1 := s _ _ (hq0)
          refine ⟨rfl, yes_of ?_⟩
          refine ⟨_, rfl, (by show 1 ≤ sizeLine; decide), fun t1 nt1 => ?_⟩
          have st := same_new (u := .tup [V.int 0]) nt1
          refine catA_use (SqT.of (st _ _ hq1)) upd_same (by simp) ?_ fun t2 H'' s' ht => ?_
          · rw [List.length_map, (m2 r0 (List.mem_of_getElem? hr0)).1]
            exact Nat.le_trans (by show i + 1 ≤ 5; omega) (by decide)
          have hu2 := s' _ _ (st _ _ hu)
          have fi : Firm H' (upd H'' D1 (.lst (us ++ [.ref t2]))) := (Firm.of (st.trans s')).trans (Firm.upd hu2 rfl)
          refine ⟨us, hu2, ?_, fun b o e => ?_, us ++ [.ref t2], upd_same, ?_⟩
          · rw [au.len, List.length_map, List.length_take]
            exact Nat.lt_of_le_of_lt (Nat.min_le_right _ _) (Nat.lt_of_le_of_lt r81 (by decide))
          · rw [upd_ne (ne_of_none e nD1)]
            exact s' _ _ (st _ _ (s _ _ e))
          · rw [take_more hr0, List.map_append]
            refine (au.imp fun _ _ h => h.firm fi).snoc ⟨t2, rfl, ?_⟩
            have ne2 : t2 ≠ D1 := fun z => by
              rw [z, hu2] at ht
              cases ht
            rw [upd_ne ne2, ht, List.map_append]
            rfl
        rintro H3 ⟨s3, us1, h3, a3⟩
        rw [a2.len, List.take_length] at a3
        refine ⟨_, rfl, l, rfl, ⟨_, SqL.of (s3 _ _ h2)⟩, fun D2 nD2 => ?_⟩
        refine lc_list (K := K) (a := l) (xs := zs) (fun j H' => Same H3 H' ∧ ∃ us, H' D2 = some (.lst us) ∧ All2 (TuO K H') us ((rs.take j).map (· ++ [some 1]))) ⟨same_new nD2, [], upd_same, .nil⟩ (fun j H' _ ⟨s, _⟩ => SqL.of (s _ _ (s3 _ _ h2))) ?_ ?_
        · rintro j x H' hj ⟨s, us, hu, au⟩
          obtain ⟨r0, hr0, q0, rfl, hq0⟩ := a2.get hj
          have hq1 := s _ _ (s3 _ _ hq0)
          refine ⟨rfl, yes_of ?_⟩
          refine ⟨_, rfl, (by show 1 ≤ sizeLine; decide), fun t1 nt1 => ?_⟩
          have st := same_new (u := .tup [V.int 1]) nt1
          refine catA_use (SqT.of (st _ _ hq1)) upd_same (by simp) ?_ fun t2 H'' s' ht => ?_
          · rw [List.length_map, (m2 r0 (List.mem_of_getElem? hr0)).1]
            exact Nat.le_trans (by show i + 1 ≤ 5; omega) (by decide)
          have hu2 := s' _ _ (st _ _ hu)
          have fi : Firm H' (upd H'' D2 (.lst (us ++ [.ref t2]))) := (Firm.of (st.trans s')).trans (Firm.upd hu2 rfl)
          refine ⟨us, hu2, ?_, fun b o e => ?_, us ++ [.ref t2], upd_same, ?_⟩
          · rw [au.len, List.length_map, List.length_take]
            exact Nat.lt_of_le_of_lt (Nat.min_le_right _ _) (Nat.lt_of_le_of_lt r81 (by decide))
          · rw [upd_ne (ne_of_none e nD2)]
            exact s' _ _ (st _ _ (s _ _ e))
          · rw [take_more hr0, List.map_append]
            refine (au.imp fun _ _ h => h.firm fi).snoc ⟨t2, rfl, ?_⟩
            have ne2 : t2 ≠ D2 := fun z => by
              rw [z, hu2] at ht
              cases ht
            rw [upd_ne ne2, ht, List.map_append]
            rfl
        rintro H4 ⟨s4, us2, h4, a4⟩
        rw [a2.len, List.take_length] at a4
        have l1 := a3.len
        have l2 := a4.len
        have h3' := s4 _ _ h3
        refine ⟨D1, D2, _, _, rfl, rfl, h3', h4, ?_, fun t3 nt3 => ?_⟩
        · rw [l1, l2, List.length_map, List.length_map]
          exact Nat.le_trans (by omega : rs.length + rs.length ≤ 200) (by decide)
        have s5 := same_new (u := .lst (us1 ++ us2)) nt3
        have h5 : upd H4 t3 (.lst (us1 ++ us2)) t3 = some (.lst (us1 ++ us2)) := upd_same
        have a5 : All2 (TuO K (upd H4 t3 (.lst (us1 ++ us2)))) (us1 ++ us2) (rs.map (· ++ [some 0]) ++ rs.map (· ++ [some 1])) := (a3.imp fun _ _ h => h.firm (Firm.of (s4.trans s5))).append (a4.imp fun _ _ h => h.firm (Firm.of s5))
        generalize upd H4 t3 _ = H5 at s5 h5 a5 ⊢
        refine ⟨_, rfl, l, rfl, ⟨_, SqL.of (s5 _ _ (s4 _ _ (s3 _ _ h2)))⟩, fun D3 nD3 => ?_⟩
        refine lc_list (K := K) (a := l) (xs := zs) (fun j H' => Same H5 H' ∧ ∃ us, H' D3 = some (.lst us) ∧ All2 (TuO K H') us ((rs.take j).map (· ++ [none]))) ⟨same_new nD3, [], upd_same, .nil⟩ (fun j H' _ ⟨s, _⟩ => SqL.of (s _ _ (s5 _ _ (s4 _ _ (s3 _ _ h2))))) ?_ ?_
        · rintro j x H' hj ⟨s, us, hu, au⟩
          obtain ⟨r0, hr0, q0, rfl, hq0⟩ := a2.get hj
          have hq1 := s _ _ (s5 _ _ (s4 _ _ (s3 _ _ hq0)))
          refine ⟨rfl, yes_of ?_⟩
          refine ⟨_, rfl, (by show 1 ≤ sizeLine; decide), fun t1 nt1 => ?_⟩
          have st := same_new (u := .tup [V.non]) nt1
          refine catA_use (SqT.of (st _ _ hq1)) upd_same (by simp) ?_ fun t2 H'' s' ht => ?_
          · rw [List.length_map, (m2 r0 (List.mem_of_getElem? hr0)).1]
            exact Nat.le_trans (by show i + 1 ≤ 5; omega) (by decide)
          have hu2 := s' _ _ (st _ _ hu)
          have fi : Firm H' (upd H'' D3 (.lst (us ++ [.ref t2]))) := (Firm.of (st.trans s')).trans (Firm.upd hu2 rfl)
          refine ⟨us, hu2, ?_, fun b o e => ?_, us ++ [.ref t2], upd_same, ?_⟩
          · rw [au.len, List.length_map, List.length_take]
            exact Nat.lt_of_le_of_lt (Nat.min_le_right _ _) (Nat.lt_of_le_of_lt r81 (by decide))
          · rw [upd_ne (ne_of_none e nD3)]
            exact s' _ _ (st _ _ (s _ _ e))
          · rw [take_more hr0, List.map_append]
            refine (au.imp fun _ _ h => h.firm fi).snoc ⟨t2, rfl, ?_⟩
            have ne2 : t2 ≠ D3 := fun z => by
              rw [z, hu2] at ht
              cases ht
            rw [upd_ne ne2, ht, List.map_append]
            rfl
        rintro H6 ⟨s6, us3, h6, a6⟩
        rw [a2.len, List.take_length] at a6
        have l3 := a6.len
        have l5 := a5.len
        refine ⟨t3, D3, _, _, rfl, rfl, s6 _ _ h5, h6, ?_, fun t4 nt4 => ?_⟩
        · rw [l3, l5, List.length_append, List.length_map, List.length_map, List.length_map]
          exact Nat.le_trans (by omega : rs.length + rs.length + rs.length ≤ 300) (by decide)
        have s7 := same_new (u := .lst (us1 ++ us2 ++ us3)) nt4
        refine ⟨_, t4, us1 ++ us2 ++ us3, rs.map (· ++ [some 0]) ++ rs.map (· ++ [some 1]) ++ rs.map (· ++ [none]), rfl, s2.trans (s3.trans (s4.trans (s5.trans (s6.trans s7)))), upd_same, (a5.imp fun _ _ h => h.firm (Firm.of (s6.trans s7))).append (a6.imp fun _ _ h => h.firm (Firm.of s7)), fun r hr => ?_, ?_⟩
        · have one : ∀ z : Option Int, O01 z → r ∈ rs.map (· ++ [z]) → r.length = i + 1 ∧ S01 r := fun z hz h => by
            obtain ⟨r0, hr0, rfl⟩ := List.mem_map.mp h
            obtain ⟨y1, y2⟩ := m2 r0 hr0
            refine ⟨by rw [List.length_append, y1]; rfl, fun y hy => ?_⟩
            rcases List.mem_append.mp hy with hy | hy
            · exact y2 y hy
            · rw [List.mem_singleton.mp hy]
              exact hz
          rcases List.mem_append.mp hr with hr | hr
          · rcases List.mem_append.mp hr with hr | hr
            · exact one _ (.inr (.inl rfl)) hr
            · exact one _ (.inr (.inr rfl)) hr
          · exact one _ (.inl rfl) hr
        · rw [List.length_append, List.length_append, List.length_map, List.length_map, List.length_map, Nat.pow_succ]
          omega
      · rintro σ H2 ⟨x4, l, zs, rs, rfl, s2, h2, a2, m2, e2⟩
        exact ⟨_, rfl, q _ l zs rs ((hP.same s2).more (by omega)) (But.of_same s2) h2 a2 m2 (Nat.le_trans e2 (Nat.le_trans (Nat.pow_le_pow_right (by decide) (by omega : n.toNat ≤ 4)) (by decide)))⟩
end
end Sw
namespace Tm
open PySem PySem.Spec PyProof.Rows L2
/-! ## tuple * int, the number 0 and 1 too -/
theorem mul_self (l : Addr) (us : Array Value) (n : Nat) (dd : Option Addr) (sl : Array (Option Value)) (tk : Tok) :
    Meets (Builtin.«tuple.__mul__» ⟨[.ref l, .int 1 tk], []⟩) (fun _ R s => s.heap.get? l = some { cls := .type "tuple", dict := dd, data := .seq us n, slots := sl } ∧ R (.ok (.ret (.ref l))) s) :=
  .of_wp fun prog w A R s h => by
    obtain ⟨hp, gs, dr, tks, os⟩ := s
    obtain ⟨hl, q⟩ := h
    have f1 := AutoSeq1.idx_int
    have c1 : (us.isEmpty || (1 : Int) == 1) = true := by simp
    wp_walk using wpAny_loadPart' hl
    repeat (first
      | (refine wpAny_ite_true (decide_eq_true c1) ?_; wp_walk using wpAny_loadPart' hl)
      | (refine wpAny_ite_true c1 ?_; wp_walk using wpAny_loadPart' hl))
    exact ⟨_, rfl, q⟩
theorem mul_nil (l : Addr) (us : Array Value) (n : Nat) (dd : Option Addr) (sl : Array (Option Value)) (tk : Tok) (ne : us.isEmpty = false) :
    Meets (Builtin.«tuple.__mul__» ⟨[.ref l, .int 0 tk], []⟩) (fun _ R s => s.heap.get? l = some { cls := .type "tuple", dict := dd, data := .seq us n, slots := sl } ∧
      R (.ok (.ret (.ref s.heap.objs.size))) { s with heap := s.heap.push { cls := .type "tuple", data := .seq #[] }, toks := s.toks }) :=
  .of_wp fun prog w A R s h => by
    obtain ⟨hp, gs, dr, tks, os⟩ := s
    obtain ⟨hl, q⟩ := h
    have f1 := AutoSeq1.idx_int
    have c1 : (us.isEmpty || (0 : Int) == 1) = false := by rw [ne]; rfl
    have c2 : (decide ((0 : Int) ≤ 0) || us.isEmpty) = true := by simp
    wp_walk using wpAny_loadPart' hl
    repeat (first
      | (refine wpAny_ite_false (decide_eq_false (by rw [c1]; exact Bool.false_ne_true)) ?_; wp_walk using wpAny_loadPart' hl)
      | (refine wpAny_ite_true (decide_eq_true c2) ?_; wp_walk using wpAny_loadPart' hl))
    exact ⟨_, rfl, q⟩
def rMulT (K : PySem.W.Frag) : R2 := fun x y H Q => ∃ l k xs, x = .ref l ∧ y = .int k ∧ SqT K H l xs ∧ xs ≠ [] ∧ xs.length ≤ 1000 ∧
  ((k = 0 ∧ ∀ p, H p = none → Q (.ref p) (upd H p (.tup []))) ∨ (k = 1 ∧ Q (.ref l) H) ∨ (2 ≤ k ∧ k ≤ 1000 ∧ ∀ p, H p = none → Q (.ref p) (upd H p (.tup (List.replicate k.toNat xs).flatten))))
section
variable {X : Cx}
theorem op_mulT : OpR X (binaryOp .Mult) (rMulT X.K) := by
  intro pins s σ H x y v u Q I rx ry h
  obtain ⟨l, k, xs, rfl, rfl, hT, hne, hz, h⟩ := h
  rcases h with ⟨rfl, q⟩ | ⟨rfl, q⟩ | ⟨h1, h2, q⟩
  · cases rx
    obtain ⟨t, rfl⟩ := ry
    obtain ⟨its, rv, ⟨⟨cl, dd, da, sl⟩, ho, hc, n, hd⟩, _⟩ := I.tuple hT
    simp only at hc hd
    subst hc hd
    have ne : its.toArray.isEmpty = false := by
      cases its with
      | nil =>
        have z := rv.length
        exact absurd (List.eq_nil_of_length_eq_zero z) hne
      | cons _ _ => rfl
    refine wpAny_binaryOp_repeat_ref (T := "tuple") (U := "int") (by decide) ⟨_, ho, rfl⟩ (fun s' => typeIs_int s' 0 t) noFill_tuple_mul F.fills_int_mul F.slot_int_rmul repeat_tuple F.slot_int_index.lookup
      (call_meets F.slot_int_rmul (typeIs_int s 0 t) F.entry_int_rmul (F.args_int_rmul_2 _ _) (int_rmul_tuple 0 t l its.toArray n dd sl)
        ⟨ho, rfl, ⟨_, ho, rfl⟩, call_meets F.slot_tuple_mul ⟨_, ho, rfl⟩ F.entry_tuple_mul (F.args_tuple_mul_2 _ _) (mul_nil l its.toArray n dd sl t ne) ⟨ho, ?_⟩⟩)
    exact ⟨.ref s.heap.objs.size, _, I.laid (t' := s.toks) (o := .tup []) (fun b ob q => Heap.get?_push_of_some _ q) (Nat.le_refl _) ⟨Nat.zero_le _, [], .nil, IsTup.new _ _⟩, rfl, q _ (I.hok.fresh (Nat.le_refl _))⟩
  · cases rx
    obtain ⟨t, rfl⟩ := ry
    obtain ⟨its, rv, ⟨⟨cl, dd, da, sl⟩, ho, hc, n, hd⟩, _⟩ := I.tuple hT
    simp only at hc hd
    subst hc hd
    exact wpAny_binaryOp_repeat_ref (T := "tuple") (U := "int") (by decide) ⟨_, ho, rfl⟩ (fun s' => typeIs_int s' 1 t) noFill_tuple_mul F.fills_int_mul F.slot_int_rmul repeat_tuple F.slot_int_index.lookup
      (call_meets F.slot_int_rmul (typeIs_int s 1 t) F.entry_int_rmul (F.args_int_rmul_2 _ _) (int_rmul_tuple 1 t l its.toArray n dd sl)
        ⟨ho, rfl, ⟨_, ho, rfl⟩, call_meets F.slot_tuple_mul ⟨_, ho, rfl⟩ F.entry_tuple_mul (F.args_tuple_mul_2 _ _) (mul_self l its.toArray n dd sl t) ⟨ho, .ref l, H, I, rfl, q⟩⟩)
  · exact op_repT pins s σ H _ _ v u Q I rx ry ⟨l, k, xs, rfl, rfl, hT, hne, h1, h2, hz, q⟩
end
end Tm
namespace Sx
open PySem PySem.Spec PyProof.Rows L2 LamX Pen Dat Ki Fi Gr No Lf Rp Su Sv Sw Wy Yd Yh Xg Yt Gd
/-! ## The law of sure values -/
abbrev nLaw : List Str := ["_law_script", "_law_pen_here", "_law_lap", "_law_leaves", "_law_gates", "_law_graph", "_law_all_rows", "_law_bits", "_law_whole", "_law_row", "_law_told", "_law_found", "_law_a", "_law_b", "_law_bad", "_law_one", "_law_wrong"]
theorem scLaw : FnScope nLaw ["_law_script"] (defScope sLaw) := ⟨rfl, rfl, rfl, by decide +kernel, rfl, by decide +kernel, by decide +kernel⟩
abbrev lamQ : Str := (envOfC "law" (defScope sLaw) 0 0 .none).qual ++ "<lambda>"
def spLaw (K : PySem.W.Frag) (tb : Addr) : Sp := fun vs H Q _ => ∃ (a : Addr) (ns : List Int), vs = [.ref a] ∧ SqL K H a (ns.map V.int) ∧ ns.length ≤ 63 ∧ H tb = some (.tbl #[]) ∧ ∀ H', Q (.bl true) H'
theorem pe_why {X : Cx} {g CN CR c tb : Addr} {fd : FuncData} {k : Nat} {t : XK → TE} {params : Arguments} {body : Expr} {scope : Scope} {p lpos pos : Pos} (F : FnP X.K "_law_why" sWhy g fd) (gW : X.mg "_law_why" = some (.ref g)) (T : Yh.Tw X.K X.mg CN CR)
    (hg : X.A.guards = some []) (hr : Room (k + 2) X.A) (TB : TabB X.base X.mg c tb) (hcode : X.env.code = .ref c) (hq : X.env.qual ++ "<lambda>" = lamQ) (gl : Gl X "_law_why") (L : LamS X.env.scope scope) (hdef : defaultsOf params X.env = ([], []))
    (hbind : ∀ (q : Str) (cl : List (Str × Addr)) (pm cv ctv : Value), bindArgs (PySem.W.kla_fn "<lambda>" q params body scope cl pm cv ctv) ⟨[], []⟩ = pure [])
    (hbody : ∀ (A : Around) (outer : List Env) (s : Shared) (H : Hp) (E : XK) (f c' : Addr), Room k (A.deeper (lamEnv X scope s.heap.objs.size f c')) → PE (lamCx X A outer s H E scope f c') body (t E)) :
    PE X (.Call (.Name "_law_why" p) [.Lambda params body scope lpos] [] pos) (tLam [(tb, lamQ)] (TWhy X.K CN CR) t) := by
  obtain ⟨_, _, _, _, _, _, _, cdv, _, _, rfl, lk, hcd, _, _⟩ := F.ex
  exact pe_lamcall (T := [(tb, lamQ)]) (TT := TWhy X.K CN CR) (a := "_law_call") (Ng := yN) gl gW F.kp lk hcd (F.bindsN fun _ _ _ _ _ _ us hl => match us, hl with | [_], _ => rfl) scWhy rfl (by exact Or.inl rfl)
    (why_gives T hg (hr.mono (by omega : k + 1 ≤ k + 2))) TB hcode (by rw [hq]; exact List.mem_cons_self) (fun p hp _ => by rw [hq]; rw [List.mem_singleton.mp hp]) hr L hdef hbind hbody
/-! ### what stays: all but the pen and the tables -/
def solid : HO → Bool
  | .lst _ => true
  | .tup _ => true
  | .frz _ _ => true
  | .ins _ _ _ => true
  | .dK kvs => kvs.length == 1
  | _ => false
def Stay (H H' : Hp) : Prop := ∀ b o, H b = some o → solid o = true → H' b = some o
theorem Stay.of {H H' : Hp} (s : Same H H') : Stay H H' := fun b o e _ => s b o e
theorem Stay.trans {H H1 H2 : Hp} (a : Stay H H1) (b : Stay H1 H2) : Stay H H2 := fun c o e h => b c o (a c o e h) h
theorem Stay.extN {H H' : Hp} (s : ExtN H H') : Stay H H' := fun b o e f => s b o e fun ps z => by
  rw [z] at f
  cases f
theorem Stay.pen {H H' : Hp} {p c : Addr} {m : Nat} (b : But p H H') (h : PenC H p c m) : Stay H H' := fun q o e f => b q o e fun z => by
  obtain ⟨_, _, _, _, _, h1, _⟩ := h
  rw [z, h1] at e
  cases e
  cases f
theorem Stay.firm {H H' : Hp} (s : Stay H H') : Firm H H' := fun b o e f => s b o e (by
  cases o with
  | tup _ => rfl
  | frz _ _ => rfl
  | ins _ _ _ => rfl
  | _ => cases f)
section
variable {K : PySem.W.Frag} {H H' : Hp}
theorem seqL_stay {a : Addr} {xs : List V} (s : Stay H H') (h : SqL K H a xs) : SqL K H' a xs := h.elim (fun h => .inl (h.elim (fun h => .inl (s _ _ h rfl)) fun ⟨o, h⟩ => .inr ⟨o, s _ _ h rfl⟩)) .inr
theorem seqT_stay {a : Addr} {xs : List V} (s : Stay H H') (h : SqT K H a xs) : SqT K H' a xs := h.elim (fun h => .inl (h.elim (fun h => .inl (s _ _ h rfl)) fun ⟨o, h⟩ => .inr ⟨o, s _ _ h rfl⟩)) .inr
mutual
theorem dp_stay (s : Stay H H') : ∀ {d : PyData} {v : V}, Dp K H v d → Dp K H' v d
  | .none, _, h => by cases h; exact .non
  | .bool b, _, h => by cases h; exact .bl b
  | .int i, _, h => by cases h; exact .int i
  | .str x, _, h => by cases h; exact .str x
  | .list ds, _, h => by
    cases h with
    | lst hs ha => exact .lst (seqL_stay s hs) (dps_stay s ha)
  | .tuple ds, _, h => by
    cases h with
    | tup hs ha => exact .tup (seqT_stay s hs) (dps_stay s ha)
  | .dict _, _, h => by cases h
theorem dps_stay (s : Stay H H') : ∀ {ds : List PyData} {vs : List V}, DpAll K H vs ds → DpAll K H' vs ds
  | [], _, h => by cases h; exact .nil
  | d :: ds, _, h => by
    cases h with
    | cons h1 h2 => exact .cons (dp_stay s h1) (dps_stay s h2)
end
def ShB (d : PyData) : Bool := (d.showable && !d.hasDict) && (decide (d.depth ≤ 60) && (decide (d.shown.length ≤ sizeLine) && PyData.strOk d.shown))
theorem says_of {v : V} {d : PyData} (h : Dp K H v d) (s : ShB d = true) : Says K H v d.shown := by
  unfold ShB at s
  simp only [Bool.and_eq_true, Bool.not_eq_true', decide_eq_true_eq] at s
  obtain ⟨⟨h1, h2⟩, h3, h4, _⟩ := s
  exact .inl ⟨d, h, h1, h2, h3, h4, rfl⟩
theorem sh_str {d : PyData} (s : ShB d = true) : PyData.strOk d.shown = true := by
  unfold ShB at s
  simp only [Bool.and_eq_true] at s
  exact s.2.2.2
end
theorem len0 : ([] : List V).length ≤ sizeLine := Nat.zero_le _
theorem len1 {a : V} : [a].length ≤ sizeLine := (by decide : 1 ≤ sizeLine)
theorem len6 {a b c d e f : V} : [a, b, c, d, e, f].length ≤ sizeLine := (by decide : 6 ≤ sizeLine)
theorem len10 {a b c d e f g h i j : V} : [a, b, c, d, e, f, g, h, i, j].length ≤ sizeLine := (by decide : 10 ≤ sizeLine)
theorem same_ins {H : Hp} {x dx : Addr} {C : Addr} (nx : H x = none) (nd : H dx = none) (ne : dx ≠ x) : Same H (upd (upd H dx (.own x)) x (.ins C dx [])) :=
  (same_new nd).trans (same_new (by rw [upd_ne (Ne.symm ne)]; exact nx))
theorem same_two {H : Hp} {p : Addr} {u v : HO} (np : H p = none) : Same H (upd (upd H p u) p v) := fun b o e => by
  rw [upd_ne (ne_of_none e np), upd_ne (ne_of_none e np)]
  exact e
theorem six {α : Type} {a b c d e f v : α} {i : Nat} (h : [a, b, c, d, e, f][i]? = some v) : v = a ∨ v = b ∨ v = c ∨ v = d ∨ v = e ∨ v = f := by
  have m := List.mem_of_getElem? h
  simpa using m
section
variable {K : PySem.W.Frag} {H : Hp}
theorem tl {t : Addr} {xs : List V} {ds : List PyData} (e : H t = some (.tup xs)) (h : DpAll K H xs ds) : Dp K H (.ref t) (.tuple ds) := .tup (.inl (.inl e)) h
theorem ll {t : Addr} {xs : List V} {ds : List PyData} (e : H t = some (.lst xs)) (h : DpAll K H xs ds) : Dp K H (.ref t) (.list ds) := .lst (.inl (.inl e)) h
theorem dI1 (i : Int) : DpAll K H [.int i] [.int i] := .cons (.int i) .nil
theorem dI2 (i j : Int) : DpAll K H [.int i, .int j] [.int i, .int j] := .cons (.int i) (.cons (.int j) .nil)
theorem dI3 (i j k : Int) : DpAll K H [.int i, .int j, .int k] [.int i, .int j, .int k] := .cons (.int i) (.cons (.int j) (.cons (.int k) .nil))
end
theorem pen_tbl {H : Hp} {p c b : Addr} {m : Nat} {ps : Array Value} (h : PenC H p c m) (e : H b = some (.tbl ps)) : b ≠ p := fun z => by
  obtain ⟨_, _, _, _, _, h1, _⟩ := h
  rw [z, h1] at e
  cases e
theorem pen_lst {H : Hp} {p c b : Addr} {m : Nat} {xs : List V} (h : PenC H p c m) (e : H b = some (.lst xs)) : b ≠ p := fun z => by
  obtain ⟨_, _, _, _, _, h1, _⟩ := h
  rw [z, h1] at e
  cases e
theorem goF {b : Bool} {A B : Prop} (h : b = false) (x : B) : if b = true then A else B := by rw [h]; exact iteF x
theorem goT {b : Bool} {A B : Prop} (h : b = true) (x : A) : if b = true then A else B := by rw [h]; exact iteT x
theorem two_eqv (a b : Str) : PyData.eqv (.tuple [.str a, .str b]) (.tuple [.str a, .str b]) = true := by simp [PyData.eqv, PyData.eqvAll]
theorem two_sh {a b : Str} (ha : PyData.strOk a = true) (hb : PyData.strOk b = true) : SeqAt.shaped (.tuple [.str a, .str b]) = true := by
  unfold SeqAt.shaped
  rw [Bool.and_eq_true]
  exact ⟨by simp [PyData.canLay0, PyData.canLayAll0, ha, hb], decide_eq_true (by simp [PyData.depth, PyData.depthAll])⟩
theorem strs2 {K : PySem.W.Frag} {H : Hp} {t : Addr} {a b : Str} (e : H t = some (.tup [.str a, .str b])) : Dp K H (.ref t) (.tuple [.str a, .str b]) := .tup (.inl (.inl e)) (.cons (.str a) (.cons (.str b) .nil))
theorem says_stay {K : PySem.W.Frag} {H H' : Hp} {v : V} {x : Str} (s : Stay H H') (h : Says K H v x) : Says K H' v x := by
  rcases h with ⟨d, a, b⟩ | ⟨a, i, j, e, h, b⟩
  · exact .inl ⟨d, dp_stay s a, b⟩
  · exact .inr ⟨a, i, j, e, s _ _ h rfl, b⟩
theorem row_of {K : PySem.W.Frag} {CN CR : Addr} {H : Hp} {v : V} {x : Str} {Q : VK} (h : Says K H v x) (q : ∀ H' t, Same H H' → H' t = some (.tup [.str "row", .str x]) → Q (.ref t) H') : Row CR (WhyE K CN CR Q) H v := by
  intro dd H' s1 e
  exact ⟨dd, _, rfl, e, .inr ⟨rfl, v, x, rfl, says_stay (Stay.of s1) h, fun t nt => q _ t (s1.trans (same_new nt)) upd_same⟩⟩
theorem pen_extN {H H' : Hp} {p c : Addr} {m : Nat} (s : ExtN H H') (h : PenC H p c m) : PenC H' p c m := by
  obtain ⟨ns, a, d, n, f, h1, h2, r⟩ := h
  exact ⟨ns, a, d, n, f, s _ _ h1 (fun _ z => by cases z), s _ _ h2 (fun _ z => by cases z), r⟩
theorem room_u {k : Nat} {A : Around} (r : Room k A) : A.units + 100 < cLine := by
  have := r.un
  omega
theorem tabs_but {T : List (Addr × Str)} {H H' : Hp} {p c : Addr} {m : Nat} (b : But p H H') (h : PenC H p c m) (t : Tabs T H) : Tabs T H' := fun q hq => by
  obtain ⟨ps, h1, h2, h3⟩ := t q hq
  refine ⟨ps, b _ _ h1 (pen_tbl h h1), h2, fun pos cv e => ?_⟩
  obtain ⟨c', e1, e2⟩ := h3 pos cv e
  refine ⟨c', e1, b _ _ e2 fun z => ?_⟩
  obtain ⟨_, _, _, _, _, k1, _⟩ := h
  rw [z, k1] at e2
  cases e2
section
variable {K : PySem.W.Frag} {H : Hp}
end
/-- no bits over n leaves -/
def BadS (K : PySem.W.Frag) (H : Hp) (n : Int) (v : V) (x : Str) : Prop := (∃ d, Dp K H v d ∧ ShB d = true ∧ x = d.shown ∧ (rowsD d).length ≤ 1000 ∧ sureB d n = false) ∨ ∃ a, v = .ref a ∧ H a = some (.dK [(.inl 0, .int 1)]) ∧ x = (D1 0 1).shown
theorem BadS.stay {K : PySem.W.Frag} {H H' : Hp} {n : Int} {v : V} {x : Str} (s : Stay H H') (h : BadS K H n v x) : BadS K H' n v x := by
  rcases h with ⟨d, a, b⟩ | ⟨a, e, h, b⟩
  · exact .inl ⟨d, dp_stay s a, b⟩
  · exact .inr ⟨a, e, s _ _ h rfl, b⟩
theorem BadS.says {K : PySem.W.Frag} {H : Hp} {n : Int} {v : V} {x : Str} (h : BadS K H n v x) : Says K H v x := by
  rcases h with ⟨d, a, b, rfl, _⟩ | ⟨a, rfl, h, rfl⟩
  · exact says_of a b
  · exact .inr ⟨a, 0, 1, rfl, h, by decide +kernel, by decide +kernel, rfl⟩
theorem BadS.ok {K : PySem.W.Frag} {H : Hp} {n : Int} {v : V} {x : Str} (h : BadS K H n v x) : PyData.strOk x = true := by
  rcases h with ⟨d, a, b, rfl, _⟩ | ⟨a, rfl, h, rfl⟩
  · exact sh_str b
  · decide +kernel
theorem reps0 : ∀ k : Nat, k < 7 → ShB (.tuple (List.replicate (k + 1) (.int 0))) = true ∧ sureB (.tuple (List.replicate (k + 1) (.int 0))) k = false := by decide +kernel
theorem reps2 : ∀ k : Nat, k < 7 → ShB (.tuple (List.replicate k (.int 2) ++ [.int 2])) = true ∧ sureB (.tuple (List.replicate k (.int 2) ++ [.int 2])) k = false := by decide +kernel
theorem reps_dp (K : PySem.W.Frag) (H : Hp) (i : Int) : ∀ k : Nat, DpAll K H (List.replicate k (V.int i)) (List.replicate k (.int i))
  | 0 => .nil
  | k + 1 => .cons (.int i) (reps_dp K H i k)
theorem dps_app {K : PySem.W.Frag} {H : Hp} : ∀ {vs : List V} {ds : List PyData} {us : List V} {es : List PyData}, DpAll K H vs ds → DpAll K H us es → DpAll K H (vs ++ us) (ds ++ es)
  | _, _, _, _, .nil, h => h
  | _, _, _, _, .cons a b, h => .cons a (dps_app b h)
theorem flat_one (k : Nat) (x : V) : (List.replicate k [x]).flatten = List.replicate k x := by
  induction k with
  | zero => rfl
  | succ k ih =>
    show [x] ++ (List.replicate k [x]).flatten = _
    rw [ih]
    rfl
theorem bad_pick {K : PySem.W.Frag} {H : Hp} {n : Nat} (hn : n < 7) {t1 t2 dd : Addr} {v : V} {i : Nat} (h : [V.non, .int 5, .ref t1, .ref t2, .str "01", .ref dd][i]? = some v) (e1 : H t1 = some (.tup (List.replicate (n + 1) (.int 0)))) (e2 : H t2 = some (.tup (List.replicate n (.int 2) ++ [.int 2]))) (e3 : H dd = some (.dK [(.inl 0, .int 1)])) : ∃ x, BadS K H n v x := by
  rcases six h with rfl | rfl | rfl | rfl | rfl | rfl
  · exact ⟨_, .inl ⟨.none, .non, by decide +kernel, rfl, by decide, rfl⟩⟩
  · exact ⟨_, .inl ⟨.int 5, .int _, by decide +kernel, rfl, by decide, rfl⟩⟩
  · refine ⟨_, .inl ⟨_, tl e1 (reps_dp K H 0 (n + 1)), (reps0 n hn).1, rfl, ?_, (reps0 n hn).2⟩⟩
    show (List.replicate (n + 1) (PyData.int 0)).length ≤ 1000
    rw [List.length_replicate]
    omega
  · refine ⟨_, .inl ⟨_, tl e2 (dps_app (reps_dp K H 2 n) (dI1 2)), (reps2 n hn).1, rfl, ?_, (reps2 n hn).2⟩⟩
    show (List.replicate n (PyData.int 2) ++ [PyData.int 2]).length ≤ 1000
    rw [List.length_append, List.length_replicate]
    show n + 1 ≤ 1000
    omega
  · exact ⟨_, .inl ⟨.str "01", .str _, by decide +kernel, rfl, by decide, rfl⟩⟩
  · exact ⟨_, .inr ⟨dd, rfl, e3, rfl⟩⟩
theorem five {α : Type} {a b c d e v : α} {i : Nat} (h : [a, b, c, d, e][i]? = some v) : v = a ∨ v = b ∨ v = c ∨ v = d ∨ v = e := by
  have m := List.mem_of_getElem? h
  simpa using m
theorem wrong_pick {K : PySem.W.Frag} {H : Hp} {t1 t2 t3 t4 t5 l : Addr} {v : V} {i : Nat} (h : [V.ref t1, .ref t2, .ref t3, .ref t4, .ref l][i]? = some v) (e1 : H t1 = some (.tup [.int 0, .int 2])) (e2 : H t2 = some (.tup [.non, .bl true])) (e3 : H t3 = some (.tup [.str "0", .int 1])) (e4 : H t4 = some (.tup [.int 1, .int (-1)]))
    (e5 : H t5 = some (.tup [.int 0])) (el : H l = some (.lst [.int 0, .ref t5])) : ∃ x, BadS K H 2 v x := by
  rcases five h with rfl | rfl | rfl | rfl | rfl
  · exact ⟨_, .inl ⟨_, tl e1 (dI2 0 2), by decide +kernel, rfl, by decide, by decide +kernel⟩⟩
  · exact ⟨_, .inl ⟨.tuple [.none, .bool true], tl e2 (.cons .non (.cons (.bl true) .nil)), by decide +kernel, rfl, by decide, by decide +kernel⟩⟩
  · exact ⟨_, .inl ⟨.tuple [.str "0", .int 1], tl e3 (.cons (.str _) (.cons (.int 1) .nil)), by decide +kernel, rfl, by decide, by decide +kernel⟩⟩
  · exact ⟨_, .inl ⟨_, tl e4 (dI2 1 (-1)), by decide +kernel, rfl, by decide, by decide +kernel⟩⟩
  · exact ⟨_, .inl ⟨.list [.int 0, .tuple [.int 0]], ll el (.cons (.int 0) (.cons (tl e5 (dI1 0)) .nil)), by decide +kernel, rfl, by decide, by decide +kernel⟩⟩
/-- bits and their values, side by side -/
def Wp (H : Hp) (gs : List (Int × Int)) (v : V) (r : List Int) : Prop := ∃ t b q, v = .ref t ∧ H t = some (.tup [.ref b, .ref q]) ∧ H b = some (.tup (r.map V.int)) ∧ H q = some (.lst ((vals r gs).map V.int))
def WpD (H : Hp) (D : Addr) (gs : List (Int × Int)) (v : V) (r : List Int) : Prop := ∃ t b q, v = .ref t ∧ H t = some (.tup [.ref b, .ref q]) ∧ H b = some (.tup (r.map V.int)) ∧ H q = some (.lst ((vals r gs).map V.int)) ∧ q ≠ D
theorem WpD.same {H H' : Hp} {D : Addr} {gs : List (Int × Int)} {v : V} {r : List Int} (s : Same H H') (h : WpD H D gs v r) : WpD H' D gs v r := let ⟨t, b, q, e, h1, h2, h3, n⟩ := h; ⟨t, b, q, e, s _ _ h1, s _ _ h2, s _ _ h3, n⟩
theorem WpD.put {H : Hp} {D : Addr} {us us' : List V} {gs : List (Int × Int)} {v : V} {r : List Int} (hD : H D = some (.lst us)) (h : WpD H D gs v r) : WpD (upd H D (.lst us')) D gs v r := by
  obtain ⟨t, b, q, e, h1, h2, h3, n⟩ := h
  refine ⟨t, b, q, e, ?_, ?_, ?_, n⟩
  · rw [upd_ne (fun z => by rw [z, hD] at h1; cases h1)]
    exact h1
  · rw [upd_ne (fun z => by rw [z, hD] at h2; cases h2)]
    exact h2
  · rw [upd_ne n]
    exact h3
theorem WpD.wp {H : Hp} {D : Addr} {gs : List (Int × Int)} {v : V} {r : List Int} (h : WpD H D gs v r) : Wp H gs v r := let ⟨t, b, q, e, h1, h2, h3, _⟩ := h; ⟨t, b, q, e, h1, h2, h3⟩
/-- all but the pen's dict stays, and it is one -/
structure Kp (p c : Addr) (H H' : Hp) : Prop where
  but : But p H H'
  was : ∃ kvs, H p = some (.dK kvs) ∧ kvs.length = 5
theorem pen_dict {H : Hp} {p c : Addr} {m : Nat} (h : PenC H p c m) : ∃ kvs, H p = some (.dK kvs) ∧ kvs.length = 5 := by
  obtain ⟨_, _, _, _, _, h1, _⟩ := h
  exact ⟨_, h1, rfl⟩
theorem Kp.lst {p c b : Addr} {H H' : Hp} {xs : List V} (k : Kp p c H H') (e : H b = some (.lst xs)) : H' b = some (.lst xs) := k.but _ _ e fun z => by
  obtain ⟨kvs, h, _⟩ := k.was
  rw [z, h] at e
  cases e
theorem Kp.tup {p c b : Addr} {H H' : Hp} {xs : List V} (k : Kp p c H H') (e : H b = some (.tup xs)) : H' b = some (.tup xs) := k.but _ _ e fun z => by
  obtain ⟨kvs, h, _⟩ := k.was
  rw [z, h] at e
  cases e
theorem Kp.firm {p c : Addr} {H H' : Hp} (k : Kp p c H H') : Firm H H' := fun b o e f => k.but _ _ e fun z => by
  obtain ⟨kvs, h, _⟩ := k.was
  rw [z, h] at e
  cases e
  cases f
theorem Kp.stay {p c : Addr} {H H' : Hp} (k : Kp p c H H') : Stay H H' := fun b o e f => k.but _ _ e fun z => by
  obtain ⟨kvs, h, hl⟩ := k.was
  rw [z, h] at e
  cases e
  have f : (kvs.length == 1) = true := f
  rw [hl] at f
  cases f
theorem Kp.tabs {p c : Addr} {H H' : Hp} {T : List (Addr × Str)} {m : Nat} (k : Kp p c H H') (hp : PenC H p c m) (t : Tabs T H) : Tabs T H' := tabs_but k.but hp t
theorem Wp.keep {p c : Addr} {H H' : Hp} {gs : List (Int × Int)} {v : V} {r : List Int} (k : Kp p c H H') (h : Wp H gs v r) : Wp H' gs v r := let ⟨t, b, q, e, h1, h2, h3⟩ := h; ⟨t, b, q, e, k.tup h1, k.tup h2, k.lst h3⟩
/-- what is known in a lap, once the graph stands -/
structure Fx (K : PySem.W.Frag) (C : Addr) (H : Hp) (k : Nat) (p c tb : Addr) (n : Nat) (gs : List (Int × Int)) (g gr lr lw : Addr) : Prop where
  pen : ∃ m, m ≤ k ∧ PenC H p c m
  tab : Tabs [(tb, lamQ)] H
  low : n < 7
  gt : GT K H g gs
  ok : okG (2 * (n : Int) + 1) gs = true
  few : gs.length ≤ 16
  gr : GraphAt K C H gr n gs
  rows : ∃ ws, H lr = some (.lst ws) ∧ All2 (Tu K H) ws (rowsM n)
  whole : ∃ ww, H lw = some (.lst ww) ∧ All2 (Wp H gs) ww (rowsM n)
section
variable {K : PySem.W.Frag} {C : Addr} {H H' : Hp} {k k' m : Nat} {p c tb : Addr} {n : Nat} {gs : List (Int × Int)} {g gr lr lw : Addr}
theorem Fx.kp (h : Fx K C H k p c tb n gs g gr lr lw) (b : But p H H') : Kp p c H H' := ⟨b, let ⟨_, _, hp⟩ := h.pen; pen_dict hp⟩
theorem Fx.to (h : Fx K C H k p c tb n gs g gr lr lw) (b : But p H H') (hp : PenC H' p c m) (hm : m ≤ k') : Fx K C H' k' p c tb n gs g gr lr lw := by
  have kp := h.kp b
  obtain ⟨m0, _, hp0⟩ := h.pen
  obtain ⟨ws, r1, r2⟩ := h.rows
  obtain ⟨ww, w1, w2⟩ := h.whole
  exact ⟨⟨m, hm, hp⟩, kp.tabs hp0 h.tab, h.low, h.gt.firm kp.firm, h.ok, h.few, h.gr.firm kp.firm, ⟨ws, kp.lst r1, r2.imp fun _ _ z => z.firm kp.firm⟩, ⟨ww, kp.lst w1, w2.imp fun _ _ z => z.keep kp⟩⟩
theorem Fx.same (h : Fx K C H k p c tb n gs g gr lr lw) (s : Same H H') : Fx K C H' k p c tb n gs g gr lr lw := by
  obtain ⟨m, hm, hp⟩ := h.pen
  exact h.to (But.of_same s) (hp.same s) hm
end
def ones (k : Nat) : List Int := List.replicate k 1
theorem ones_small (k : Nat) : ∀ z ∈ ones k, Rp.Small z := fun z hz => by
  rw [List.eq_of_mem_replicate hz]
  exact ⟨by decide, by decide⟩
theorem ints_lay {ns : List Int} (h : ∀ z ∈ ns, Rp.Small z) : SeqAt.shaped (.list (ns.map .int)) = true ∧ SeqAt.shaped (.tuple (ns.map .int)) = true := by
  obtain ⟨a, b, c, d, e, g⟩ := Rp.ints_all h
  have z : (PyData.canLayAll0 (ns.map PyData.int) && decide (PyData.depthAll (ns.map PyData.int) + 1 ≤ 64)) = true := by
    rw [d, decide_eq_true (by omega)]
    rfl
  exact ⟨z, z⟩
theorem ones_eqv (k : Nat) : PyData.eqv (.list ((ones k).map .int)) (.list []) = decide (k = 0) := by
  cases k with
  | zero => rfl
  | succ k => simp [ones, List.replicate_succ, PyData.eqv, PyData.eqvAll]
theorem mk_use {K : PySem.W.Frag} {C x dx : Addr} {H : Hp} {n : Int} {v : V} {gs : List (Int × Int)} {E : XK} {R : VK} (nx : H x = none) (nd : H dx = none) (n0 : n ≥ 0) (hv : RowG K H v gs) (hz : gs.length ≤ 1000) (hok : okG (2 * n + 1) gs = true) (k : ∀ H', Same H H' → GraphAt K C H' x n gs → R .non H') :
    spInit K C [.ref x, .int n, v] (upd (upd H dx (.own x)) x (.ins C dx [])) R E := by
  have s : Same H (upd (upd H dx (.own x)) x (.ins C dx [])) := fun b o e => by
    rw [upd_ne (ne_of_none e nx), upd_ne (ne_of_none e nd)]
    exact e
  exact ⟨x, dx, n, v, gs, rfl, upd_same, n0, hv.same s, hz, hok, fun H' k9 G => k H' (Same.made nx nd k9) G⟩
theorem mulT_use {K : PySem.W.Frag} {H : Hp} {l : Addr} {k : Nat} {x : V} {Q : VK} (h : H l = some (.tup [x])) (hk : k ≤ 1000) (q : ∀ t H', Same H H' → H' t = some (.tup (List.replicate k x)) → Q (.ref t) H') : Tm.rMulT K (.ref l) (.int (k : Int)) H Q := by
  refine ⟨l, _, [x], rfl, rfl, SqT.of h, by simp, (by show 1 ≤ 1000; decide), ?_⟩
  match k, hk, q with
  | 0, _, q => exact .inl ⟨rfl, fun p np => q p _ (same_new np) upd_same⟩
  | 1, _, q => exact .inr (.inl ⟨rfl, q l H (fun _ _ e => e) h⟩)
  | k + 2, hk, q =>
    refine .inr (.inr ⟨by omega, by omega, fun p np => q p _ (same_new np) ?_⟩)
    rw [upd_same, show ((k + 2 : Nat) : Int).toNat = k + 2 from rfl, flat_one]
theorem opts_says {K : PySem.W.Frag} {H : Hp} {t : Addr} {f : Opts} (h : H t = some (.tup (f.map oV))) (h1 : S01 f) (hz : f.length ≤ 1000) : Says K H (.ref t) (PyData.tuple (f.map oD)).shown :=
  let ok := opts_ok h1 hz
  .inl ⟨_, tl h (oDps K H f), ok.show_, ok.dict, ok.deep, ok.long, rfl⟩
theorem sqB_same {K : PySem.W.Frag} {t : Bool} {H H' : Hp} {a : Addr} {xs : List V} (s : Same H H') (h : Zp.SqB K t H a xs) : Zp.SqB K t H' a xs := by
  cases t with
  | true => exact Same.seq s h
  | false => exact seqT_same s h
theorem clash_le : ∀ (f : Opts) (g : List Int), clash f g ≤ f.length
  | [], _ => by unfold clash; exact Nat.zero_le _
  | _ :: _, [] => by unfold clash; exact Nat.zero_le _
  | z :: r, y :: s => by
    have t := clash_le r s
    unfold clash
    have := cl1_le z y
    show _ ≤ r.length + 1
    omega
theorem ones_more (k : Nat) : (ones (k + 1)).map V.int = (ones k).map V.int ++ [V.int 1] := by
  unfold ones
  rw [List.replicate_succ', List.map_append]
  rfl
theorem ones_dp {K : PySem.W.Frag} {H : Hp} {D : Addr} {k : Nat} (h : H D = some (.lst ((ones k).map V.int))) : Dp K H (.ref D) (.list ((ones k).map .int)) := ll h (ints_dp _)
theorem cut8 {xs : List V} {i : Nat} {x : V} (h : (cutV xs none (some 8))[i]? = some x) : xs[i]? = some x := by
  have e : ∃ m, cutV xs none (some 8) = (xs.drop 0).take m := ⟨_, rfl⟩
  obtain ⟨m, e⟩ := e
  rw [e, List.drop_zero, List.getElem?_take] at h
  split at h
  · exact h
  · cases h
theorem vals_small {r : List Int} {gs : List (Int × Int)} (h : B01 r) : ∀ z ∈ vals r gs, Rp.Small z := fun z hz => by
  rcases vals_01 gs h z hz with rfl | rfl
  · exact ⟨by decide, by decide⟩
  · exact ⟨by decide, by decide⟩
end Sx
namespace Sx
open PySem PySem.Spec PyProof.Rows L2 LamX Pen Dat Ki Fi Gr No Lf Rp Su Sv Sw Wy Yd Yh Xg Yt Gd
/-! ## The law of sure values -/
section
variable {P : Program} {w : World} {K : PySem.W.Frag} {mg : Str → Option Value} {base : Heap} {f C CN CR fN fR c tb : Addr} {fd : FuncData}
theorem ok_law {g fM : Addr} {fdW fdM : FuncData} (F : FnP K "law" sLaw f fd) (T : Gr.Tx K mg C) (LF : Lf.Tx mg) (XT : Te K mg CN CR fN fR) (rep : mg "repr" = none) (zip : mg "zip" = none) (TB : TabB base mg c tb) (hcv : ∀ cv, fd.code = cv → cv = .ref c)
    (FW : FnP K "_law_why" sWhy g fdW) (gW : mg "_law_why" = some (.ref g))
    (mkM : Mk K C fM) (GM : FnOk P w K mg base CX0 4 fM fdM ["self", "leaves", "gates"] (spInit K C)) (gM : mg "Graph" = some (.ref C)) (bM : Binds K fdM ["self", "leaves", "gates"] [])
    {fP fD fK fQ fR fV fZ fS fN fO : Addr} {dP dD dK dQ dR dV dZ dS dN dO : FuncData}
    (GP : FnOk P w K mg base CX0 1 fP dP ["_law_script"] (spPen K)) (gP : mg "_law_pen" = some (.ref fP)) (kP : PySem.W.keepIn K (.ref fP) = true) (bP : Binds K dP ["_law_script"] [])
    (GD : FnOk P w K mg base CX0 1 fD dD ["_law_pen_here", "_law_many"] (spDraw)) (gD : mg "_law_draw" = some (.ref fD)) (kD : PySem.W.keepIn K (.ref fD) = true) (bD : Binds K dD ["_law_pen_here", "_law_many"] [])
    (GK : FnOk P w K mg base CX0 2 fK dK ["_law_pen_here", "_law_some"] (spPick K)) (gK : mg "_law_pick" = some (.ref fK)) (kK : PySem.W.keepIn K (.ref fK) = true) (bK : Binds K dK ["_law_pen_here", "_law_some"] [])
    (GQ : FnOk P w K mg base CX0 2 fQ dQ ["_law_pen_here", "_law_leaves", "_law_many"] (spDrawn K)) (gQ : mg "_law_drawn_gates" = some (.ref fQ)) (kQ : PySem.W.keepIn K (.ref fQ) = true) (bQ : Binds K dQ ["_law_pen_here", "_law_leaves", "_law_many"] [])
    (GR : FnOk P w K mg base CX0 2 fR dR ["_law_many"] (spRows K)) (gR : mg "_law_rows" = some (.ref fR)) (kR : PySem.W.keepIn K (.ref fR) = true) (bR : Binds K dR ["_law_many"] [])
    (GV : FnOk P w K mg base CX0 2 fV dV ["_law_leaves", "_law_gates", "_law_bits"] (spValues K)) (gV : mg "_law_values" = some (.ref fV)) (kV : PySem.W.keepIn K (.ref fV) = true) (bV : Binds K dV ["_law_leaves", "_law_gates", "_law_bits"] [])
    (GZ : FnOk P w K mg base CX0 3 fZ dZ ["_law_pen_here", "_law_leaves"] (spThree K)) (gZ : mg "_law_three_rows" = some (.ref fZ)) (kZ : PySem.W.keepIn K (.ref fZ) = true) (bZ : Binds K dZ ["_law_pen_here", "_law_leaves"] [])
    (GS : FnOk P w K mg base CX0 3 fS dS ["graph", "bits"] (spSure K C)) (gS : mg "sure_values" = some (.ref fS)) (kS : PySem.W.keepIn K (.ref fS) = true) (bS : Binds K dS ["graph", "bits"] [])
    (GN : FnOk P w K mg base CX0 3 fN dN ["graph", "bits"] (spNode K C)) (gN : mg "node_values" = some (.ref fN)) (kN : PySem.W.keepIn K (.ref fN) = true) (bN : Binds K dN ["graph", "bits"] [])
    (GO : FnOk P w K mg base CX0 2 fO dO ["_law_leaves", "_law_gates", "_law_bits"] (spOwnS K)) (gO : mg "_law_own_sure" = some (.ref fO)) (kO : PySem.W.keepIn K (.ref fO) = true) (bO : Binds K dO ["_law_leaves", "_law_gates", "_law_bits"] [])
    (GX : FnOk P w K mg base (L2.CX P w) 3 fS dS ["graph", "bits"] (spSureX K C CR)) :
    FnG P w K mg base CX0 7 f fd ["_law_script"] (spLaw K tb) := by
  refine mk_ofC F scLaw (fun vs H Q E h => ?_) (fun cdv A outer s H vs Q E hfc hg hr h => ?_)
  · obtain ⟨a, ns, rfl, _⟩ := h
    rfl
  · obtain ⟨a, ns, rfl, ha, hn, hT, q⟩ := h
    have hu := hu_of hr
    refine ⟨_, PSs.nox (pss_cons (ps_set (i := 1) scLaw.nd rfl (Or.inl rfl) (pe_call GP (hr.mono (by decide)) (by rfl) gP kP bP .nil pass0 (pa_cons (pv 0) pa_nil)))
      (pss_cons (ps_for PassesOwn.never rfl (pi_range1 (by rfl) LF.range (pa_cons pe_int pa_nil)) (pg_name (i := 2) scLaw.nd rfl (Or.inl rfl))
        (pss_cons (ps_set (i := 3) scLaw.nd rfl (Or.inr rfl) (pe_call GD (hr.mono (by decide)) (by rfl) gD kD bD .nil pass0 (pa_cons (pv 1) (pa_cons pe_int pa_nil))))
        (pss_cons (ps_set (i := 4) scLaw.nd rfl (Or.inr rfl) (pe_call GQ (hr.mono (by decide)) (by rfl) gQ kQ bQ .nil pass0 (pa_cons (pv 1) (pa_cons (pv 3) (pa_cons (pe_call GD (hr.mono (by decide)) (by rfl) gD kD bD .nil pass0 (pa_cons (pv 1) (pa_cons pe_int pa_nil))) pa_nil)))))
        (pss_cons (ps_asg (pe_tup (pa_cons (pe_make mkM GM (hr.mono (by decide)) (by rfl) gM bM .nil pass0 (pa_cons (pv 3) (pa_cons (pv 4) pa_nil))) (pa_cons (pe_call GR (hr.mono (by decide)) (by rfl) gR kR bR .nil pass0 (pa_cons (pv 3) pa_nil)) pa_nil))) (pg_tup rfl (pgs_cons (pg_name (i := 5) scLaw.nd rfl (Or.inr rfl)) (pgs_cons (pg_name (i := 6) scLaw.nd rfl (Or.inl rfl)) pgs_nil))))
        (C8.pss_cut (ps_setLc (i := 8) (own := [("_law_bits", 7)]) (g := gName 7) (tt := tYes) (by rfl) scLaw.nd rfl rfl (sw_true rfl rfl rfl (by decide +kernel)) (pi_list (pv 6)) (blkOk_by (N := nLaw) (sc := defScope sLaw) (by decide +kernel)) (fun _ _ _ _ _ => pg_name (i := 7) scLaw.nd rfl (Or.inl rfl)) (fun _ _ _ _ _ => pts_nil) (fun _ _ _ _ _ => (pe_tup (pa_cons (pv 7) (pa_cons (pe_call GV (hr.mono (by decide)) (by rfl) gV kV bV .nil pass0 (pa_cons (pv 3) (pa_cons (pv 4) (pa_cons (pv 7) pa_nil)))) pa_nil)))))
        (pss_cons (ps_for PassesOwn.never rfl (pi_list (pe_call GZ (hr.mono (by decide)) (by rfl) gZ kZ bZ .nil pass0 (pa_cons (pv 1) (pa_cons (pv 3) pa_nil)))) (pg_name (i := 9) scLaw.nd rfl (Or.inl rfl))
          (pss_cons (ps_set (i := 10) scLaw.nd rfl (Or.inl rfl) (pe_call GS (hr.mono (by decide)) (by rfl) gS kS bS .nil pass0 (pa_cons (pv 5) (pa_cons (pe_call GK (hr.mono (by decide)) (by rfl) gK kK bK .nil pass0 (pa_cons (pv 1) (pa_cons (pe_lst (pa_cons (pv 9) (pa_cons (pe_callTy call_list_of (by rfl) T.ki.list (by decide +kernel) (pa_cons (pv 9) pa_nil)) pa_nil))) pa_nil))) pa_nil))))
          (pss_cons (ps_if (pt_cmpR op_ne (pe_callB (id := "repr") (r := rSays K) (call_says (K := K) rfl hg (room_u hr)) (by rfl) rep (by decide +kernel) (pa_cons (pv 10) pa_nil)) (pe_callB (id := "repr") (r := rSays K) (call_says (K := K) rfl hg (room_u hr)) (by rfl) rep (by decide +kernel) (pa_cons (pe_call GO (hr.mono (by decide)) (by rfl) gO kO bO .nil pass0 (pa_cons (pv 3) (pa_cons (pv 4) (pa_cons (pv 9) pa_nil)))) pa_nil)) (nomark _))
            (pss_one (ps_ret pe_bl))
            pss_nil)
          (pss_one (ps_for PassesOwn.never rfl (pi_list (pv 8)) (pg_tup rfl (pgs_cons (pg_name (i := 7) scLaw.nd rfl (Or.inl rfl)) (pgs_cons (pg_name (i := 11) scLaw.nd rfl (Or.inl rfl)) pgs_nil)))
            (pss_one (ps_if (pt_cmpR (op_eqD hr.units) (pe_lc (own := [("_law_a", 12), ("_law_b", 13)]) (g := _) rfl scLaw.nd (Zp.pi_zipB (by rfl) zip (pa_cons (pv 9) (pa_cons (pv 7) pa_nil))) (blkOk_by (N := nLaw) (sc := defScope sLaw) (by decide +kernel)) (fun _ _ _ _ _ => (Us.pg_tupK (K := K) (n := 2) rfl rfl (pgs_cons (pg_name (i := 12) scLaw.nd rfl (Or.inl rfl)) (pgs_cons (pg_name (i := 13) scLaw.nd rfl (Or.inl rfl)) pgs_nil)))) (fun _ _ _ _ _ => pts_one (PW.pt (pw_and (pt_cmpR op_notN (pv 12) pe_non (nomark _)) (pw_and1 (pt_cmpR op_ne (pv 12) (pv 13) (nomark _)))))) (fun _ _ _ _ _ => pe_int)) (pe_lst pa_nil) (nomark _))
              (pss_one (ps_if (pt_cmpR (op_neD hr.units) (pe_lc (own := [("_law_a", 12), ("_law_b", 13)]) (g := _) rfl scLaw.nd (Zp.pi_zipB (by rfl) zip (pa_cons (pv 10) (pa_cons (pv 11) pa_nil))) (blkOk_by (N := nLaw) (sc := defScope sLaw) (by decide +kernel)) (fun _ _ _ _ _ => (Us.pg_tupK (K := K) (n := 2) rfl rfl (pgs_cons (pg_name (i := 12) scLaw.nd rfl (Or.inl rfl)) (pgs_cons (pg_name (i := 13) scLaw.nd rfl (Or.inl rfl)) pgs_nil)))) (fun _ _ _ _ _ => pts_one (PW.pt (pw_and (pt_cmpR op_notN (pv 12) pe_non (nomark _)) (pw_and1 (pt_cmpR op_ne (pv 12) (pv 13) (nomark _)))))) (fun _ _ _ _ _ => pe_int)) (pe_lst pa_nil) (nomark _))
                (pss_one (ps_ret pe_bl))
                pss_nil))
              pss_nil)))))))
        (pss_cons (ps_for PassesOwn.never rfl (pi_list (pe_slice sl_list (pv 6) po_none (po_some pe_int))) (pg_name (i := 7) scLaw.nd rfl (Or.inl rfl))
          (pss_one (ps_if (pt_cmpR (op_neD hr.units) (pe_call GS (hr.mono (by decide)) (by rfl) gS kS bS .nil pass0 (pa_cons (pv 5) (pa_cons (pv 7) pa_nil))) (pe_call GN (hr.mono (by decide)) (by rfl) gN kN bN .nil pass0 (pa_cons (pv 5) (pa_cons (pv 7) pa_nil))) (nomark _))
            (pss_one (ps_ret pe_bl))
            pss_nil)))
        (C8.pss_cut (ps_set (i := 14) scLaw.nd rfl (Or.inr rfl) (pe_call GK (hr.mono (by decide)) (by rfl) gK kK bK .nil pass0 (pa_cons (pv 1) (pa_cons (pe_lst (pa_cons pe_non (pa_cons pe_int (pa_cons (pe_op Tm.op_mulT (pe_tup (pa_cons pe_int pa_nil)) (pe_op op_add (pv 3) pe_int)) (pa_cons (pe_op op_catA (pe_op Tm.op_mulT (pe_tup (pa_cons pe_int pa_nil)) (pv 3)) (pe_tup (pa_cons pe_int pa_nil))) (pa_cons pe_str (pa_cons (pe_disp (pps_cons pe_int pe_int pps_nil) (by rfl) (by rfl) (fun z => by cases z) (by decide)) pa_nil))))))) pa_nil))))
        (pss_one (ps_if (pt_cmpR (op_neD hr.units) (pe_why (k := 4) FW gW XT.why hg (hr.mono (by decide)) TB (hcv cdv hfc) rfl (by rfl) (lamS_by (sc := defScope sLaw) (by decide +kernel)) (by rfl) (by intros; rfl) fun A outer s H E f c2 hr2 => pe_call GX (hr2.mono (by decide)) (by rfl) gS kS bS .nil (passes_call (takes_of rfl rfl rfl rfl) fun _ _ _ _ h => h) (pa_cons (pv 5) (pa_cons (pv 14) pa_nil))) (pe_tup (pa_cons pe_str (pa_cons (pe_callB (id := "repr") (r := rSays K) (call_says (K := K) rfl hg (room_u hr)) (by rfl) rep (by decide +kernel) (pa_cons (pv 14) pa_nil)) pa_nil))) (nomark _))
          (pss_one (ps_ret pe_bl))
          pss_nil))))))))))
      (pss_cons (ps_set (i := 15) scLaw.nd rfl (Or.inr rfl) (pe_make mkM GM (hr.mono (by decide)) (by rfl) gM bM .nil pass0 (pa_cons pe_int (pa_cons (pe_lst pa_nil) pa_nil))))
      (pss_cons (ps_set (i := 16) scLaw.nd rfl (Or.inr rfl) (pe_call GK (hr.mono (by decide)) (by rfl) gK kK bK .nil pass0 (pa_cons (pv 1) (pa_cons (pe_lst (pa_cons (pe_tup (pa_cons pe_int (pa_cons pe_int pa_nil))) (pa_cons (pe_tup (pa_cons pe_non (pa_cons pe_bl pa_nil))) (pa_cons (pe_tup (pa_cons pe_str (pa_cons pe_int pa_nil))) (pa_cons (pe_tup (pa_cons pe_int (pa_cons (pe_un un_neg pe_int) pa_nil))) (pa_cons (pe_lst (pa_cons pe_int (pa_cons (pe_tup (pa_cons pe_int pa_nil)) pa_nil))) pa_nil)))))) pa_nil))))
      (pss_one (ps_ret (pe_cmpR (op_eqD hr.units) (pe_why (k := 4) FW gW XT.why hg (hr.mono (by decide)) TB (hcv cdv hfc) rfl (by rfl) (lamS_by (sc := defScope sLaw) (by decide +kernel)) (by rfl) (by intros; rfl) fun A outer s H E f c2 hr2 => pe_call GX (hr2.mono (by decide)) (by rfl) gS kS bS .nil (passes_call (takes_of rfl rfl rfl rfl) fun _ _ _ _ h => h) (pa_cons (pv 15) (pa_cons (pv 16) pa_nil))) (pe_tup (pa_cons pe_str (pa_cons (pe_callB (id := "repr") (r := rSays K) (call_says (K := K) rfl hg (room_u hr)) (by rfl) rep (by decide +kernel) (pa_cons (pv 16) pa_nil)) pa_nil))) (nomark _)))))))), ?_⟩
    refine ⟨_, rfl, a, ns, rfl, ha, hn, fun p c0 H1 np s1 hp1 => ?_⟩
    have T1 : Tabs [(tb, lamQ)] H1 := fun z hz => by
      rw [List.mem_singleton.mp hz]
      exact TabS.nil (s1 _ _ hT)
    refine ⟨2, rfl, by decide, by decide, for_range (lo := 0) (n := 2)
      (fun i σ H2 => ∃ x2 x3 x4 x5 x6 x7 x8 x9 x10 x11 x14 : Option V, σ = [some (.ref a), some (.ref p), x2, x3, x4, x5, x6, x7, x8, x9, x10, x11, none, none, x14, none, none] ∧ Tabs [(tb, lamQ)] H2 ∧ ∃ m, m ≤ 1000 * i ∧ PenC H2 p c0 m)
      ⟨none, none, none, none, none, none, none, none, none, none, none, rfl, T1, 0, Nat.zero_le _, hp1⟩ ?_ ?_⟩
    · rintro i σ H2 hi ⟨x2, x3, x4, x5, x6, x7, x8, x9, x10, x11, x14, rfl, T2, m0, hm0, P2⟩
      refine ⟨_, rfl, p, c0, m0, 7, rfl, P2, by omega, by decide, by decide, fun n H3 n0 n7 P3 B3 => ?_⟩
      obtain ⟨n, rfl⟩ := Int.eq_ofNat_of_zero_le n0
      refine ⟨_, rfl, _, rfl, _, rfl, p, c0, m0 + 1, 17, rfl, P3, by omega, by decide, by decide, fun mm H4 k0 k17 P4 B4 => ?_⟩
      refine ⟨p, c0, m0 + 1 + 1, n, mm, rfl, P4, by omega, n0, by omega, k0, by omega, fun H5 g gs P5 B5 G5 ok5 len5 => ?_⟩
      have T5 := tabs_but B5 P4 (tabs_but B4 P3 (tabs_but B3 P2 T2))
      clear T2 P2 P3 P4 B3 B4 B5
      refine ⟨_, rfl, _, rfl, fun gr dg ngr ndg neg => mk_use ngr ndg n0 (by exact G5.row) (by omega) ok5 fun H6 s6 gr6 => ⟨rfl, ?_⟩⟩
      refine ⟨_, rfl, n, rfl, n0, by omega, fun H7 lr ws s7 hl7 a7 => ⟨len2, fun t nt => ⟨t, _, rfl, SqT.of upd_same, rfl, _, _, rfl, _, _, rfl, rfl, ?_⟩⟩⟩
      have st := same_new (u := .tup [.ref gr, .ref lr]) nt
      have T8 := (T5.ext s6).ext (fun b o e => st _ _ (s7 _ _ e))
      have P8 := P5.same (s6.trans (s7.trans st))
      have G8 := G5.firm (Firm.of (s6.trans (s7.trans st)))
      have gr8 := gr6.firm (Firm.of (s7.trans st))
      have hl8 := st _ _ hl7
      have a8 : All2 (Tu K _) ws (rowsM n) := a7.imp fun _ _ h => h.firm (Firm.of st)
      generalize upd H7 t _ = H8 at T8 P8 G8 gr8 hl8 a8 ⊢
      clear T5 P5 G5 s6 gr6 s7 hl7 a7 st nt ngr ndg
      have hrow := fun r (hr : r ∈ rowsM n) => rowsM_mem n r hr
      have few : gs.length ≤ 16 := by omega
      have n6 : n < 7 := by omega
      have x2v := i
      refine ⟨fun σ H' => ∃ (lw : Addr) (x2 x7 x9 x10 x11 x14 : Option V), σ = [some (.ref a), some (.ref p), x2, some (.int n), some (.ref g), some (.ref gr), some (.ref lr), x7, some (.ref lw), x9, x10, x11, none, none, x14, none, none] ∧ Fx K C H' (m0 + 40) p c0 tb n gs g gr lr lw, ?_, ?_⟩
      · refine ⟨_, rfl, lr, rfl, ⟨_, SqL.of hl8⟩, fun D nD => ?_⟩
        have sD := same_new (u := .lst []) nD
        refine lc_list (K := K) (a := lr) (xs := ws) (fun j H' => Same H8 H' ∧ ∃ us, H' D = some (.lst us) ∧ All2 (WpD H' D gs) us ((rowsM n).take j)) ⟨sD, [], upd_same, .nil⟩ (fun j H' _ ⟨s, _⟩ => SqL.of (s _ _ hl8)) ?_ ?_
        · rintro j x H' hj ⟨s, us, hu, au⟩
          obtain ⟨r, hr0, q0, rfl, hq0⟩ := a8.get hj
          obtain ⟨rl, r01⟩ := hrow r (List.mem_of_getElem? hr0)
          refine ⟨rfl, yes_of ?_⟩
          refine ⟨_, rfl, _, rfl, _, rfl, _, rfl, .int n, g, q0, gs, r, rfl, G8.firm (Firm.of s), SqT.of (s _ _ hq0), r01, by rw [rl]; exact ok5, by omega, by omega, fun H9 l9 s9 nl9 hl9 => ⟨len2, fun t9 nt9 => ?_⟩⟩
          have st9 := same_new (u := .tup [.ref q0, .ref l9]) nt9
          have hu9 := st9 _ _ (s9 _ _ hu)
          have q0D : l9 ≠ D := fun z => by
            rw [z, hu] at nl9
            cases nl9
          have wn : WpD (upd H9 t9 (.tup [.ref q0, .ref l9])) D gs (.ref t9) r := ⟨t9, q0, l9, rfl, upd_same, st9 _ _ (s9 _ _ (s _ _ hq0)), st9 _ _ hl9, q0D⟩
          refine ⟨us, hu9, ?_, fun b o e => ?_, us ++ [.ref t9], upd_same, ?_⟩
          · rw [au.len, List.length_take]
            refine Nat.lt_of_le_of_lt (Nat.min_le_right _ _) ?_
            rw [rowsM_len]
            exact Nat.lt_of_le_of_lt (Nat.pow_le_pow_right (by decide) (by omega : n ≤ 6)) (by decide)
          · rw [upd_ne (ne_of_none e nD)]
            exact st9 _ _ (s9 _ _ (s _ _ e))
          · rw [take_more hr0]
            exact (au.imp fun _ _ h => ((h.same s9).same st9).put hu9).snoc (wn.put hu9)
        · rintro H' ⟨s, us, hu, au⟩
          rw [a8.len, List.take_length] at au
          exact ⟨D, _, _, _, _, _, _, rfl, ⟨⟨_, by omega, P8.same s⟩, T8.ext s, n6, G8.firm (Firm.of s), ok5, few, gr8.firm (Firm.of s), ⟨_, s _ _ hl8, a8.imp fun _ _ h => h.firm (Firm.of s)⟩, ⟨_, hu, au.imp fun _ _ h => h.wp⟩⟩⟩
      clear T8 P8 G8 gr8 hl8 a8
      rintro σ H9 ⟨lw, x2, x7, x9, x10, x11, x14, rfl, F9⟩
      obtain ⟨m9, hm9, P9⟩ := F9.pen
      refine ⟨_, rfl, _, rfl, p, c0, m9, n, rfl, P9, by omega, by omega, by omega, fun H10 l rws rs P10 B10 hl10 a10 m10 z10 => ?_⟩
      have F10 := F9.to B10 P10 (by omega : m9 + 72 ≤ m0 + 200)
      clear F9 P9 B10
      refine ⟨l, rfl, ⟨_, SqL.of hl10⟩, for_list (K := K) (a := l) (xs := rws)
        (fun i σ H' => ∃ x2 x7 x9 x10 x11 x14 : Option V, σ = [some (.ref a), some (.ref p), x2, some (.int n), some (.ref g), some (.ref gr), some (.ref lr), x7, some (.ref lw), x9, x10, x11, none, none, x14, none, none] ∧ Fx K C H' (m0 + 200 + i) p c0 tb n gs g gr lr lw ∧ But p H10 H')
        ⟨_, _, _, _, _, _, rfl, F10, But.refl⟩ (fun i σ H' _ ⟨_, _, _, _, _, _, _, _, b⟩ => SqL.of ((F10.kp b).lst hl10)) ?_ ?_⟩
      · rintro i v σ H11 hi ⟨x2, x7, x9, x10, x11, x14, rfl, F11, B11⟩
        obtain ⟨f, hf, q0, rfl, hq0⟩ := a10.get hi
        obtain ⟨fl, f01⟩ := m10 f (List.mem_of_getElem? hf)
        have fl : f.length = n := fl
        have i81 : i < 81 := by
          have z := (List.getElem?_eq_some_iff.mp hf).1
          omega
        have hq := (F10.kp B11).tup hq0
        obtain ⟨m11, hm11, P11⟩ := F11.pen
        refine ⟨_, rfl, _, rfl, _, rfl, _, rfl, q0, _, rfl, .inr (SqT.of hq), fun l1 nl1 => ⟨len2, fun l2 nl2 => ?_⟩⟩
        have s1' := same_new (u := .lst (f.map oV)) nl1
        have s2' := same_new (u := .lst [.ref q0, .ref l1]) nl2
        have P12 := P11.same (s1'.trans s2')
        refine ⟨p, c0, l2, m11, [.ref q0, .ref l1], rfl, P12, by omega, pen_lst P12 upd_same, SqL.of upd_same, (by show 0 < 2; decide), (by show 2 ≤ 1000; decide), fun v ii H12 hv P13 B13 => ?_⟩
        have F12 := (F11.same (s1'.trans s2')).to B13 P13 (by omega : m11 + 1 ≤ m0 + 200 + i + 1)
        have k12 := (F11.same (s1'.trans s2')).kp B13
        have hq12 := k12.tup (s2' _ _ (s1' _ _ hq))
        have sq : SeqO K H12 v f := by
          match ii, hv with
          | 0, hv => exact ⟨q0, (Option.some.inj hv).symm, .inr (SqT.of hq12)⟩
          | 1, hv => exact ⟨l1, (Option.some.inj hv).symm, .inl (SqL.of (k12.lst (s2' _ _ upd_same)))⟩
          | ii + 2, hv => simp at hv
        have B12 : But p H10 H12 := B11.trans ((But.of_same (s1'.trans s2')).trans B13)
        clear k12 F11 P11 P12 P13 s1' s2' nl1 nl2 B13
        refine ⟨gr, v, gs, f, rfl, by rw [fl]; exact F12.gr, sq, f01, by rw [fl]; exact F12.ok, by omega, by omega, fun H13 t s13 ht => ?_⟩
        have F13 := F12.same s13
        have fs := sures_S gs f01
        have fsl : (sures f gs).length ≤ 1000 := by
          rw [sures_len]
          omega
        refine ⟨_, rfl, .ref t, _, rfl, opts_says ht fs fsl, _, rfl, _, rfl, _, rfl, .int n, g, q0, gs, f, rfl, F13.gt, s13 _ _ hq12, f01, by rw [fl]; exact F13.ok, by omega, by omega, fun H14 t2 s14 ht2 => ⟨.ref t2, _, rfl, opts_says ht2 fs fsl, rfl, _, rfl, goF (by simp) ?_⟩⟩
        have F14 := F13.same s14
        have ht14 := s14 _ _ ht
        have hq14 := s14 _ _ (s13 _ _ hq12)
        have B14 := B12.trans (But.of_same (s13.trans s14))
        clear F12 F13 hq12 sq ht ht2
        obtain ⟨ww, w1, w2⟩ := F14.whole
        refine ⟨_, rfl, lw, rfl, ⟨_, SqL.of w1⟩, for_list (K := K) (a := lw) (xs := ww)
          (fun j σ H' => ∃ x2 x7 x11 x14 : Option V, σ = [some (.ref a), some (.ref p), x2, some (.int n), some (.ref g), some (.ref gr), some (.ref lr), x7, some (.ref lw), some (.ref q0), some (.ref t), x11, none, none, x14, none, none] ∧ Same H14 H')
          ⟨_, _, _, _, rfl, fun _ _ e => e⟩ (fun j σ H' _ ⟨_, _, _, _, _, s⟩ => SqL.of (s _ _ w1)) ?_ ?_⟩
        · rintro j x σ H15 hj ⟨x2, x7, x11, x14, rfl, s15⟩
          obtain ⟨r, hr, t8, b8, q8, rfl, e1, e2, e3⟩ := w2.get hj
          obtain ⟨rl, r01⟩ := hrow r (List.mem_of_getElem? hr)
          have e1 := s15 _ _ e1
          have e2 := s15 _ _ e2
          have e3 := s15 _ _ e3
          refine ⟨t8, _, rfl, SqT.of e1, rfl, _, _, rfl, _, _, rfl, rfl, ?_⟩
          have lr1 : f.length = r.length := by rw [fl, rl]
          refine ⟨_, rfl, _, rfl, false, false, q0, b8, (f).map oV, (r).map V.int, rfl, SqT.of (s15 _ _ hq14), (SqT.of e2), fun D16 nD16 => ?_⟩
          refine Zp.lc_zipB (K := K) (t := false) (u := false) (a := q0) (b := b8) (xs := (f).map oV) (ys := (r).map V.int) (by rw [List.length_map, List.length_map]; exact lr1)
            (fun j H' => Same H15 H' ∧ H' D16 = some (.lst ((ones (clash ((f).take j) ((r).take j))).map V.int))) ⟨same_new nD16, upd_same⟩
            (fun j H' ⟨s, _⟩ => ⟨sqB_same (t := false) s (SqT.of (s15 _ _ hq14)), sqB_same (t := false) s ((SqT.of e2))⟩) ?_ ?_
          · rintro j x y q' H' hx hy ⟨s, hD⟩ nq
            rw [List.getElem?_map] at hx hy
            obtain ⟨z, hz, rfl⟩ := Option.map_eq_some_iff.mp hx
            obtain ⟨u', hu', rfl⟩ := Option.map_eq_some_iff.mp hy
            have sq := same_new (u := .tup [oV z, .int u']) nq
            have ct := clash_take hz hu'
            refine ⟨q', _, rfl, SqT.of upd_same, rfl, _, _, rfl, _, _, rfl, rfl, rfl, ?_⟩
            have hD2 := sq _ _ hD
            cases z with
            | none => exact ⟨_, rfl, rfl, _, rfl, iteF (iteF ⟨s.trans sq, by rw [ct]; exact hD2⟩)⟩
            | some x0 =>
              refine ⟨_, rfl, rfl, _, rfl, iteT ⟨_, rfl, _, rfl, rfl, _, rfl, ?_⟩⟩
              by_cases ex : x0 = u'
              · refine goF (by simp [ex, oV]) ⟨s.trans sq, ?_⟩
                rw [ct, show cl1 (some x0) u' = 0 from if_pos ex]
                exact hD2
              · refine goT (by simp [ex, oV]) ⟨_, hD2, ?_, fun b o e => ?_, ?_⟩
                · rw [List.length_map]
                  have z1 := clash_le ((f).take j) ((r).take j)
                  rw [List.length_take] at z1
                  show (ones _).length < sizeLine
                  rw [show (ones (clash ((f).take j) ((r).take j))).length = clash ((f).take j) ((r).take j) from List.length_replicate]
                  exact Nat.lt_of_le_of_lt z1 (Nat.lt_of_le_of_lt (Nat.min_le_right _ _) (Nat.lt_of_le_of_lt (by omega : f.length ≤ 6) (by decide)))
                · rw [upd_ne (ne_of_none e nD16)]
                  exact sq _ _ (s _ _ e)
                · rw [upd_same, ct, show cl1 (some x0) u' = 1 from if_neg ex, ones_more]
          rintro H16 ⟨s16, hD16⟩
          rw [List.length_map, List.take_length, show (r).take (f).length = (r) from by rw [lr1, List.take_length]] at hD16
          refine ⟨len0, fun l0 nl0 => ⟨_, _, ones_dp (same_new nl0 _ _ hD16), ll upd_same .nil, (ints_lay (ones_small _)).1, rfl, _, rfl, ?_⟩⟩
          rw [ones_eqv]
          have s17 := s16.trans (same_new (u := .lst []) nl0)
          refine ite2 (fun h0 => ?_) (fun _ => ⟨_, _, _, _, rfl, s15.trans s17⟩)
          have fi := clash_fills lr1 (of_decide_eq_true h0)
          have fi2 := fills_sures gs fi f01
          have cz := fills_clash fi2
          have lr2 : (sures f gs).length = (vals r gs).length := fi2.1
          generalize upd H16 l0 _ = H17 at s17 ⊢
          have ht17 := s17 _ _ (s15 _ _ ht14)
          have hq17 := s17 _ _ e3
          refine ⟨_, rfl, _, rfl, false, true, t, q8, (sures f gs).map oV, (vals r gs).map V.int, rfl, SqT.of ht17, (SqL.of hq17), fun D18 nD18 => ?_⟩
          refine Zp.lc_zipB (K := K) (t := false) (u := true) (a := t) (b := q8) (xs := (sures f gs).map oV) (ys := (vals r gs).map V.int) (by rw [List.length_map, List.length_map]; exact lr2)
            (fun j H' => Same H17 H' ∧ H' D18 = some (.lst ((ones (clash ((sures f gs).take j) ((vals r gs).take j))).map V.int))) ⟨same_new nD18, upd_same⟩
            (fun j H' ⟨s, _⟩ => ⟨sqB_same (t := false) s (SqT.of ht17), sqB_same (t := true) s ((SqL.of hq17))⟩) ?_ ?_
          · rintro j x y q' H' hx hy ⟨s, hD⟩ nq
            rw [List.getElem?_map] at hx hy
            obtain ⟨z, hz, rfl⟩ := Option.map_eq_some_iff.mp hx
            obtain ⟨u', hu', rfl⟩ := Option.map_eq_some_iff.mp hy
            have sq := same_new (u := .tup [oV z, .int u']) nq
            have ct := clash_take hz hu'
            refine ⟨q', _, rfl, SqT.of upd_same, rfl, _, _, rfl, _, _, rfl, rfl, rfl, ?_⟩
            have hD2 := sq _ _ hD
            cases z with
            | none => exact ⟨_, rfl, rfl, _, rfl, iteF (iteF ⟨s.trans sq, by rw [ct]; exact hD2⟩)⟩
            | some x0 =>
              refine ⟨_, rfl, rfl, _, rfl, iteT ⟨_, rfl, _, rfl, rfl, _, rfl, ?_⟩⟩
              by_cases ex : x0 = u'
              · refine goF (by simp [ex, oV]) ⟨s.trans sq, ?_⟩
                rw [ct, show cl1 (some x0) u' = 0 from if_pos ex]
                exact hD2
              · refine goT (by simp [ex, oV]) ⟨_, hD2, ?_, fun b o e => ?_, ?_⟩
                · rw [List.length_map]
                  have z1 := clash_le ((sures f gs).take j) ((vals r gs).take j)
                  rw [List.length_take] at z1
                  show (ones _).length < sizeLine
                  rw [show (ones (clash ((sures f gs).take j) ((vals r gs).take j))).length = clash ((sures f gs).take j) ((vals r gs).take j) from List.length_replicate]
                  exact Nat.lt_of_le_of_lt z1 (Nat.lt_of_le_of_lt (Nat.min_le_right _ _) (Nat.lt_of_le_of_lt fsl (by decide)))
                · rw [upd_ne (ne_of_none e nD18)]
                  exact sq _ _ (s _ _ e)
                · rw [upd_same, ct, show cl1 (some x0) u' = 1 from if_neg ex, ones_more]
          rintro H18 ⟨s18, hD18⟩
          rw [List.length_map, List.take_length, show (vals r gs).take (sures f gs).length = (vals r gs) from by rw [lr2, List.take_length]] at hD18
          rw [cz] at hD18
          refine ⟨len0, fun l9 nl9 => ⟨_, _, ones_dp (same_new nl9 _ _ hD18), ll upd_same .nil, (ints_lay (ones_small _)).1, rfl, _, rfl, ?_⟩⟩
          rw [ones_eqv]
          refine goF rfl ⟨_, _, _, _, rfl, s15.trans (s17.trans (s18.trans (same_new nl9)))⟩
        · rintro σ H15 ⟨x2, x7, x11, x14, rfl, s15⟩
          exact ⟨_, _, _, _, _, _, rfl, F14.same s15, B14.trans (But.of_same s15)⟩
      rintro σ H11 ⟨x2, x7, x9, x10, x11, x14, rfl, F11, B11⟩
      have zl := a10.len
      clear F10 hl10 a10 m10 P10
      have F11 : Fx K C H11 (m0 + 300) p c0 tb n gs g gr lr lw := by
        obtain ⟨m, hm, hp⟩ := F11.pen
        exact F11.to But.refl hp (by omega)
      obtain ⟨ws', r1, r2⟩ := F11.rows
      refine ⟨_, rfl, _, rfl, lr, _, rfl, SqL.of r1, fun l8 nl8 => ⟨l8, rfl, ⟨_, SqL.of upd_same⟩, for_list (K := K) (a := l8) (xs := cutV ws' none (some 8))
        (fun i σ H' => ∃ x2 x7 x9 x10 x11 x14 : Option V, σ = [some (.ref a), some (.ref p), x2, some (.int n), some (.ref g), some (.ref gr), some (.ref lr), x7, some (.ref lw), x9, x10, x11, none, none, x14, none, none] ∧ Same (upd H11 l8 (.lst (cutV ws' none (some 8)))) H')
        ⟨_, _, _, _, _, _, rfl, fun _ _ e => e⟩ (fun i σ H' _ ⟨_, _, _, _, _, _, _, s⟩ => SqL.of (s _ _ upd_same)) ?_ ?_⟩⟩
      · rintro i v σ H12 hi ⟨x2, x7, x9, x10, x11, x14, rfl, s12⟩
        have s12q := s12
        have s12 := (same_new nl8).trans s12
        obtain ⟨r, hr, b, rfl, hb⟩ := r2.get (cut8 hi)
        obtain ⟨rl, r01⟩ := hrow r (List.mem_of_getElem? hr)
        have F12 := F11.same s12
        have hb := s12 _ _ hb
        have rl2 : (r.map some).length = n := by rw [List.length_map]; exact rl
        have full := full_sures r01 (by rw [rl]; exact F12.ok)
        refine ⟨_, rfl, _, rfl, gr, .ref b, gs, r.map some, rfl, by rw [rl2]; exact F12.gr, ⟨b, rfl, .inr (SqT.of (by rw [oV_some]; exact hb))⟩, some_S r01, by rw [rl2]; exact F12.ok, by omega, by omega, fun H13 t s13 ht => ?_⟩
        rw [full, oV_some] at ht
        refine ⟨_, rfl, _, rfl, gr, .ref b, gs, r, rfl, by rw [rl]; exact (F12.same s13).gr, ⟨b, rfl, .inr (SqT.of (s13 _ _ hb))⟩, r01, by rw [rl]; exact F12.ok, by omega, by omega, fun H14 t2 s14 ht2 => ?_⟩
        have sh := (ints_lay (vals_small (gs := gs) r01)).2
        refine ⟨_, _, tl (s14 _ _ ht) (ints_dp _), .tup ht2 (ints_dp _), sh, sh, _, rfl, goF ?_ ?_⟩
        · rw [SeqAt.eqv_refl _ (SeqAt.canLay_of_shaped sh)]
          rfl
        · exact ⟨_, _, _, _, _, _, rfl, s12q.trans (s13.trans s14)⟩
      rintro σ H12 ⟨x2, x7, x9, x10, x11, x14, rfl, s12⟩
      have F12 := F11.same ((same_new nl8).trans s12)
      clear F11 r2 r1 B11
      obtain ⟨m12, hm12, P12⟩ := F12.pen
      refine ⟨fun σ H' => ∃ (x2 x7 x9 x10 x11 : Option V) (v : V) (x : Str), σ = [some (.ref a), some (.ref p), x2, some (.int n), some (.ref g), some (.ref gr), some (.ref lr), x7, some (.ref lw), x9, x10, x11, none, none, some v, none, none] ∧ Fx K C H' (m0 + 400) p c0 tb n gs g gr lr lw ∧ BadS K H' n v x, ?_, ?_⟩
      · refine ⟨_, rfl, len1, fun t0 nt0 => ⟨_, rfl, _, _, rfl, rfl, ?_⟩⟩
        have A0 := same_new (u := .tup [.int 0]) nt0
        refine mulT_use (k := n + 1) upd_same (by omega) fun t1 H13 A1 e1 => ⟨len1, fun t2 nt2 => ⟨_, rfl, ?_⟩⟩
        have A2 := same_new (u := .tup [.int 2]) nt2
        refine mulT_use (k := n) upd_same (by omega) fun t3 H14 A3 e3 => ⟨len1, fun t4 nt4 => ?_⟩
        have A4 := same_new (u := .tup [.int 2]) nt4
        refine catA_use (SqT.of (A4 _ _ e3)) upd_same (by simp) ?_ fun t5 H15 A5 e5 => ?_
        · rw [List.length_replicate]
          exact Nat.le_trans (by show n + 1 ≤ 10; omega) (by decide)
        refine fun dd nd => ⟨upd_same, [(.inl 0, .int 1)], rfl, (by show 1 ≤ 15; decide), len6, fun lo nlo => ?_⟩
        have A6 := same_two (u := .dK []) (v := .dK [(.inl 0, .int 1)]) nd
        have A7 := same_new (u := .lst [.non, .int 5, .ref t1, .ref t5, .str "01", .ref dd]) nlo
        have Z := A0.trans (A1.trans (A2.trans (A3.trans (A4.trans (A5.trans (A6.trans A7))))))
        have P13 := P12.same Z
        refine ⟨p, c0, lo, m12, _, rfl, P13, by omega, pen_lst P13 upd_same, SqL.of upd_same, (by show 0 < 6; decide), (by show 6 ≤ 1000; decide), fun v i H16 hv P14 B14 => ?_⟩
        have F16 := (F12.same Z).to B14 P14 (by omega : m12 + 1 ≤ m0 + 400)
        have st := ((F12.same Z).kp B14).stay
        obtain ⟨x, bad⟩ := bad_pick (K := K) n6 hv ((A2.trans (A3.trans (A4.trans (A5.trans (A6.trans A7))))) _ _ e1) ((A6.trans A7) _ _ e5) (A7 _ _ upd_same)
        exact ⟨_, _, _, _, _, v, x, rfl, F16, bad.stay st⟩
      clear F12 P12 s12
      rintro σ H13 ⟨x2, x7, x9, x10, x11, v, x, rfl, F13, bad⟩
      refine ⟨F13.tab, fun H14 e14 T14 => ?_⟩
      have b14 := bad.stay (Stay.extN e14)
      obtain ⟨m13, hm13, P13⟩ := F13.pen
      have P14 := pen_extN e14 P13
      have g14 := F13.gr.firm (Stay.extN e14).firm
      clear F13 bad P13
      refine ⟨_, rfl, _, rfl, gr, v, n, gs, rfl, g14, row_of b14.says fun H15 t s15 e15 => ?_, b14.imp (fun ⟨d, h1, _, _, h2, h3⟩ => ⟨d, h1, h2, h3⟩) fun ⟨a, h1, h2, _⟩ => ⟨a, _, h1, h2⟩⟩
      refine ⟨_, rfl, v, _, rfl, says_stay (Stay.of s15) b14.says, len2, fun t2 n2 => ?_⟩
      have s16 := same_new (u := .tup [.str "row", .str x]) n2
      have hs := two_sh (a := "row") (by decide +kernel) b14.ok
      refine ⟨_, _, strs2 (s16 _ _ e15), strs2 upd_same, hs, hs, _, rfl, goF (by rw [two_eqv]; rfl) ?_⟩
      exact ⟨_, _, _, _, _, _, _, _, _, _, _, rfl, T14.ext (s15.trans s16), m13, by omega, P14.same (s15.trans s16)⟩
    · rintro σ H2 ⟨x2, x3, x4, x5, x6, x7, x8, x9, x10, x11, x14, rfl, T2, m2, hm2, P2⟩
      refine ⟨len0, fun l nl => fun o1 d1 n1 nd1 ne1 => mk_use n1 nd1 (by decide) ⟨l, [], rfl, .inl (SqL.of upd_same), .nil⟩ (by decide) rfl fun H3 s3 g3 => ⟨rfl, ?_⟩⟩
      have s3 := (same_new (u := .lst []) nl).trans s3
      have T3 := T2.ext s3
      have P3 := P2.same s3
      clear T2 P2 s3
      refine ⟨_, rfl, len2, fun t1 n1 => ⟨len2, fun t2 n2 => ⟨len2, fun t3 n3 => ⟨_, rfl, len2, fun t4 n4 => ⟨len1, fun t5 n5 => ⟨len2, fun l6 n6 => ⟨(by show 5 ≤ sizeLine; decide), fun lo nlo => ?_⟩⟩⟩⟩⟩⟩⟩
      have A1 := same_new (u := .tup [.int 0, .int 2]) n1
      have A2 := same_new (u := .tup [.non, .bl true]) n2
      have A3 := same_new (u := .tup [.str "0", .int 1]) n3
      have A4 := same_new (u := .tup [.int 1, .int (-1)]) n4
      have A5 := same_new (u := .tup [.int 0]) n5
      have A6 := same_new (u := .lst [.int 0, .ref t5]) n6
      have A7 := same_new (u := .lst [.ref t1, .ref t2, .ref t3, .ref t4, .ref l6]) nlo
      have Z6 := A6.trans A7
      have Z5 := A5.trans Z6
      have Z4 := A4.trans Z5
      have Z3 := A3.trans Z4
      have Z2 := A2.trans Z3
      have Z := A1.trans Z2
      have P4 := P3.same Z
      refine ⟨p, c0, lo, m2, _, rfl, P4, by omega, pen_lst P4 upd_same, SqL.of upd_same, (by show 0 < 5; decide), (by show 5 ≤ 1000; decide), fun v i H5 hv P5 B5 => ?_⟩
      have kp : Kp p c0 _ H5 := ⟨B5, pen_dict P4⟩
      obtain ⟨x, bad⟩ := wrong_pick (K := K) hv (Z2 _ _ upd_same) (Z3 _ _ upd_same) (Z4 _ _ upd_same) (Z5 _ _ upd_same) (Z6 _ _ upd_same) (A7 _ _ upd_same)
      have b5 := bad.stay kp.stay
      have T5 := kp.tabs P4 (T3.ext Z)
      have g5 := (g3.firm (Firm.of Z)).firm kp.firm
      refine ⟨T5, fun H6 e6 T6 => ?_⟩
      have b6 := b5.stay (Stay.extN e6)
      have g6 := g5.firm (Stay.extN e6).firm
      refine ⟨_, rfl, _, rfl, o1, v, 2, [], rfl, g6, row_of b6.says fun H7 t s7 e7 => ?_, b6.imp (fun ⟨d, h1, _, _, h2, h3⟩ => ⟨d, h1, h2, h3⟩) fun ⟨a, h1, h2, _⟩ => ⟨a, _, h1, h2⟩⟩
      refine ⟨_, rfl, v, _, rfl, says_stay (Stay.of s7) b6.says, len2, fun t9 n9 => ?_⟩
      have s8 := same_new (u := .tup [.str "row", .str x]) n9
      have hs := two_sh (a := "row") (by decide +kernel) b6.ok
      refine ⟨_, _, strs2 (s8 _ _ e7), strs2 upd_same, hs, hs, ?_⟩
      rw [two_eqv]
      exact q _
end
end Sx
namespace E18
open PySem PySem.Spec PyProof.Rows L2 Pen Dat Ki Fi Gr No Lf Rp Su Sv Sw Wy Yd Yh Xg Yt Sx Gd He
def ds_is_between : DefD := ⟨("is_between", none), "is_between", "is_between", defArgs sBetween, defBody sBetween, defScope sBetween, [], []⟩
def ds_is_from : DefD := ⟨("is_from", none), "is_from", "is_from", defArgs sFrom, defBody sFrom, defScope sFrom, [], []⟩
def ds_is_row : DefD := ⟨("is_row", none), "is_row", "is_row", defArgs sRow, defBody sRow, defScope sRow, [], []⟩
def ds_is_row_between : DefD := ⟨("is_row_between", none), "is_row_between", "is_row_between", defArgs sRowB, defBody sRowB, defScope sRowB, [], []⟩
def ds_need_leaves : DefD := ⟨("need_leaves", none), "need_leaves", "need_leaves", defArgs sNeed, defBody sNeed, defScope sNeed, [], []⟩
def ds_are_gates : DefD := ⟨("are_gates", none), "are_gates", "are_gates", defArgs sGates, defBody sGates, defScope sGates, [], []⟩
def ds_node_values : DefD := ⟨("node_values", none), "node_values", "node_values", defArgs sNode, defBody sNode, defScope sNode, [], []⟩
def ds_literal_value : DefD := ⟨("literal_value", none), "literal_value", "literal_value", defArgs sLit, defBody sLit, defScope sLit, [], []⟩
def ds_are_sure_bits : DefD := ⟨("are_sure_bits", none), "are_sure_bits", "are_sure_bits", defArgs sAreS, defBody sAreS, defScope sAreS, [], []⟩
def ds_sure_values : DefD := ⟨("sure_values", none), "sure_values", "sure_values", defArgs sSure, defBody sSure, defScope sSure, [], []⟩
def ds_sure_and : DefD := ⟨("sure_and", none), "sure_and", "sure_and", defArgs sSAnd, defBody sSAnd, defScope sSAnd, [], []⟩
def ds__law_pen : DefD := ⟨("_law_pen", none), "_law_pen", "_law_pen", defArgs sPen, defBody sPen, defScope sPen, [], []⟩
def ds__law_draw : DefD := ⟨("_law_draw", none), "_law_draw", "_law_draw", defArgs sDraw, defBody sDraw, defScope sDraw, [], []⟩
def ds__law_pick : DefD := ⟨("_law_pick", none), "_law_pick", "_law_pick", defArgs sPick, defBody sPick, defScope sPick, [], []⟩
def ds__law_drawn_gates : DefD := ⟨("_law_drawn_gates", none), "_law_drawn_gates", "_law_drawn_gates", defArgs sDrawn, defBody sDrawn, defScope sDrawn, [], []⟩
def ds__law_values : DefD := ⟨("_law_values", none), "_law_values", "_law_values", defArgs sValues, defBody sValues, defScope sValues, [], []⟩
def ds__law_bit : DefD := ⟨("_law_bit", none), "_law_bit", "_law_bit", defArgs sBit, defBody sBit, defScope sBit, [], []⟩
def ds__law_longer : DefD := ⟨("_law_longer", none), "_law_longer", "_law_longer", defArgs sLonger, defBody sLonger, defScope sLonger, [], []⟩
def ds__law_rows : DefD := ⟨("_law_rows", none), "_law_rows", "_law_rows", defArgs sRows, defBody sRows, defScope sRows, [], []⟩
def ds__law_why : DefD := ⟨("_law_why", none), "_law_why", "_law_why", defArgs sWhy, defBody sWhy, defScope sWhy, [], []⟩
def ds__law_own_sure : DefD := ⟨("_law_own_sure", none), "_law_own_sure", "_law_own_sure", defArgs sOwnS, defBody sOwnS, defScope sOwnS, [], []⟩
def ds__law_three_rows : DefD := ⟨("_law_three_rows", none), "_law_three_rows", "_law_three_rows", defArgs sThree, defBody sThree, defScope sThree, [], []⟩
def ds_law : DefD := ⟨("law", none), "law", "law", defArgs sLaw, defBody sLaw, defScope sLaw, [], []⟩
def di_BadNumber___init__ : DefD := ⟨("BadNumber", some "__init__"), "__init__", "BadNumber.__init__", defArgs sNumI, defBody sNumI, defScope sNumI, [], []⟩
def di_BadRow___init__ : DefD := ⟨("BadRow", some "__init__"), "__init__", "BadRow.__init__", defArgs sRowI, defBody sRowI, defScope sRowI, [], []⟩
def di_Graph___init__ : DefD := ⟨("Graph", some "__init__"), "__init__", "Graph.__init__", defArgs sInit, defBody sInit, defScope sInit, [], []⟩
def fn : List DefD := [ds_is_between, ds_is_from, ds_is_row, ds_is_row_between, ds_need_leaves, ds_are_gates, ds_node_values, ds_literal_value, ds_are_sure_bits, ds_sure_values, ds_sure_and, ds__law_pen, ds__law_draw, ds__law_pick, ds__law_drawn_gates, ds__law_values, ds__law_bit, ds__law_longer, ds__law_rows, ds__law_why, ds__law_own_sure, ds__law_three_rows, ds_law, di_BadNumber___init__, di_BadRow___init__, di_Graph___init__]
def fa : List Fa := [.glo "is_between", .glo "is_from", .glo "is_row", .glo "is_row_between", .glo "need_leaves", .glo "are_gates", .glo "node_values", .glo "literal_value", .glo "are_sure_bits", .glo "sure_values", .glo "sure_and", .glo "_law_pen", .glo "_law_draw", .glo "_law_pick", .glo "_law_drawn_gates", .glo "_law_values", .glo "_law_bit", .glo "_law_longer", .glo "_law_rows", .glo "_law_why", .glo "_law_own_sure", .glo "_law_three_rows", .glo "law", .glo "Graph", .glo "BadNumber", .glo "BadRow", .free "isinstance", .free "int", .free "bool", .free "tuple", .free "list", .free "len", .free "all", .free "abs", .free "range", .free "repr", .free "zip", .cls "Graph", .mkr "Graph", .noat "Graph" "leaves", .noat "Graph" "gates"]
abbrev cGraph (K : PySem.W.Frag) : Addr := ga K "Graph"
def exB (K : PySem.W.Frag) : Bool := (decide (PySem.W.findIn K (.ref (cGraph K)) "__class__" = some (some (.builtin "object.__class__"))) && (decide (PySem.W.specialIn K (.builtin "object.__class__") "__get__" = some (some (.builtin "getset_descriptor.__get__"))) && (decide (PySem.W.takesIn K (.builtin "object.__class__") = some true) && (decide (PySem.W.mroIn K (cGraph K) (.type "object") = some true) && (decide (PySem.W.kitOne K (.ref (cGraph K)) (.ref (cGraph K)) = some true) && (decide (PySem.W.kitOne K (.type "tuple") (.ref (cGraph K)) = some false) && (decide (PySem.W.exmOne K (.ref (ga K "BadNumber")) (.ref (ga K "BadNumber")) = some true) && (decide (PySem.W.exmOne K (.ref (ga K "BadRow")) (.ref (ga K "BadNumber")) = some false) && (decide (PySem.W.exmOne K (.ref (ga K "BadRow")) (.ref (ga K "BadRow")) = some true) && (decide (xfB K (ga K "BadNumber") = true) && (decide (xfB K (ga K "BadRow") = true) && (decide (PySem.W.findIn K (.ref (ga K "BadNumber")) "what" = some none) && (decide (PySem.W.findIn K (.ref (ga K "BadNumber")) "number" = some none) && (decide (PySem.W.findIn K (.ref (ga K "BadRow")) "row" = some none) && (decide (Exo.okB K (ga K "BadNumber") = true) && (decide (Exo.okB K (ga K "BadRow") = true) && (decide (PySem.W.findIn K (.ref (ga K "BadNumber")) "__init__" = some (some (.ref (fAd K ("BadNumber", some "__init__"))))) && (decide (PySem.W.typeIn K (.ref (fAd K ("BadNumber", some "__init__"))) = some (.type "function")) && (decide (PySem.W.findIn K (.ref (ga K "BadRow")) "__init__" = some (some (.ref (fAd K ("BadRow", some "__init__"))))) && (decide (PySem.W.typeIn K (.ref (fAd K ("BadRow", some "__init__"))) = some (.type "function")) && true))))))))))))))))))))
abbrev R : PySem.W.OpenRow := PySem.W.OpenLaw.row PySem.Challenge.rw_everycycle_k18_whole_sure_values
abbrev hk : PySem.W.Hook := hookX 6 fa fn [] [("law", none)] exB
def ob (s : PySem.W.SharedT) : AlX := obsX 6 fa fn [] [("law", none)] exB (HandSHeadRun.getT s)
theorem ob_eq (s : PySem.W.SharedT) : ob s = hk.obs s.abs := obsX_eq (HandSHeadRun.getT_eq s)
theorem run (w : World) : HandSHeadRun.RunEq R (PySem.W.view R.prog [30]) hk ob 4000 [("CycleError" : PySem.Str), ("BadNumber" : PySem.Str), ("BadRow" : PySem.Str), ("is_between" : PySem.Str), ("is_from" : PySem.Str), ("is_row" : PySem.Str), ("is_row_between" : PySem.Str), ("Graph" : PySem.Str), ("need_leaves" : PySem.Str), ("are_gates" : PySem.Str), ("node_values" : PySem.Str), ("literal_value" : PySem.Str), ("are_sure_bits" : PySem.Str), ("sure_values" : PySem.Str), ("sure_and" : PySem.Str), ("_law_pen" : PySem.Str), ("_law_draw" : PySem.Str), ("_law_pick" : PySem.Str), ("_law_drawn_gates" : PySem.Str), ("_law_values" : PySem.Str), ("_law_bit" : PySem.Str), ("_law_longer" : PySem.Str), ("_law_rows" : PySem.Str), ("_law_why" : PySem.Str), ("_law_own_sure" : PySem.Str), ("_law_three_rows" : PySem.Str)] w := by
  intro os
  kernel_rfl
theorem and2 {a b : Bool} (h : (a && b) = true) : a = true ∧ b = true := Bool.and_eq_true_iff.mp h
theorem facts {P : Program} {w : World} {K : PySem.W.Frag} {h : Heap} {mg : Str → Option Value} {f : Addr} (X : K.In h) (G : h.Ns mainGlobals mg) (hfa : mg ("law" : Str) = some (.ref f)) (c : SaysX fa fn [] [("law", none)] exB w h K) :
    ∃ fd : FuncData, (∀ (s : Shared) (v : Value), BindsTo s fd ⟨[v], []⟩ [("_law_script", v)]) ∧ ∀ base : Heap, K.In base → base.Ns mainGlobals mg → LamX.TabB base mg (cT K ("law", none)).1 (cT K ("law", none)).2 → FnG P w K mg base CX0 7 f fd ["_law_script"] (Sx.spLaw K (cT K ("law", none)).2) := by
  have cd := c.t.d
  obtain ⟨fd0, F0⟩ := cd.def_ 0 (d := ds_is_between) rfl
  obtain ⟨fd1, F1⟩ := cd.def_ 1 (d := ds_is_from) rfl
  obtain ⟨fd2, F2⟩ := cd.def_ 2 (d := ds_is_row) rfl
  obtain ⟨fd3, F3⟩ := cd.def_ 3 (d := ds_is_row_between) rfl
  obtain ⟨fd4, F4⟩ := cd.def_ 4 (d := ds_need_leaves) rfl
  obtain ⟨fd5, F5⟩ := cd.def_ 5 (d := ds_are_gates) rfl
  obtain ⟨fd6, F6⟩ := cd.def_ 6 (d := ds_node_values) rfl
  obtain ⟨fd7, F7⟩ := cd.def_ 7 (d := ds_literal_value) rfl
  obtain ⟨fd8, F8⟩ := cd.def_ 8 (d := ds_are_sure_bits) rfl
  obtain ⟨fd9, F9⟩ := cd.def_ 9 (d := ds_sure_values) rfl
  obtain ⟨fd10, F10⟩ := cd.def_ 10 (d := ds_sure_and) rfl
  obtain ⟨fd11, F11⟩ := cd.def_ 11 (d := ds__law_pen) rfl
  obtain ⟨fd12, F12⟩ := cd.def_ 12 (d := ds__law_draw) rfl
  obtain ⟨fd13, F13⟩ := cd.def_ 13 (d := ds__law_pick) rfl
  obtain ⟨fd14, F14⟩ := cd.def_ 14 (d := ds__law_drawn_gates) rfl
  obtain ⟨fd15, F15⟩ := cd.def_ 15 (d := ds__law_values) rfl
  obtain ⟨fd16, F16⟩ := cd.def_ 16 (d := ds__law_bit) rfl
  obtain ⟨fd17, F17⟩ := cd.def_ 17 (d := ds__law_longer) rfl
  obtain ⟨fd18, F18⟩ := cd.def_ 18 (d := ds__law_rows) rfl
  obtain ⟨fd19, F19⟩ := cd.def_ 19 (d := ds__law_why) rfl
  obtain ⟨fd20, F20⟩ := cd.def_ 20 (d := ds__law_own_sure) rfl
  obtain ⟨fd21, F21⟩ := cd.def_ 21 (d := ds__law_three_rows) rfl
  obtain ⟨fd22, F22⟩ := cd.def_ 22 (d := ds_law) rfl
  obtain ⟨fd23, F23⟩ := cd.def_ 23 (d := di_BadNumber___init__) rfl
  obtain ⟨fd24, F24⟩ := cd.def_ 24 (d := di_BadRow___init__) rfl
  obtain ⟨fd25, F25⟩ := cd.def_ 25 (d := di_Graph___init__) rfl
  have glo : ∀ i x, fa[i]? = some (Fa.glo x) → mg x = some (.ref (ga K x)) := fun i x e => glo_ok X G (cd.fact i e)
  have fre : ∀ i x, fa[i]? = some (Fa.free x) → mg x = none := fun i x e => free_ok X G (cd.fact i e)
  have e := hfa.symm.trans (glo 22 "law" rfl)
  cases e
  have b0 : Binds K fd0 ["value", "least", "most"] [] := F0.bindsN fun _ _ _ _ _ _ us hl => match us, hl with | [_, _, _], _ => rfl
  have b1 : Binds K fd1 ["value", "least"] [] := F1.bindsN fun _ _ _ _ _ _ us hl => match us, hl with | [_, _], _ => rfl
  have b2 : Binds K fd2 ["value"] [] := F2.bindsN fun _ _ _ _ _ _ us hl => match us, hl with | [_], _ => rfl
  have b3 : Binds K fd3 ["value", "many", "least", "most"] [] := F3.bindsN fun _ _ _ _ _ _ us hl => match us, hl with | [_, _, _, _], _ => rfl
  have b4 : Binds K fd4 ["leaves"] [] := F4.bindsN fun _ _ _ _ _ _ us hl => match us, hl with | [_], _ => rfl
  have b5 : Binds K fd5 ["leaves", "value"] [] := F5.bindsN fun _ _ _ _ _ _ us hl => match us, hl with | [_, _], _ => rfl
  have b6 : Binds K fd6 ["graph", "bits"] [] := F6.bindsN fun _ _ _ _ _ _ us hl => match us, hl with | [_, _], _ => rfl
  have b7 : Binds K fd7 ["found", "literal"] [] := F7.bindsN fun _ _ _ _ _ _ us hl => match us, hl with | [_, _], _ => rfl
  have b8 : Binds K fd8 ["value", "many"] [] := F8.bindsN fun _ _ _ _ _ _ us hl => match us, hl with | [_, _], _ => rfl
  have b9 : Binds K fd9 ["graph", "bits"] [] := F9.bindsN fun _ _ _ _ _ _ us hl => match us, hl with | [_, _], _ => rfl
  have b10 : Binds K fd10 ["one", "other"] [] := F10.bindsN fun _ _ _ _ _ _ us hl => match us, hl with | [_, _], _ => rfl
  have b11 : Binds K fd11 ["_law_script"] [] := F11.bindsN fun _ _ _ _ _ _ us hl => match us, hl with | [_], _ => rfl
  have b12 : Binds K fd12 ["_law_pen_here", "_law_many"] [] := F12.bindsN fun _ _ _ _ _ _ us hl => match us, hl with | [_, _], _ => rfl
  have b13 : Binds K fd13 ["_law_pen_here", "_law_some"] [] := F13.bindsN fun _ _ _ _ _ _ us hl => match us, hl with | [_, _], _ => rfl
  have b14 : Binds K fd14 ["_law_pen_here", "_law_leaves", "_law_many"] [] := F14.bindsN fun _ _ _ _ _ _ us hl => match us, hl with | [_, _, _], _ => rfl
  have b15 : Binds K fd15 ["_law_leaves", "_law_gates", "_law_bits"] [] := F15.bindsN fun _ _ _ _ _ _ us hl => match us, hl with | [_, _, _], _ => rfl
  have b16 : Binds K fd16 ["_law_found", "_law_literal"] [] := F16.bindsN fun _ _ _ _ _ _ us hl => match us, hl with | [_, _], _ => rfl
  have b17 : Binds K fd17 ["_law_rows_here", "_law_many"] [] := F17.bindsN fun _ _ _ _ _ _ us hl => match us, hl with | [_, _], _ => rfl
  have b18 : Binds K fd18 ["_law_many"] [] := F18.bindsN fun _ _ _ _ _ _ us hl => match us, hl with | [_], _ => rfl
  have b19 : Binds K fd19 ["_law_call"] [] := F19.bindsN fun _ _ _ _ _ _ us hl => match us, hl with | [_], _ => rfl
  have b20 : Binds K fd20 ["_law_leaves", "_law_gates", "_law_bits"] [] := F20.bindsN fun _ _ _ _ _ _ us hl => match us, hl with | [_, _, _], _ => rfl
  have b21 : Binds K fd21 ["_law_pen_here", "_law_leaves"] [] := F21.bindsN fun _ _ _ _ _ _ us hl => match us, hl with | [_, _], _ => rfl
  have b23 : Binds K fd23 ["self", "what", "number"] [] := F23.bindsN fun _ _ _ _ _ _ us hl => match us, hl with | [_, _, _], _ => rfl
  have b24 : Binds K fd24 ["self", "row"] [] := F24.bindsN fun _ _ _ _ _ _ us hl => match us, hl with | [_, _], _ => rfl
  have b25 : Binds K fd25 ["self", "leaves", "gates"] [] := F25.bindsN fun _ _ _ _ _ _ us hl => match us, hl with | [_, _, _], _ => rfl
  have b := FunD.bindsA (ps := ["_law_script"]) F22 fun _ _ _ _ _ _ us hl => match us, hl with | [_], _ => rfl
  have g0 := glo 0 "is_between" rfl
  have g1 := glo 1 "is_from" rfl
  have g2 := glo 2 "is_row" rfl
  have g3 := glo 3 "is_row_between" rfl
  have g4 := glo 4 "need_leaves" rfl
  have g5 := glo 5 "are_gates" rfl
  have g6 := glo 6 "node_values" rfl
  have g7 := glo 7 "literal_value" rfl
  have g8 := glo 8 "are_sure_bits" rfl
  have g9 := glo 9 "sure_values" rfl
  have g10 := glo 10 "sure_and" rfl
  have g11 := glo 11 "_law_pen" rfl
  have g12 := glo 12 "_law_draw" rfl
  have g13 := glo 13 "_law_pick" rfl
  have g14 := glo 14 "_law_drawn_gates" rfl
  have g15 := glo 15 "_law_values" rfl
  have g16 := glo 16 "_law_bit" rfl
  have g17 := glo 17 "_law_longer" rfl
  have g18 := glo 18 "_law_rows" rfl
  have g19 := glo 19 "_law_why" rfl
  have g20 := glo 20 "_law_own_sure" rfl
  have g21 := glo 21 "_law_three_rows" rfl
  have g22 := glo 22 "law" rfl
  have gGraph := glo 23 "Graph" rfl
  have gBadNumber := glo 24 "BadNumber" rfl
  have gBadRow := glo 25 "BadRow" rfl
  have z_isinstance := fre 26 "isinstance" rfl
  have z_int := fre 27 "int" rfl
  have z_bool := fre 28 "bool" rfl
  have z_tuple := fre 29 "tuple" rfl
  have z_list := fre 30 "list" rfl
  have z_len := fre 31 "len" rfl
  have z_all := fre 32 "all" rfl
  have z_abs := fre 33 "abs" rfl
  have z_range := fre 34 "range" rfl
  have z_repr := fre 35 "repr" rfl
  have z_zip := fre 36 "zip" rfl
  have clGraph := cls_ok (cd.fact 37 (f := .cls "Graph") rfl)
  have mkGraph := mkr_ok (cd.fact 38 (f := .mkr "Graph") rfl)
  have nGraph_leaves := noat_ok (cd.fact 39 (f := .noat "Graph" "leaves") rfl)
  have nGraph_gates := noat_ok (cd.fact 40 (f := .noat "Graph" "gates") rfl)
  have r0 := c.more
  obtain ⟨q0, r1⟩ := and2 r0
  have e1 := of_decide_eq_true q0
  obtain ⟨q1, r2⟩ := and2 r1
  have e2 := of_decide_eq_true q1
  obtain ⟨q2, r3⟩ := and2 r2
  have e3 := of_decide_eq_true q2
  obtain ⟨q3, r4⟩ := and2 r3
  have e4 := of_decide_eq_true q3
  obtain ⟨q4, r5⟩ := and2 r4
  have e5 := of_decide_eq_true q4
  obtain ⟨q5, r6⟩ := and2 r5
  have e6 := of_decide_eq_true q5
  obtain ⟨q6, r7⟩ := and2 r6
  have x1 := of_decide_eq_true q6
  obtain ⟨q7, r8⟩ := and2 r7
  have x2 := of_decide_eq_true q7
  obtain ⟨q8, r9⟩ := and2 r8
  have x3 := of_decide_eq_true q8
  obtain ⟨q9, r10⟩ := and2 r9
  have x4 := of_decide_eq_true q9
  obtain ⟨q10, r11⟩ := and2 r10
  have x5 := of_decide_eq_true q10
  obtain ⟨q11, r12⟩ := and2 r11
  have y1 := of_decide_eq_true q11
  obtain ⟨q12, r13⟩ := and2 r12
  have y2 := of_decide_eq_true q12
  obtain ⟨q13, r14⟩ := and2 r13
  have y3 := of_decide_eq_true q13
  obtain ⟨q14, r15⟩ := and2 r14
  have o1 := of_decide_eq_true q14
  obtain ⟨q15, r16⟩ := and2 r15
  have o2 := of_decide_eq_true q15
  obtain ⟨q16, r17⟩ := and2 r16
  have i1 := of_decide_eq_true q16
  obtain ⟨q17, r18⟩ := and2 r17
  have i2 := of_decide_eq_true q17
  obtain ⟨q18, r19⟩ := and2 r18
  have j1 := of_decide_eq_true q18
  obtain ⟨q19, r20⟩ := and2 r19
  have j2 := of_decide_eq_true q19
  have ki : Ki.Tx mg := ⟨z_isinstance, z_int, z_bool, z_tuple, z_list, z_len, z_all⟩
  have pt : Pen.Txt mg := ⟨z_len, z_int, z_list⟩
  have lf : Lf.Tx mg := ⟨pt, z_abs, z_range, z_tuple⟩
  have tg : Gr.Tx K mg (cGraph K) := ⟨ki, clGraph, nGraph_leaves, nGraph_gates, gGraph, e1, e2, e3, fun e => .ins e clGraph e1 e2 e3 e4, e5, e6⟩
  have wy : Yh.Tw K mg (ga K "BadNumber") (ga K "BadRow") := ⟨gBadNumber, gBadRow, x1, x2, x3, xfB_ok x4, xfB_ok x5, y1, y2, y3, z_repr⟩
  have XT : Xg.Te K mg (ga K "BadNumber") (ga K "BadRow") (fAd K ("BadNumber", some "__init__")) (fAd K ("BadRow", some "__init__")) := ⟨wy, ⟨(Exo.okB_ok o1).oe, i1, i2⟩, ⟨(Exo.okB_ok o2).oe, j1, j2⟩⟩
  refine ⟨fd22, fun s v => b s [v] rfl, fun base _ _ TB => ?_⟩
  have hcv : ∀ cv, fd22.code = cv → cv = .ref (cT K ("law", none)).1 := fun cv hc => by
    obtain ⟨_, _, _, _, _, _, _, cdv, _, _, e, lk, hcd, _, _⟩ := F22.ex
    obtain ⟨c0, rfl⟩ := codeIn_ref hcd
    have hf : fd22.code = .ref c0 := by rw [e]
    rw [← hc, hf]
    exact congrArg Value.ref (codeOf_eq (p := ("law", none)) lk hf).symm
  have G0 : FnOk P w K mg base CX0 _ _ _ _ _ := ok_between F0 ki
  have G1 : FnOk P w K mg base CX0 _ _ _ _ _ := ok_from F1 ki
  have G2 : FnOk P w K mg base CX0 _ _ _ _ _ := ok_row F2 ki
  have G3 : FnOk P w K mg base CX0 _ _ _ _ _ := ok_rowB F3 ki F0 g0 F2 g2
  have G4 : FnOk P w K mg base CX0 _ _ _ _ _ := ok_need F4 ki F1 g1
  have G5 : FnOk P w K mg base CX0 _ _ _ _ _ := ok_gates F5 ki F2 g2 F3 g3 F0 g0
  have G25 : FnOk P w K mg base CX0 _ _ _ _ _ := ok_init F25 tg G4 g4 F4.kp b4 G5 g5 F5.kp b5
  have G6 : FnOk P w K mg base CX0 _ _ _ _ _ := ok_node F6 tg G3 g3 F3.kp b3
  have G7 : FnOk P w K mg base CX0 _ _ _ _ _ := ok_litS F7
  have G10 : FnOk P w K mg base CX0 _ _ _ _ _ := ok_sand F10
  have G8 : FnOk P w K mg base CX0 _ _ _ _ _ := ok_ares F8 ki G2 g2 F2.kp b2 G0 g0 F0.kp b0
  have G9 : FnOk P w K mg base CX0 _ _ _ _ _ := ok_sure F9 tg G8 g8 F8.kp b8 G10 g10 F10.kp b10 G7 g7 F7.kp b7
  have G11 : FnOk P w K mg base CX0 _ _ _ _ _ := ok_pen F11 pt
  have G12 : FnOk P w K mg base CX0 _ _ _ _ _ := ok_draw F12 pt
  have G13 : FnOk P w K mg base CX0 _ _ _ _ _ := ok_pick F13 pt F12 g12
  have G14 : FnOk P w K mg base CX0 _ _ _ _ _ := ok_drawn F14 lf F12 g12
  have G15 : FnOk P w K mg base CX0 _ _ _ _ _ := ok_values F15 lf F16 g16
  have G18 : FnOk P w K mg base CX0 _ _ _ _ _ := ok_rows F18 lf F17 g17
  have GBO : FnOk P w K mg base CX0 1 _ _ _ (spBitO K) := ok_bitO F16 lf
  have G20 : FnOk P w K mg base CX0 _ _ _ _ _ := ok_owns F20 lf GBO g16 F16.kp b16
  have G21 : FnOk P w K mg base CX0 _ _ _ _ _ := ok_three F21 lf G13 g13 F13.kp b13
  have G23 : FnOk P w K mg base CX0 _ _ _ _ _ := Xg.ok_numi F23 XT
  have G24 : FnOk P w K mg base CX0 _ _ _ _ _ := Xg.ok_rowi F24 XT
  have GRD : FnOk P w K mg base CX0 1 _ _ _ (spRowD K) := ok_rowD F2 ki
  have GAD : FnOk P w K mg base CX0 2 _ _ _ (spAreD K) := ok_ared F8 ki GRD g2 F2.kp b2
  have GSX : FnOk P w K mg base (L2.CX P w) 3 _ _ _ (spSureX K (cGraph K) (ga K "BadRow")) := ok_surex F9 tg XT (fn_or G8 GAD) g8 F8.kp b8 G24 b24
  exact ok_law F22 tg lf XT z_repr z_zip TB hcv F19 g19 mkGraph G25 gGraph b25 G11 g11 F11.kp b11 G12 g12 F12.kp b12 G13 g13 F13.kp b13 G14 g14 F14.kp b14 G18 g18 F18.kp b18 G15 g15 F15.kp b15 G21 g21 F21.kp b21 G9 g9 F9.kp b9 G6 g6 F6.kp b6 G20 g20 F20.kp b20 GSX
end E18
open PySem PySem.W PySem.Calls PyProof.Rows
theorem PySem.Challenge.cw_everycycle_k18_whole_sure_values_holds : PySem.Challenge.rw_everycycle_k18_whole_sure_values.Holds := by
  w_on; o_law
  refine HandSHeadRun.head_any (r := OpenLaw.row PySem.Challenge.rw_everycycle_k18_whole_sure_values) (q := view (OpenLaw.row PySem.Challenge.rw_everycycle_k18_whole_sure_values).prog [30]) (H := E18.hk) (ob := E18.ob) (M := 4000) (loose := [("CycleError" : PySem.Str), ("BadNumber" : PySem.Str), ("BadRow" : PySem.Str), ("is_between" : PySem.Str), ("is_from" : PySem.Str), ("is_row" : PySem.Str), ("is_row_between" : PySem.Str), ("Graph" : PySem.Str), ("need_leaves" : PySem.Str), ("are_gates" : PySem.Str), ("node_values" : PySem.Str), ("literal_value" : PySem.Str), ("are_sure_bits" : PySem.Str), ("sure_values" : PySem.Str), ("sure_and" : PySem.Str), ("_law_pen" : PySem.Str), ("_law_draw" : PySem.Str), ("_law_pick" : PySem.Str), ("_law_drawn_gates" : PySem.Str), ("_law_values" : PySem.Str), ("_law_bit" : PySem.Str), ("_law_longer" : PySem.Str), ("_law_rows" : PySem.Str), ("_law_why" : PySem.Str), ("_law_own_sure" : PySem.Str), ("_law_three_rows" : PySem.Str)]) (d := HandSHeadRun.topDef (OpenLaw.row PySem.Challenge.rw_everycycle_k18_whole_sure_values).prog 30) (kwd := []) E18.ob_eq
    (by kernel_rfl) (fun s => by kernel_rfl) E18.run (by kernel_rfl) (by kernel_rfl) (by kernel_rfl) (by rfl) (by first | assumption | decide +kernel) (by decide +kernel) ⟨rfl, rfl, rfl, rfl, rfl, by decide +kernel⟩ ?hw ?hc
  case hw => w_witness2
  case hc =>
    refine Yt.walk_goT (l := PySem.Challenge.rw_everycycle_k18_whole_sure_values) (n := 63) (k := 7) (x := "_law_script") (CX := fun _ => L2.CX0) rfl (by decide) (by kernel_rfl) ⟨rfl, by decide, by decide⟩ ?F (fun _ _ _ _ _ z => z)
    intro w mg fa h Y G hmg0
    obtain ⟨K, KX, c⟩ := Y
    have hmg : mg ("law" : PySem.Str) = some (.ref fa) := by
      have e : (HandSHeadRun.topDef (OpenLaw.row PySem.Challenge.rw_everycycle_k18_whole_sure_values).prog 30).name = ("law" : PySem.Str) := by kernel_rfl
      rw [← e]
      exact hmg0
    obtain ⟨fd, hb, hF⟩ := E18.facts (P := (PySem.Challenge.rw_everycycle_k18_whole_sure_values).prog) (w := w) KX G hmg c
    exact ⟨K, fd, Sx.spLaw K (He.cT K ("law", none)).2, (He.cT K ("law", none)).1, (He.cT K ("law", none)).2, KX, c.empty _ List.mem_cons_self, c.out _ List.mem_cons_self, c.hd _ List.mem_cons_self, hb, fun H a ns hl hT hS => ⟨a, ns, rfl, hS, hl, hT, fun _ => rfl⟩, hF⟩
