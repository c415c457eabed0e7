import PyProof.Rows.All
import Wide.All
import OpenK.AllK
import Wide.FinOn
import Lean
import HandS.ForMost
import HandS.Codes
import HandS.Defaults
import HandS.Wide
import HandS.DeepEq
import HandS.Exc
import HandS.ExcInit
import HandS.ExcValue
import HandS.IsInst
import HandS.TupAny
import HandS.OwnEq
import HandS.Star
import HandS.SortInts
import HandS.Conv
import HandS.Style
import HandS.Head0
import HandS.Head1
import HandS.Head2
import HandS.HeadEnd
import HandS.HeadHook1
import HandS.HeadHook2
import HandS.HeadHook3
import HandS.HeadHook4
import HandS.ExcIs
import HandS.ExcField
import KE.KExcIs
import KE.GoesEnum
import HandS.Lambda
import HandS.EndTab
import HandS.ExcField
import HandS.ExcInit
import HandS.ExcIs
import PySem.Challenge.RW_everycycle_k19_graphs_refused
import HandS.NoneIn
import HandS.Deep
import HandS.RevRange
set_option Elab.async false
set_option linter.all false
set_option maxRecDepth 100000
set_option maxHeartbeats 4000000
namespace Gd
open PySem PySem.Spec PyProof.Rows L2
/-! ## What a def does where no repr is under way: the promise of FnOk, for such callers alone -/
structure FnG (P : Program) (w : World) (K : PySem.W.Frag) (mg : Str → Option Value) (base : Heap) (CX : CXT) (k : Nat) (f : Addr) (fd : FuncData) (ps : List Str) (sp : Sp) : Prop where
  many : ∀ vs H Q E, sp vs H Q E → vs.length = ps.length
  go : ∀ (A : Around) (fs : List Env) (s : Shared) (H : Hp) (ag : Args) (us : List Value) (vs : List V) (Q : VK) (E : XK), A.guards = some [] → Room k A → Env0 P w K mg base A fs s H →
    BindsTo s fd ag (ps.zip us) → Vals vs us → sp vs H Q E → codeAny (model P w) A (.call (.ref f) ag) (CR CX fs P w H s Q E) s
section
variable {P : Program} {w : World} {K : PySem.W.Frag} {mg : Str → Option Value} {base : Heap} {CX : CXT} {k : Nat} {f : Addr} {fd : FuncData} {ps : List Str} {sp : Sp}
theorem FnG.of (F : FnOk P w K mg base CX k f fd ps sp) : FnG P w K mg base CX k f fd ps sp := ⟨F.len, fun A fs s H ag us vs Q E _ => F.run A fs s H ag us vs Q E⟩
/-- from the def's body -/
theorem FnG.mk_of {x qual : Str} {params : Arguments} {body : List Stmt} {scope : Scope} {dvs : List V} {kws : List (Str × V)} {N : List Str}
    (F : FunD K x qual params body scope dvs kws f fd) (S : FnScope N ps scope) (many : ∀ vs H Q E, sp vs H Q E → vs.length = ps.length)
    (walk : ∀ (cv : Value) (A : Around) (fs : List Env) (s : Shared) (H : Hp) (vs : List V) (Q : VK) (E : XK), A.guards = some [] → Room k (A.deeper (envOfC qual scope s.heap.objs.size f cv)) → sp vs H Q E →
      ∃ t, PSs (cxOf CX P w K mg base N qual scope f cv A fs s H E) body t ∧ t { nx := fun _ H' => Q .non H', rt := Q } (start N vs) H) :
    FnG P w K mg base CX (k + 1) f fd ps sp := by
  obtain ⟨_, _, _, _, _, _, _, cv, _, _, rfl, look, code, _, _⟩ := F.ex
  refine ⟨many, fun A fs s H ag us vs Q E hg room e bind rel prom => ?_⟩
  have kin : K.In s.heap := e.mod.kin.keeps fun b u z => (e.bs b u z).1
  have kinds : ∀ y ∈ ps.zip us, scope.names.lookup y.1 = some .local ∨ (scope.names.lookup y.1 = some .cell ∧ ((cellsFrom (s.heap.objs.size + 1) scope.names []).lookup y.1).isSome = true) := by
    rintro ⟨y, u⟩ hy
    rcases S.par y (List.of_mem_zip hy).1 with q | q
    · exact Or.inl q
    · exact Or.inr ⟨q, PySem.W.cellsFrom_some _ _ _ (Or.inl q)⟩
  refine codeAny_call_function room.depth (kin _ _ look) rfl S.co S.gen rfl (PySem.W.codeRec_of kin code) (bind _ _ _ _ ?_)
  refine wpAny_newFunctionEnv_cells S.kind kinds ?_
  rintro env rfl s1 hs1
  refine ⟨(e.mod.nolimit.keeps fun b u z => (e.bs b u z).1).keeps hs1.toInCall.keep, codeAny_func ?_⟩
  obtain ⟨t, ht, q⟩ := walk cv A fs s H vs Q E hg (room.deeper _) prom
  have I := inv_start (CX := CX) (E := E) S room.hd e (many _ _ _ _ prom) rel hs1
  refine wpAny_mono (ht.run [] s1 (start N vs) H _ I q) (fun fl s2 z => ?_) (fun _ _ z => z)
  match fl, z with
  | .ret u, ⟨v, σ', H', J, rv, q⟩ => exact ⟨v, H', J.os, J.bare, J.base, J.hok, rv, q⟩
  | .next, ⟨σ', H', J, q⟩ => exact ⟨V.non, H', J.os, J.bare, J.base, J.hok, rfl, q⟩
  | .brk, ⟨_, _, _, q⟩ => exact q.elim
  | .cont, ⟨_, _, _, q⟩ => exact q.elim
end
/-- the script's object -/
abbrev scr (vs : List Value) : Obj := { cls := .type "list", data := .seq vs.toArray }
/-- the heap in which the script alone is tracked, if the top did not write it -/
def onlyScr (K : PySem.W.Frag) (a : Addr) (vs : List Value) (ns : List Int) : Hp := fun b => if b = a ∧ (K.lookup a).isNone = true then some (.frz (scr vs) (.lst (ns.map V.int))) else none
theorem onlyScr_get {K : PySem.W.Frag} {a b : Addr} {vs : List Value} {ns : List Int} {o : HO} (h : onlyScr K a vs ns b = some o) : b = a ∧ K.lookup a = none ∧ o = .frz (scr vs) (.lst (ns.map V.int)) := by
  unfold onlyScr at h
  split at h
  · rename_i c
    exact ⟨c.1, Option.isNone_iff_eq_none.mp c.2, (Option.some.inj h).symm⟩
  · cases h
/-- the law is called with its script -/
theorem law_go {P : Program} {w : World} {K : PySem.W.Frag} {mg mb : Str → Option Value} {CX : CXT} {k : Nat} {f a : Addr} {fd : FuncData} {x : Str} {sp : Sp} {s : Shared} {vs : List Value} {ns : List Int}
    (kin : K.In s.heap) (hm : s.heap.Ns mainGlobals mg) (hb : s.heap.Ns builtinsNs mb) (hbb : ∀ y : Str, y ≠ "__name__" → mb y = bootBuiltins y) (lim : s.heap.NoLimit) (hgen : s.gens = #[])
    (ha : s.heap.get? a = some (scr vs)) (hi : IntsAre vs ns) (hl : ns.length ≤ sizeLine) (hr : Room k callerA)
    (F : ∀ base : Heap, K.In base → base.Ns mainGlobals mg → FnG P w K mg base CX k f fd [x] sp) (bind : ∀ (s : Shared) (u : Value), BindsTo s fd ⟨[u], []⟩ [(x, u)])
    (prom : ∀ H : Hp, Only H → SqL K H a (ns.map V.int) → sp [.ref a] H (fun v _ => v = .bl true) fun _ _ _ => False)
    (none_out : ∀ H e s', CX [] H s (fun _ _ _ => False) e s' → False) :
    codeAny (model P w) callerA (.call (.ref f) ⟨[.ref a], []⟩) (fun r s' => r = .ok (.ret (.bool true)) ∧ OldK s.heap s'.heap ∧ s'.os = s.os ∧ AllBare s'.gens) s := by
  have hv := vals_ints hi
  have hlen := hi.length
  let H := onlyScr K a vs ns
  have gone : ∀ {b : Addr} {o : Obj}, K.lookup b = some o → H b = none := fun {b o} q => by
    cases e : H b with
    | none => rfl
    | some u =>
      obtain ⟨rfl, n, _⟩ := onlyScr_get e
      rw [n] at q
      cases q
  have ns_free : ∀ {b : Addr} {o : Obj} {es : Array DictEntry} {ep : Nat}, s.heap.get? b = some o → o.data = .dict es ep → H b = none := fun {b o es ep} q d => by
    cases e : H b with
    | none => rfl
    | some u =>
      obtain ⟨rfl, _, _⟩ := onlyScr_get e
      rw [ha] at q
      cases q
      cases d
  have stays : ∀ {b : Addr} {m : Str → Option Value}, s.heap.Ns b m → (hidT s.heap H).Ns b m := fun ⟨o, es, ep, q, d, r⟩ => ⟨o, es, ep, hidT_get q (ns_free q d), d, r⟩
  have kinT : K.In (hidT s.heap H) := fun b o q => hidT_get (kin b o q) (gone q)
  have hok : HOk P w H s.heap := fun b u q => by
    obtain ⟨rfl, _, rfl⟩ := onlyScr_get q
    exact ⟨ha, by rw [List.length_map]; exact hl, vs, _, hv, ha⟩
  have hO : Only H := fun b => by
    cases e : H b with
    | none => exact Or.inl rfl
    | some u =>
      obtain ⟨_, _, rfl⟩ := onlyScr_get e
      exact Or.inr ⟨_, _, rfl⟩
  have hS : SqL K H a (ns.map V.int) := by
    cases e : K.lookup a with
    | none => exact .inl (.inr ⟨scr vs, if_pos ⟨rfl, by rw [e]; rfl⟩⟩)
    | some o =>
      have q := kin a o e
      rw [ha] at q
      cases q
      exact .inr ⟨_, vs.toArray, _, e, rfl, rfl, rfl, by rw [List.size_toArray, hlen]; exact hl, by simpa using hv⟩
  obtain ⟨mc, l1, l2⟩ := lim
  have e0 : Env0 P w K mg (hidT s.heap H) callerA [] s H := by
    refine ⟨rfl, ⟨kinT, stays hm, ⟨mb, stays hb, hbb⟩, ⟨mc, stays l1, l2⟩⟩, fun b o q => of_hidT q, Nat.le_of_eq (hidT_size _ _), trivial, fun b q => ?_, hok, .of_eq hgen⟩
    cases q
  refine codeAny_mono ((F _ kinT (stays hm)).go callerA [] s H ⟨[.ref a], []⟩ [.ref a] [.ref a] _ _ rfl hr e0 (bind s (.ref a)) (.cons rfl .nil) (prom H hO hS)) fun r s' h => ?_
  match r, h with
  | .error e, h => exact (none_out H e s' h).elim
  | .ok .next, h => exact h.elim
  | .ok .brk, h => exact h.elim
  | .ok .cont, h => exact h.elim
  | .ok (.ret u), ⟨v, H', os, bare, un, hok', rv, q⟩ =>
    have q' : v = .bl true := q
    subst q'
    have hu : u = Value.bool true := rv
    subst hu
    refine ⟨rfl, OldK.of_keep fun b o z => ?_, os, bare⟩
    cases e : H b with
    | none => exact un.keep b o z e (by intro y; cases y) (by simp)
    | some t =>
      obtain ⟨rfl, _, rfl⟩ := onlyScr_get e
      rw [ha] at z
      cases z
      exact (hok' b _ (un.frzs b _ _ e)).1
/-- the end of a law -/
theorem walk_go {l : PySem.W.OpenLaw} {n k : Nat} {q : Program} {loose : List Str} {XP : (Str → Option Value) → Heap → Prop} {YP : World → Heap → Prop} {d : DefRec} {CX : CXT} {x : Str}
    (hn : l.most = some n) (hn2 : n ≤ sizeLine) (hdf : d.params.defaults = []) (hr : Room k callerA)
    (F : ∀ (w : World) (mg : Str → Option Value) (f : Addr) (h : Heap), YP w h → h.Ns mainGlobals mg → mg d.name = some (.ref f) → ∃ (K : PySem.W.Frag) (fd : FuncData) (sp : Sp), K.In h ∧ (∀ (s : Shared) (u : Value), BindsTo s fd ⟨[u], []⟩ [(x, u)]) ∧
      (∀ (H : Hp) (a : Addr) (ns : List Int), ns.length ≤ n → Only H → SqL K H a (ns.map V.int) → sp [.ref a] H (fun v _ => v = .bl true) fun _ _ _ => False) ∧ ∀ base : Heap, K.In base → base.Ns mainGlobals mg → FnG l.prog w K mg base CX k f fd [x] sp)
    (none_out : ∀ (H : Hp) (s : Shared) (e : Value) (s' : Shared), CX [] H s (fun _ _ _ => False) e s' → False) : PySem.W.WalkO q loose XP YP l.row.toRowW d [] (fun f vs => PySem.call f vs) :=
  Att.attach_call hn hdf fun w _ s _ _ f _ _ _ _ a _ ns G Y _ _ _ hmg hobj hints hlen hgen =>
    let ⟨_, _, _, kin, bind, prom, ok⟩ := F w _ f _ Y G.T.g hmg
    law_go kin G.T.g G.T.b G.T.builtins G.T.nolimit hgen hobj hints (Nat.le_trans hlen hn2) hr ok bind (fun H hO hS => prom H a ns hlen hO hS) fun H e s' => none_out H s e s'
/-! ## repr of data -/
section
variable {X : Cx}
/-- repr(x), x data of any depth but dicts -/
def rRepr (K : PySem.W.Frag) : List V → Hp → VK → Prop := fun xs H Q => ∃ (a : Addr) (d : PyData), xs = [.ref a] ∧ Dp K H (.ref a) d ∧ d.showable = true ∧ d.hasDict = false ∧ d.depth ≤ 60 ∧ d.shown.length ≤ sizeLine ∧ Q (.str d.shown) H
theorem call_repr {k : Nat} (hg : X.A.guards = some []) (hr : Room k X.A) : CallR X (.builtin "repr") (rRepr X.K) := by
  intro pins s σ H xs us Q I r h
  obtain ⟨a, d, rfl, hd, h1, h2, h3, h4, q⟩ := h
  obtain ⟨u, rfl, ru⟩ := vals1 r
  obtain ⟨as, rd⟩ := Dp.reads I d _ u hd ru
  have hu : u = Value.ref a := ru
  subst hu
  have room := hr.un
  refine repr_of_reads' rd h1 (fun z => by rw [h2] at z; cases z) hg (by omega) (fun _ _ e => e) (fun h' t tk hk => ?_) h4
  exact ⟨.str d.shown, H, I.kept hk, ⟨t, rfl⟩, q⟩
end
end Gd
namespace Gv
open PySem PySem.Spec PyProof.Rows L2
/-- repr(x), x any data but dicts -/
def rReprV (K : PySem.W.Frag) : List V → Hp → VK → Prop := fun xs H Q => ∃ (v : V) (d : PyData), xs = [v] ∧ Dp K H v d ∧ d.showable = true ∧ d.hasDict = false ∧ d.depth ≤ 60 ∧ d.shown.length ≤ sizeLine ∧ Q (.str d.shown) H
theorem call_reprV {X : Cx} {k : Nat} (hg : X.A.guards = some []) (hr : Room k X.A) : CallR X (.builtin "repr") (rReprV X.K) := by
  intro pins s σ H xs us Q I r h
  obtain ⟨v, d, rfl, hd, h1, h2, h3, h4, q⟩ := h
  cases hd with
  | lst a b => exact Gd.call_repr hg hr pins s σ H _ us Q I r ⟨_, _, rfl, .lst a b, h1, h2, h3, h4, q⟩
  | tup a b => exact Gd.call_repr hg hr pins s σ H _ us Q I r ⟨_, _, rfl, .tup a b, h1, h2, h3, h4, q⟩
  | non =>
    obtain ⟨u, rfl, ru⟩ := vals1 r
    have hu : u = Value.none := ru
    subst hu
    exact PySem.P.repr_of_none ⟨.str "None", H, I.tok _, ⟨_, rfl⟩, q⟩
  | bl b =>
    obtain ⟨u, rfl, ru⟩ := vals1 r
    have hu : u = Value.bool b := ru
    subst hu
    exact PySem.P.repr_of_bool ⟨.str _, H, I.tok _, ⟨_, rfl⟩, q⟩
  | int i =>
    obtain ⟨u, rfl, t, rfl⟩ := vals1 r
    exact PySem.P.repr_of_int (of_decide_eq_true h1) ⟨.str _, H, I.tok _, ⟨_, rfl⟩, q⟩
  | str x =>
    obtain ⟨u, rfl, t, rfl⟩ := vals1 r
    exact PySem.P.repr_of_str ⟨.str _, H, I.tok _, ⟨_, rfl⟩, q⟩ h4
end Gv
namespace Wy
open PySem PySem.Spec PyProof.Rows L2
/-! ## try: body, except x as n: suite, except y as n: suite, .. -/
abbrev TA1 := Addr → Value → Option Addr → TS
/-- the ends of a suite whose name, slot i, goes -/
def gone (i : Nat) (D : Ends) : Ends := ⟨fun σ2 H2 => D.nx (σ2.set i none) H2, D.rt, fun σ2 H2 => D.bk (σ2.set i none) H2, fun σ2 H2 => D.ct (σ2.set i none) H2⟩
/-- what the clauses wish of an exception; slot i is the name's -/
def wAll (K : PySem.W.Frag) (i : Nat) (Wo : WX) (D : Ends) : List (Value × TA1) → WX
  | [] => Wo
  | q :: r => fun cls d σ H => ∃ b, PySem.W.exmOne K cls q.1 = some b ∧ (b = true → ∀ a, H a = none → q.2 a cls d (gone i D) (σ.set i (some (.ref a))) H) ∧ (b = false → wAll K i Wo D r cls d σ H)
inductive Hds (X : Cx) (n : Str) : List ExceptHandler → List (Value × TA1) → Prop
  | nil : Hds X n [] []
  | cons {x : Str} {c : Value} {ts : TA1} {b0 : Stmt} {su : List Stmt} {p1 p2 : Pos} {hs : List ExceptHandler} {l : List (Value × TA1)} (names : Names X x c)
      (walk : ∀ (a : Addr) (oe : Obj) (cls : Value) (d : Option Addr) (pn : List (Addr × Obj)), Zc cls d oe → (∃ vs, oe.data = .fields vs) → PSs (X.suite a ((a, oe) :: pn)) (b0 :: su) (ts a cls d))
      (rest : Hds X n hs l) : Hds X n (.ExceptHandler (some (.Name x p1)) (some n) (b0 :: su) p2 :: hs) ((c, ts) :: l)
section
variable {X : Cx} {n : Str} {i : Nat} {body : List Stmt} {h0 : ExceptHandler} {hs : List ExceptHandler} {l : List (Value × TA1)} {pos : Pos} {tb : WX → TS} {Wo : WX}
theorem ps_try_all (stk : X.stack = X.env :: X.outer) (fr : X.env.frame = some X.env.locals) (nd : X.N.Nodup) (at_ : X.N[i]? = some n) (isL : X.env.kindOf n = some .local) (tk : Takes X Wo)
    (wb : ∀ (W : WX) (pn : List (Addr × Obj)) (xe : Value → Shared → Prop), Takes (X.tr pn xe) W → PassesOwn (model X.prog X.w) X.A X.env xe → PSs (X.tr pn xe) body (tb W)) (wh : Hds X n (h0 :: hs) l) :
    PS X (.Try body (h0 :: hs) [] [] pos) fun D σ H => tb (fun cls d σ1 H1 => σ1.length = X.N.length → wAll X.K i Wo D l cls d σ1 H1) D σ H := by
  refine ⟨fun pins s σ H D I prom => ?_⟩
  have ok := I.ok
  have frames : X.A.frames = some (X.env :: X.outer) := by rw [ok.frames, stk]
  refine wpAny_Try_except (wpAny_mono ((wb (fun cls d σ1 H1 => σ1.length = X.N.length → wAll X.K i Wo D l cls d σ1 H1) (X.pn ++ pins) (fun e s1 => wpAny (model X.prog X.w) X.A (noteFrame e X.env) (fun _ s2 => wpAny (model X.prog X.w) X.A (setFlight e none) (fun _ s3 =>
    wpAny (model X.prog X.w) X.A (handleBy e X.env (h0 :: hs)) (SP X pins D) X.xe s3) X.xe s2) X.xe s1) ?_ PassesOwn.looking).run [] s σ H D (I.toTry _) prom) ?_ fun _ _ z => z)
  · rintro u s1 ⟨a, B, s0, pins', σ1, H1, cls, d, rfl, J0, nb, up, sky, na, os, ag, w⟩
    have J : Inv X pins σ1 H1 s0 := J0.ofTry ok
    rw [show (X.tr (X.pn ++ pins) _).stack = X.env :: X.outer from stk] at sky
    show wpAny (model X.prog X.w) X.A (noteFrame (.ref a) X.env) _ _ _
    refine Sky.land Zc.steady frames fr sky fun h1 fl1 up1 => ?_
    have J1 : Inv X pins σ1 H1 { s1 with heap := h1 } := J.landed nb fl1.1 (up.trans up1) os ag
    obtain ⟨o1, f1, e1, z1, d1⟩ := fl1.there
    have nfr : a ∉ frs (X.env :: X.outer) := fun m => by
      obtain ⟨_, o2, e2, no⟩ := fl1.2.2.1.mem m
      rw [e1] at e2
      cases e2
      exact no _ d1
    have nL : a ≠ X.env.locals := fun z => nfr (List.mem_filterMap.mpr ⟨X.env, List.mem_cons_self, by rw [fr, z]⟩)
    have nF : a ∉ X.fs := fun m => by
      obtain ⟨e, he, q⟩ := List.mem_filterMap.mp m
      exact nfr (List.mem_filterMap.mpr ⟨e, List.mem_cons_of_mem _ he, q⟩)
    have S1 := J1.suite e1 d1 na nL nF
    suffices go : ∀ {hs' : List ExceptHandler} {l' : List (Value × TA1)}, Hds X n hs' l' → wAll X.K i Wo D l' cls d σ1 H1 → wpAny (model X.prog X.w) X.A (handleBy (.ref a) X.env hs') (SP X pins D) X.xe { s1 with heap := h1 } from go wh (w J.len)
    intro hs' l' k
    induction k with
    | nil =>
      intro w
      refine wpAny_handleBy_nil ?_
      obtain ⟨_, _, _, o3, f3, T, _, _, e3, _, d3, g3, _⟩ := id fl1
      unfold PySem.passOn
      refine wpAny_bind (wpAny_field e3 d3 g3 ?_)
      rw [if_neg (by simp : ¬ ((Value.ref T == Value.none) = true))]
      have last : wpAny (model X.prog X.w) X.A (setFlight (.ref a) X.env.frame) (fun _ s4 => wpAny (model X.prog X.w) X.A (throw (.ref a) : Sem Flow) (SP X pins D) X.xe s4) X.xe { s1 with heap := h1 } := by
        rw [fr]
        exact HandSPX.setFlight_upZ fl1 fun h4 hh4 up4 => wpAny_throw (tk _ _ ⟨a, B, s0, pins, σ1, H1, cls, d, rfl, J, nb, (up.trans up1).trans up4, .inr (.inr (by rw [stk]; exact hh4)), na, os, ag, w⟩)
      first
        | exact wpAny_bind (wpAny_pure (wpAny_bind last))
        | exact wpAny_bind last
    | @cons x c ts b0 su p1 p2 hs2 l2 names walk rest ih =>
      intro w
      obtain ⟨b, hit, yes, no⟩ := w
      refine wpAny_handleBy_cons (codeAny_handlers_test ?_) (by intro q; cases q)
      have look : PySem.W.Looks (model X.prog X.w) h1 (typeOf (.ref a)) cls := fun A Q E s k q => wpAny_typeOf_ref (k _ _ e1) (by rw [z1.1]; exact q)
      have LM := PySem.W.exm_one (M := model X.prog X.w) J1.kIn look hit
      have test : ∀ {Q E : Value → Shared → Prop}, Q c { s1 with heap := h1 } → wpAny (model X.prog X.w) (X.A.mark (some (.ref a))) (eval (.Name x p1) X.env) Q E { s1 with heap := h1 } := fun {Q E} q => by
        obtain ⟨g, db, m | ⟨m, v, nn⟩⟩ := names
        · exact ld_glob (X := X.suite a ((a, o1) :: (X.pn ++ pins))) S1 g m q db
        · exact ld_blt (X := X.suite a ((a, o1) :: (X.pn ++ pins))) S1 g m v q nn db
      refine test (LM.here ?_)
      cases b with
      | false => exact ih (no rfl)
      | true =>
        refine codeAny_handlers_suite_as (HandSPX.lands_againZ fl1 fun h4 fl4 up4 => ?_)
        have J4 : Inv X pins σ1 H1 { s1 with heap := h4 } := J.landed nb fl4.1 ((up.trans up1).trans up4) os ag
        obtain ⟨o4, f4, e4, z4, d4⟩ := fl4.there
        refine store_ok (X := X.suite a ((a, o4) :: (X.pn ++ pins))) (v := .ref a) (J4.suite e4 d4 na nL nF) nd at_ (.inl isL) rfl (fun s5 S5 => ?_) (.inr isL)
        refine wpAny_mono ((walk a o4 cls d (X.pn ++ pins) z4 ⟨_, d4⟩).run [] s5 _ H1 _ S5 (yes rfl a na)) (fun f s6 z => ?_) fun _ _ z => False.elim z
        have bye : ∀ {σ6 : L2.St} {H6 : Hp} {Q : Shared → Prop}, Inv (X.suite a ((a, o4) :: (X.pn ++ pins))) [] σ6 H6 s6 → (∀ s7, Inv X pins (σ6.set i none) H6 s7 → Q s7) →
            wpAny (model X.prog X.w) X.A (do bindName X.env n .none; unbindBehindTheSuite X.env n p2) (fun _ s7 => Q s7) X.xe s6 := fun {σ6 H6 Q} S6 q => gone_ok (S6.unsuite ok) nd at_ isL q
        match f, z with
        | .next, ⟨_, _, S6, q6⟩ => exact bye S6 fun s7 J7 => ⟨_, _, J7, q6⟩
        | .brk, ⟨_, _, S6, q6⟩ => exact bye S6 fun s7 J7 => ⟨_, _, J7, q6⟩
        | .cont, ⟨_, _, S6, q6⟩ => exact bye S6 fun s7 J7 => ⟨_, _, J7, q6⟩
        | .ret u, ⟨_, _, _, S6, r6, q6⟩ => exact bye S6 fun s7 J7 => ⟨_, _, _, J7, r6, q6⟩
  · intro f s1 z
    match f, z with
    | .next, ⟨_, _, J, q⟩ => exact wpAny_execs_nil ⟨_, _, J.ofTry ok, q⟩
    | .brk, ⟨_, _, J, q⟩ => exact ⟨_, _, J.ofTry ok, q⟩
    | .cont, ⟨_, _, J, q⟩ => exact ⟨_, _, J.ofTry ok, q⟩
    | .ret u, ⟨_, _, _, J, r, q⟩ => exact ⟨_, _, _, J.ofTry ok, r, q⟩
end
/-! ## repr where an exception is handled -/
theorem call_repU {X : Cx} (hg : X.A.guards = some []) (hu : X.A.units + 100 < cLine) : CallR X (.builtin "repr") (Gv.rReprV X.K) := by
  intro pins s σ H xs us Q I r h
  obtain ⟨v, d, rfl, hd, h1, h2, h3, h4, q⟩ := h
  obtain ⟨u, rfl, ru⟩ := vals1 r
  have keep := hd
  cases hd with
  | non => cases (show u = Value.none from ru); exact PySem.P.repr_of_none ⟨.str "None", H, I.tok _, ⟨_, rfl⟩, q⟩
  | bl b => cases (show u = Value.bool b from ru); exact PySem.P.repr_of_bool ⟨.str _, H, I.tok _, ⟨_, rfl⟩, q⟩
  | int i => obtain ⟨t, rfl⟩ := ru; exact PySem.P.repr_of_int (of_decide_eq_true h1) ⟨.str _, H, I.tok _, ⟨_, rfl⟩, q⟩
  | str x => obtain ⟨t, rfl⟩ := ru; exact PySem.P.repr_of_str ⟨.str _, H, I.tok _, ⟨_, rfl⟩, q⟩ h4
  | lst a b =>
    obtain ⟨as, rd⟩ := Dp.reads I _ _ u keep ru
    cases (show u = Value.ref _ from ru)
    exact repr_of_reads' rd h1 (fun z => by rw [h2] at z; cases z) hg (by omega) (fun _ _ e => e) (fun h' t tk hk => ⟨.str _, H, I.kept hk, ⟨t, rfl⟩, q⟩) h4
  | tup a b =>
    obtain ⟨as, rd⟩ := Dp.reads I _ _ u keep ru
    cases (show u = Value.ref _ from ru)
    exact repr_of_reads' rd h1 (fun z => by rw [h2] at z; cases z) hg (by omega) (fun _ _ e => e) (fun h' t tk hk => ⟨.str _, H, I.kept hk, ⟨t, rfl⟩, q⟩) h4
theorem call_repK {X : Cx} {K : PySem.W.Frag} (hK : X.K = K) (hg : X.A.guards = some []) (hu : X.A.units + 100 < cLine) : CallR X (.builtin "repr") (Gv.rReprV K) := hK ▸ call_repU hg hu
theorem pe_xfK {X : Cx} {K : PySem.W.Frag} {a C : Addr} {oe : Obj} {cls : Value} {d : Option Addr} {pn : List (Addr × Obj)} {e : Expr} {te : TE} {pos : Pos} {n : Str} (T : XfC K C) (hK : X.K = K) (hno : NoAttr K C n) (hz : Zc cls d oe) (hf : ∃ vs, oe.data = .fields vs)
    (he : PE (X.suite a ((a, oe) :: pn)) e te) (hb : attributeBase e n X.env (eval e X.env) = eval e X.env) : PE (X.suite a ((a, oe) :: pn)) (.Attribute e n pos) (tXf a cls d C n te) := by
  subst hK
  exact pe_xf T hno hz hf he hb
end Wy
namespace Yd
open PySem PySem.Spec PyProof.Rows L2 Wy
/-! ## repr of a value that may be a dict of one pair of ints -/
def D1 (i j : Int) : PyData := .dict [(.int i, .int j)]
/-- repr of v reads x -/
def Says (K : PySem.W.Frag) (H : Hp) (v : V) (x : Str) : Prop :=
  (∃ d, Dp K H v d ∧ d.showable = true ∧ d.hasDict = false ∧ d.depth ≤ 60 ∧ d.shown.length ≤ sizeLine ∧ x = d.shown) ∨
  ∃ (a : Addr) (i j : Int), v = .ref a ∧ H a = some (.dK [(.inl i, .int j)]) ∧ (D1 i j).showable = true ∧ (D1 i j).shown.length ≤ sizeLine ∧ x = (D1 i j).shown
theorem dict_reads {P : Program} {w : World} {H : Hp} {h : Heap} {a : Addr} {i j : Int} (ok : HOk P w H h) (e : H a = some (.dK [(.inl i, .int j)])) : ∃ as, Reads h (.ref a) (D1 i j) as ∧ sysModules ∉ as := by
  obtain ⟨_, ns, vs, kv, o, es, ep, ho, ex, hd, _, ps, _⟩ := (show ObjOk P w H h a (.dK [(.inl i, .int j)]) from ok a _ e)
  obtain ⟨k, u, rfl, e1, r2⟩ : ∃ k u, vs = [(k, u)] ∧ (Sum.inl i : Key) = k ∧ RelV (.int j) u := by
    cases kv with
    | cons r1 rest =>
      cases rest
      exact ⟨_, _, rfl, r1.1, r1.2⟩
  subst e1
  obtain ⟨t2, rfl⟩ := (show ∃ t, u = Value.int j t from r2)
  generalize hl : es.toList = el at ps
  cases ps with
  | cons hk hv hr =>
    rename_i en er
    cases hr
    rcases keyIs_shape (show keyIs (Sum.inl i) en.key = true from hk) with ⟨i', t1, e2, ek⟩ | ⟨x, t1, e2, _⟩
    · cases e2
      have hv : en.val = Value.int j t2 := hv
      refine ⟨_, .dict (kvs := [(.int i, .int j)]) ho ex.1 hd (by rw [hl]; show ReadsAll h [en.key] [.int i] _; rw [ek]; exact .cons (.int i t1) .nil) (by rw [hl]; show ReadsAll h [en.val] [.int j] _; rw [hv]; exact .cons (.int j t2) .nil), ?_⟩
      have na : a ≠ sysModules := beq_eq_false_iff_ne.mp ns
      simpa using Ne.symm na
    · cases e2
theorem d1_depth (i j : Int) : (D1 i j).depth ≤ 2 := by simp [D1, PyData.depth, PyData.depthAll, PyData.depthKv]
/-- repr(x) -/
def rSays (K : PySem.W.Frag) : List V → Hp → VK → Prop := fun xs H Q => ∃ (v : V) (x : Str), xs = [v] ∧ Says K H v x ∧ Q (.str x) H
theorem call_says {X : Cx} {K : PySem.W.Frag} (hK : X.K = K) (hg : X.A.guards = some []) (hu : X.A.units + 100 < cLine) : CallR X (.builtin "repr") (rSays K) := by
  subst hK
  intro pins s σ H xs us Q I r h
  obtain ⟨v, x, rfl, h, q⟩ := h
  rcases h with ⟨d, h1, h2, h3, h4, h5, rfl⟩ | ⟨a, i, j, rfl, h1, h2, h3, rfl⟩
  · exact call_repU hg hu pins s σ H _ us Q I r ⟨v, d, rfl, h1, h2, h3, h4, h5, q⟩
  · obtain ⟨u, rfl, ru⟩ := vals1 r
    cases (show u = Value.ref a from ru)
    obtain ⟨as, rd, ns⟩ := dict_reads I.hok h1
    exact repr_of_reads' rd h2 (fun _ => ns) hg (by have := d1_depth i j; omega) (fun _ _ e => e) (fun h' t tk hk => ⟨.str _, H, I.kept hk, ⟨t, rfl⟩, q⟩) h3
end Yd
namespace Dat
open PySem PySem.Spec PyProof.Rows L2
/-! ## Data of any depth: its kind, and that it stays -/
def isIntD : PyData → Bool
  | .int _ => true
  | .bool _ => true
  | _ => false
def isBoolD : PyData → Bool
  | .bool _ => true
  | _ => false
def isRowD : PyData → Bool
  | .list _ => true
  | .tuple _ => true
  | _ => false
def clsD : PyData → String
  | .none => "NoneType"
  | .bool _ => "bool"
  | .int _ => "int"
  | .str _ => "str"
  | .list _ => "list"
  | .tuple _ => "tuple"
  | .dict _ => "dict"
section
variable {K : PySem.W.Frag} {H H' : Hp} {v : V} {d : PyData}
theorem ty_list {a : Addr} {xs : List V} (h : SqL K H a xs) : TyX K H (.ref a) (.type "list") := by
  rcases h with (h | ⟨o, h⟩) | ⟨o, its, n, h1, h2, _⟩
  · exact .base (.lst h)
  · exact .base (.frz h)
  · exact .kList h1 h2
theorem ty_tup {a : Addr} {xs : List V} (h : SqT K H a xs) : TyX K H (.ref a) (.type "tuple") := by
  rcases h with (h | ⟨o, h⟩) | ⟨o, its, n, h1, h2, _⟩
  · exact .base (.tup h)
  · exact .fTuple h
  · exact .kTuple h1 h2
theorem ty_of (h : Dp K H v d) : TyX K H v (.type (clsD d)) := by
  cases h with
  | non => exact .base .non
  | bl b => exact .base (.bl b)
  | int i => exact .base (.int i)
  | str x => exact .base (.str x)
  | lst hs _ => exact ty_list hs
  | tup hs _ => exact ty_tup hs
theorem kit_int (h : Dp K H v d) : PySem.W.kitOne K (.type (clsD d)) (.type "int") = some (isIntD d) := by
  cases h with
  | non => exact kit_ty (a := "NoneType") (b := "int") (r := false) (by decide +kernel)
  | bl _ => exact kit_ty (a := "bool") (b := "int") (r := true) (by decide +kernel)
  | int _ => exact kit_ty (a := "int") (b := "int") (r := true) (by decide +kernel)
  | str _ => exact kit_ty (a := "str") (b := "int") (r := false) (by decide +kernel)
  | lst _ _ => exact kit_ty (a := "list") (b := "int") (r := false) (by decide +kernel)
  | tup _ _ => exact kit_ty (a := "tuple") (b := "int") (r := false) (by decide +kernel)
theorem kit_bool (h : Dp K H v d) : PySem.W.kitOne K (.type (clsD d)) (.type "bool") = some (isBoolD d) := by
  cases h with
  | non => exact kit_ty (a := "NoneType") (b := "bool") (r := false) (by decide +kernel)
  | bl _ => exact kit_ty (a := "bool") (b := "bool") (r := true) (by decide +kernel)
  | int _ => exact kit_ty (a := "int") (b := "bool") (r := false) (by decide +kernel)
  | str _ => exact kit_ty (a := "str") (b := "bool") (r := false) (by decide +kernel)
  | lst _ _ => exact kit_ty (a := "list") (b := "bool") (r := false) (by decide +kernel)
  | tup _ _ => exact kit_ty (a := "tuple") (b := "bool") (r := false) (by decide +kernel)
theorem kit_row (h : Dp K H v d) : PySem.W.kitAny K (.type (clsD d)) [.type "tuple", .type "list"] = some (isRowD d) := by
  cases h with
  | non => exact kitAny_cons (b := false) (kit_ty (a := "NoneType") (b := "tuple") (r := false) (by decide +kernel)) (fun _ => kitAny_cons (b := false) (kit_ty (a := "NoneType") (b := "list") (r := false) (by decide +kernel)) (fun _ => rfl) (fun z => by cases z)) (fun z => by cases z)
  | bl _ => exact kitAny_cons (b := false) (kit_ty (a := "bool") (b := "tuple") (r := false) (by decide +kernel)) (fun _ => kitAny_cons (b := false) (kit_ty (a := "bool") (b := "list") (r := false) (by decide +kernel)) (fun _ => rfl) (fun z => by cases z)) (fun z => by cases z)
  | int _ => exact kitAny_cons (b := false) (kit_ty (a := "int") (b := "tuple") (r := false) (by decide +kernel)) (fun _ => kitAny_cons (b := false) (kit_ty (a := "int") (b := "list") (r := false) (by decide +kernel)) (fun _ => rfl) (fun z => by cases z)) (fun z => by cases z)
  | str _ => exact kitAny_cons (b := false) (kit_ty (a := "str") (b := "tuple") (r := false) (by decide +kernel)) (fun _ => kitAny_cons (b := false) (kit_ty (a := "str") (b := "list") (r := false) (by decide +kernel)) (fun _ => rfl) (fun z => by cases z)) (fun z => by cases z)
  | lst _ _ => exact kitAny_cons (b := false) (kit_ty (a := "list") (b := "tuple") (r := false) (by decide +kernel)) (fun _ => kitAny_cons (b := true) (kit_ty (a := "list") (b := "list") (r := true) (by decide +kernel)) (fun z => by cases z) (fun _ => rfl)) (fun z => by cases z)
  | tup _ _ => exact kitAny_cons (b := true) (kit_ty (a := "tuple") (b := "tuple") (r := true) (by decide +kernel)) (fun z => by cases z) (fun _ => rfl)
theorem seqT_same {a : Addr} {xs : List V} (s : Same H H') (h : SqT K H a xs) : SqT K H' a xs :=
  h.elim (fun h => .inl (h.elim (fun h => .inl (s _ _ h)) fun ⟨o, h⟩ => .inr ⟨o, s _ _ h⟩)) .inr
mutual
theorem dp_same (s : Same H H') : ∀ {d : PyData} {v : V}, Dp K H v d → Dp K H' v d
  | .none, _, h => by
    cases h
    exact .non
  | .bool b, _, h => by
    cases h
    exact .bl b
  | .int i, _, h => by
    cases h
    exact .int i
  | .str x, _, h => by
    cases h
    exact .str x
  | .list ds, _, h => by
    cases h with
    | lst hs ha => exact .lst (s.seq hs) (dps_same s ha)
  | .tuple ds, _, h => by
    cases h with
    | tup hs ha => exact .tup (seqT_same s hs) (dps_same s ha)
  | .dict _, _, h => by cases h
theorem dps_same (s : Same H H') : ∀ {ds : List PyData} {vs : List V}, DpAll K H vs ds → DpAll K H' vs ds
  | [], _, h => by
    cases h
    exact .nil
  | d :: ds, _, h => by
    cases h with
    | cons h1 h2 => exact .cons (dp_same s h1) (dps_same s h2)
end
theorem dps_len : ∀ {vs : List V} {ds : List PyData}, DpAll K H vs ds → vs.length = ds.length
  | _, [], h => by
    cases h
    rfl
  | _, _ :: _, h => by
    cases h with
    | cons _ h2 => exact congrArg Nat.succ (dps_len h2)
theorem dps_get : ∀ {vs : List V} {ds : List PyData}, DpAll K H vs ds → ∀ {i : Nat} {v : V}, vs[i]? = some v → ∃ d, ds[i]? = some d ∧ Dp K H v d
  | _, [], h, i, v, e => by
    cases h
    simp at e
  | _, d :: ds, h, i, v, e => by
    cases h with
    | cons h1 h2 =>
      cases i with
      | zero =>
        simp at e
        subst e
        exact ⟨d, rfl, h1⟩
      | succ i =>
        simp at e
        obtain ⟨d', q1, q2⟩ := dps_get h2 e
        exact ⟨d', by simpa using q1, q2⟩
end
end Dat
namespace Pen
open PySem
def top (i : Nat) : Stmt := PySem.Challenge.pw_everycycle_k19_graphs_refused.main.body.getD i (.Pass ⟨0, 0, 0, 0⟩)
abbrev cBadN : Stmt := top 2
abbrev cBadR : Stmt := top 3
abbrev sBetween : Stmt := top 5
abbrev sFrom : Stmt := top 6
abbrev sRow : Stmt := top 7
abbrev sRowB : Stmt := top 8
abbrev cGraph : Stmt := top 10
abbrev sNeed : Stmt := top 11
abbrev sGates : Stmt := top 12
abbrev sNode : Stmt := top 13
abbrev cBuild : Stmt := top 14
abbrev sLitIn : Stmt := top 15
abbrev sPut : Stmt := top 16
abbrev sOwnL : Stmt := top 17
abbrev sAnew : Stmt := top 18
abbrev sPlain : Stmt := top 19
abbrev sNeeded : Stmt := top 20
abbrev sCone : Stmt := top 21
abbrev sKnown : Stmt := top 22
abbrev sWith : Stmt := top 23
abbrev sPen : Stmt := top 25
abbrev sDraw : Stmt := top 26
abbrev sPick : Stmt := top 27
abbrev sWhy : Stmt := top 28
abbrev sLaw : Stmt := top 29
end Pen
namespace Pen
open PySem PySem.Spec PyProof.Rows L2
/-! ## The pen: the source of all draws. Its three defs, once for each law -/
abbrev FnP (K : PySem.W.Frag) (x : Str) (st : Stmt) (f : Addr) (fd : FuncData) : Prop := FunD K x x (defArgs st) (defBody st) (defScope st) [] [] f fd
/-- the pen's pairs: cells, at, digits, count, fold -/
def cols (c : Addr) (a d n f : Int) : List (Key × V) := [(.inr "cells", .ref c), (.inr "at", .int a), (.inr "digits", .int d), (.inr "count", .int n), (.inr "fold", .int f)]
section
variable {c : Addr} {a d n f z : Int}
theorem get_cells : valV (cols c a d n f) (.inr "cells" : Key) = some (.ref c) := by rfl
theorem get_at : valV (cols c a d n f) (.inr "at" : Key) = some (.int a) := by rfl
theorem get_digits : valV (cols c a d n f) (.inr "digits" : Key) = some (.int d) := by rfl
theorem get_count : valV (cols c a d n f) (.inr "count" : Key) = some (.int n) := by rfl
theorem get_fold : valV (cols c a d n f) (.inr "fold" : Key) = some (.int f) := by rfl
theorem put_at : putK (cols c a d n f) (.inr "at" : Key) (.int z) = cols c z d n f := by rfl
theorem put_digits : putK (cols c a d n f) (.inr "digits" : Key) (.int z) = cols c a z n f := by rfl
theorem put_count : putK (cols c a d n f) (.inr "count" : Key) (.int z) = cols c a d z f := by rfl
theorem put_fold : putK (cols c a d n f) (.inr "fold" : Key) (.int z) = cols c a d n z := by rfl
variable {H : Hp} {p : Addr}
theorem dg_cells (h : H p = some (.dK (cols c a d n f))) : DGet H p (.str "cells") (some (.ref c)) := DGet.k (k := .inr "cells") h
theorem dg_at (h : H p = some (.dK (cols c a d n f))) : DGet H p (.str "at") (some (.int a)) := DGet.k (k := .inr "at") h
theorem dg_digits (h : H p = some (.dK (cols c a d n f))) : DGet H p (.str "digits") (some (.int d)) := DGet.k (k := .inr "digits") h
theorem dg_count (h : H p = some (.dK (cols c a d n f))) : DGet H p (.str "count") (some (.int n)) := DGet.k (k := .inr "count") h
theorem dg_fold (h : H p = some (.dK (cols c a d n f))) : DGet H p (.str "fold") (some (.int f)) := DGet.k (k := .inr "fold") h
theorem five : 5 < sizeLine := by decide
theorem dp_at (h : H p = some (.dK (cols c a d n f))) : DPut H p (.str "at") (.int z) (upd H p (.dK (cols c z d n f))) := DPut.k (k := .inr "at") h five
theorem dp_digits (h : H p = some (.dK (cols c a d n f))) : DPut H p (.str "digits") (.int z) (upd H p (.dK (cols c a z n f))) := DPut.k (k := .inr "digits") h five
theorem dp_count (h : H p = some (.dK (cols c a d n f))) : DPut H p (.str "count") (.int z) (upd H p (.dK (cols c a d z f))) := DPut.k (k := .inr "count") h five
theorem dp_fold (h : H p = some (.dK (cols c a d n f))) : DPut H p (.str "fold") (.int z) (upd H p (.dK (cols c a d n z))) := DPut.k (k := .inr "fold") h five
end
/-- a pen stands at p, its cells at c; so many draws were made at most -/
def PenC (H : Hp) (p c : Addr) (m : Nat) : Prop :=
  ∃ (ns : List Int) (a d n f : Int), H p = some (.dK (cols c a d n f)) ∧ H c = some (.lst (ns.map V.int)) ∧ ns.length ≤ 1000 ∧ 0 ≤ a ∧ 0 ≤ n ∧ n ≤ m ∧ 0 ≤ f ∧ f < 2147483648
/-- all but the object at p stands as it stood -/
def But (p : Addr) (H H' : Hp) : Prop := ∀ b o, H b = some o → b ≠ p → H' b = some o
theorem But.upd {p : Addr} {H : Hp} {o : HO} : But p H (upd H p o) := fun b o e h => by
  rw [upd_ne h]
  exact e
theorem But.trans {p : Addr} {H H1 H2 : Hp} (a : But p H H1) (b : But p H1 H2) : But p H H2 := fun c o e h => b c o (a c o e h) h
theorem But.refl {p : Addr} {H : Hp} : But p H H := fun _ _ e _ => e
theorem But.of_same {p : Addr} {H H' : Hp} (s : Same H H') : But p H H' := fun c o e _ => s c o e
theorem PenC.same {H H' : Hp} {p c : Addr} {m : Nat} (h : PenC H p c m) (s : Same H H') : PenC H' p c m := by
  obtain ⟨ns, a, d, n, f, h1, h2, r⟩ := h
  exact ⟨ns, a, d, n, f, s _ _ h1, s _ _ h2, r⟩
theorem PenC.more {H : Hp} {p c : Addr} {m m' : Nat} (h : PenC H p c m) (s : m ≤ m') : PenC H p c m' := by
  obtain ⟨ns, a, d, n, f, h1, h2, h3, ha, h4, h5, r⟩ := h
  exact ⟨ns, a, d, n, f, h1, h2, h3, ha, h4, by omega, r⟩
theorem PenC.upd {H : Hp} {p c q : Addr} {m : Nat} {o : HO} (h : PenC H p c m) (n1 : q ≠ p) (n2 : q ≠ c) : PenC (upd H q o) p c m := by
  obtain ⟨ns, a, d, n, f, h1, h2, r⟩ := h
  exact ⟨ns, a, d, n, f, by rw [upd_ne n1.symm]; exact h1, by rw [upd_ne n2.symm]; exact h2, r⟩
theorem PenC.free {H : Hp} {p c q : Addr} {m : Nat} (h : PenC H p c m) (e : H q = none) : q ≠ p ∧ q ≠ c := by
  obtain ⟨ns, a, d, n, f, h1, h2, r⟩ := h
  refine ⟨fun z => ?_, fun z => ?_⟩
  · rw [z, h1] at e
    cases e
  · rw [z, h2] at e
    cases e
/-- the script, as each def is handed it -/
def spPen (K : PySem.W.Frag) : Sp := fun vs H Q _ => ∃ (a : Addr) (ns : List Int), vs = [.ref a] ∧ SqL K H a (ns.map V.int) ∧ ns.length ≤ 63 ∧
  ∀ (p c : Addr) (H' : Hp), H p = none → Same H H' → PenC H' p c 0 → Q (.ref p) H'
def spDraw : Sp := fun vs H Q _ => ∃ (p c : Addr) (m : Nat) (many : Int), vs = [.ref p, .int many] ∧ PenC H p c m ∧ m ≤ 1000000000000 ∧ 0 < many ∧ many < 1073741824 ∧
  ∀ (r : Int) (H' : Hp), 0 ≤ r → r < many → PenC H' p c (m + 1) → But p H H' → Q (.int r) H'
def spPick (K : PySem.W.Frag) : Sp := fun vs H Q _ => ∃ (p c l : Addr) (m : Nat) (xs : List V), vs = [.ref p, .ref l] ∧ PenC H p c m ∧ m ≤ 1000000000000 ∧ l ≠ p ∧ SqL K H l xs ∧ 0 < xs.length ∧ xs.length ≤ 1000 ∧
  ∀ (v : V) (i : Nat) (H' : Hp), xs[i]? = some v → PenC H' p c (m + 1) → But p H H' → Q v H'
abbrev pN : List Str := ["_law_script", "_law_fold", "_law_cell"]
abbrev dN : List Str := ["_law_pen_here", "_law_many", "_law_cell", "_law_digit", "_law_blend"]
abbrev kN : List Str := ["_law_pen_here", "_law_some"]
theorem int_item {ns : List Int} {i : Nat} {y : V} (h : (ns.map V.int)[i]? = some y) : ∃ z, y = V.int z := by
  rw [List.getElem?_map] at h
  cases e : ns[i]? with
  | none =>
    rw [e] at h
    cases h
  | some u =>
    rw [e] at h
    exact ⟨u, (Option.some.inj h).symm⟩
structure Txt (mg : Str → Option Value) : Prop where
  len : mg "len" = none
  int : mg "int" = none
  list : mg "list" = none
section
variable {P : Program} {w : World} {K : PySem.W.Frag} {mg : Str → Option Value} {base : Heap} {f : Addr} {fd : FuncData}
theorem scPen : FnScope pN ["_law_script"] (defScope sPen) := ⟨rfl, rfl, rfl, by decide +kernel, rfl, by decide +kernel, by decide +kernel⟩
theorem scDraw : FnScope dN ["_law_pen_here", "_law_many"] (defScope sDraw) := ⟨rfl, rfl, rfl, by decide +kernel, rfl, by decide +kernel, by decide +kernel⟩
theorem scPick : FnScope kN ["_law_pen_here", "_law_some"] (defScope sPick) := ⟨rfl, rfl, rfl, by decide +kernel, rfl, by decide +kernel, by decide +kernel⟩
theorem ok_pen {CX : CXT} (F : FnP K "_law_pen" sPen f fd) (T : Txt mg) : FnOk P w K mg base CX 1 f fd ["_law_script"] (spPen K) := by
  refine F.ok scPen (fun vs H Q E h => ?_) (fun cdv A outer s H vs Q E hr h => ?_)
  · obtain ⟨a, ns, rfl, _⟩ := h
    rfl
  · obtain ⟨a, ns, rfl, hS, hl, k⟩ := h
    refine ⟨_, PSs.nox (pss_cons (ps_set (i := 1) scPen.nd rfl (Or.inl rfl) pe_int)
      (pss_cons (ps_for PassesOwn.never rfl (pi_list (pv 0)) (pg_name (i := 2) scPen.nd rfl (Or.inl rfl))
        (pss_one (ps_set (i := 1) scPen.nd rfl (Or.inl rfl) (pe_op op_mod (pe_callTy call_int1 (by rfl) T.int (by decide +kernel) (pa_cons (pe_op op_add (pe_op op_mul (pv 1) pe_int) (pv 2)) pa_nil)) pe_int))))
      (pss_one (ps_ret (pe_disp (pps_cons pe_str (pe_callTy call_list_of (by rfl) T.list (by decide +kernel) (pa_cons (pv 0) pa_nil)) (pps_cons pe_str pe_int (pps_cons pe_str pe_int (pps_cons pe_str pe_int (pps_cons pe_str (pv 1) pps_nil))))) (by rfl) (by rfl) (fun z => by cases z) (by decide)))))), ?_⟩
    refine ⟨_, rfl, a, rfl, ⟨_, hS⟩, for_list (K := K) (a := a) (xs := ns.map V.int) (fun i σ H2 => ∃ (z : Int) (v : Option V), σ = [some (.ref a), some (.int z), v] ∧ H2 = H ∧ 0 ≤ z ∧ z < 1000000007)
      ⟨0, none, rfl, rfl, by decide, by decide⟩ (fun i σ H2 _ ⟨_, _, _, e, _⟩ => by rw [e]; exact hS) ?_ ?_⟩
    · rintro i y σ H2 hi ⟨z, v, rfl, rfl, h0, h1⟩
      obtain ⟨u, rfl⟩ := int_item hi
      refine ⟨_, rfl, _, _, rfl, rfl, .inr ⟨by decide, by decide⟩, _, rfl, _, _, rfl, rfl, .inl ⟨_, rfl, _, _, rfl, rfl, (by show (0 : Int) < 1000000007; decide), ?_⟩⟩
      exact ⟨_, _, rfl, rfl, Int.emod_nonneg _ (by decide), Int.emod_lt_of_pos _ (by decide)⟩
    · rintro σ H2 ⟨z, v, rfl, rfl, h0, h1⟩
      intro p hp
      have sp : Same H2 (upd H2 p (.dK [])) := fun b o e => by
        rw [upd_ne (ne_of_none e hp)]
        exact e
      refine ⟨_, rfl, a, _, rfl, .inl (sp.seq hS), fun l hl0 => ?_⟩
      have npl : p ≠ l := fun q => by
        rw [← q, upd_same] at hl0
        cases hl0
      have hl1 : H2 l = none := by
        rw [upd_ne npl.symm] at hl0
        exact hl0
      refine ⟨_, rfl, by rw [upd_ne npl, upd_same], cols l 0 0 0 z, rfl, (by show 5 ≤ 15; decide), ?_⟩
      refine k p l _ hp (fun b o e => ?_) ⟨ns, 0, 0, 0, z, upd_same, ?_, by omega, by decide, by decide, by decide, h0, by omega⟩
      · rw [upd_ne (ne_of_none e hp), upd_ne (ne_of_none e hl1), upd_ne (ne_of_none e hp)]
        exact e
      · rw [upd_ne npl.symm, upd_same]
theorem ok_draw {CX : CXT} (F : FnP K "_law_draw" sDraw f fd) (T : Txt mg) : FnOk P w K mg base CX 1 f fd ["_law_pen_here", "_law_many"] spDraw := by
  refine F.ok scDraw (fun vs H Q E h => ?_) (fun cdv A outer s H vs Q E hr h => ?_)
  · obtain ⟨p, c, m, many, rfl, _⟩ := h
    rfl
  · obtain ⟨p, c, m, many, rfl, ⟨ns, a, d, n, fo, hp, hc, hz, a0, n0, nm, f0, f1⟩, hm, m0, m1, k⟩ := h
    have hu := hu_of hr
    have ncp : c ≠ p := ne_of hc hp (by intro z; cases z)
    refine ⟨_, PSs.nox (pss_cons (ps_dput hu (pv 0) pe_str (pe_op op_add (pe_dget hu (pv 0) pe_str (fun _ _ => rfl)) pe_int) rfl)
      (C8.pss_cut (ps_if (PW.pt (pw_and (pt_cmpR op_eq (pe_dget hu (pv 0) pe_str (fun _ _ => rfl)) pe_int (nomark _))
          (pw_and1 (pt_cmpR op_lt (pe_dget hu (pv 0) pe_str (fun _ _ => rfl)) (pe_callB call_len_seq (by rfl) T.len PySem.boot_len (pa_cons (pe_dget hu (pv 0) pe_str (fun _ _ => rfl)) pa_nil)) (nomark _)))))
        (pss_cons (ps_set (i := 2) scDraw.nd rfl (Or.inl rfl) (pe_ix ix_list (pe_dget hu (pv 0) pe_str (fun _ _ => rfl)) (pe_dget hu (pv 0) pe_str (fun _ _ => rfl)) (fun _ _ => rfl)))
        (pss_cons (ps_dput hu (pv 0) pe_str (pe_op op_add (pe_dget hu (pv 0) pe_str (fun _ _ => rfl)) pe_int) rfl)
        (pss_one (ps_if (pt_cmpR op_ge (pv 2) (pe_op op_pow pe_int pe_int) (nomark _))
          (pss_one (ps_dput hu (pv 0) pe_str (pe_op op_sub (pv 2) (pe_op op_pow pe_int pe_int)) rfl))
          (pss_one (ps_dput hu (pv 0) pe_str (pe_op op_mod (pe_callTy call_int1 (by rfl) T.int (by decide +kernel) (pa_cons (pe_op op_add (pe_op op_mul (pe_dget hu (pv 0) pe_str (fun _ _ => rfl)) pe_int) (pv 2)) pa_nil)) pe_int) rfl))))))
        pss_nil)
      (pss_cons (ps_if (pt_cmpR op_gt (pe_dget hu (pv 0) pe_str (fun _ _ => rfl)) pe_int (nomark _))
        (pss_cons (ps_set (i := 3) scDraw.nd rfl (Or.inl rfl) (pe_op op_mod (pe_callTy call_int1 (by rfl) T.int (by decide +kernel) (pa_cons (pe_dget hu (pv 0) pe_str (fun _ _ => rfl)) pa_nil)) (pv 1)))
        (pss_cons (ps_dput hu (pv 0) pe_str (pe_op op_fdiv (pe_dget hu (pv 0) pe_str (fun _ _ => rfl)) (pv 1)) rfl)
        (pss_one (ps_ret (pv 3)))))
        pss_nil)
      (pss_cons (ps_set (i := 4) scDraw.nd rfl (Or.inl rfl) (pe_op op_add (pe_op op_add (pe_dget hu (pv 0) pe_str (fun _ _ => rfl)) (pe_op op_mul (pe_dget hu (pv 0) pe_str (fun _ _ => rfl)) pe_int)) pe_int))
      (pss_one (ps_ret (pe_op op_mod (pe_op op_fdiv (pe_callTy call_int1 (by rfl) T.int (by decide +kernel) (pa_cons (pe_op op_mod (pe_op op_pow (pv 4) pe_int) pe_int) pa_nil)) pe_int) (pv 1)))))))), ?_⟩
    -- count
    refine ⟨_, rfl, _, _, rfl, dg_count hp, _, _, rfl, rfl, _, rfl, p, _, rfl, dp_count hp, ?_⟩
    have hp1 : ∀ {o : HO}, upd H p o p = some o := upd_same
    have hc1 : ∀ {o : HO}, upd H p o c = some (.lst (ns.map V.int)) := by
      intro o
      rw [upd_ne ncp]
      exact hc
    refine ⟨fun σ H2 => ∃ (a' d' fo' : Int) (cell : Option V), σ = [some (.ref p), some (.int many), cell, none, none] ∧ H2 = upd H p (.dK (cols c a' d' (n + 1) fo')) ∧ 0 ≤ a' ∧ 0 ≤ fo' ∧ fo' < 2147483648, ?_, ?_⟩
    · refine ⟨_, rfl, _, _, rfl, dg_digits hp1, rfl, _, rfl, ?_⟩
      refine ite2 (fun _ => ?_) (fun _ => ?_)
      · refine ⟨_, rfl, _, _, rfl, dg_at hp1, _, rfl, _, _, rfl, dg_cells hp1, _, _, rfl, .inl (SqL.of hc1), _, _, rfl, rfl, _, rfl, ?_⟩
        refine ite2 (fun hlt => ?_) (fun _ => ?_)
        · have hlt := of_decide_eq_true hlt
          have hj : a.toNat < (ns.map V.int).length := by omega
          obtain ⟨u, hu2⟩ := int_item (List.getElem?_eq_getElem hj)
          have hit : (ns.map V.int)[a.toNat]? = some (V.int u) := by
            rw [List.getElem?_eq_getElem hj, hu2]
          refine ⟨_, rfl, _, _, rfl, dg_cells hp1, _, rfl, _, _, rfl, dg_at hp1, _, _, _, _, rfl, rfl, SqL.of hc1, at_of (j := a.toNat) (by omega) hit, ?_⟩
          refine ⟨_, rfl, _, _, rfl, dg_at hp1, _, _, rfl, rfl, _, rfl, p, _, rfl, dp_at hp1, ?_⟩
          rw [upd_upd]
          refine ⟨_, rfl, _, _, rfl, rfl, ⟨by decide, by decide, by decide⟩, _, _, rfl, rfl, _, rfl, ?_⟩
          refine ite2 (fun _ => ?_) (fun _ => ?_)
          · refine ⟨_, rfl, _, _, rfl, rfl, ⟨by decide, by decide, by decide⟩, _, _, rfl, rfl, _, rfl, p, _, rfl, dp_digits hp1, ?_⟩
            rw [upd_upd]
            exact ⟨_, _, _, _, rfl, rfl, by omega, f0, f1⟩
          · refine ⟨_, rfl, _, _, rfl, dg_fold hp1, _, _, rfl, rfl, .inr ⟨by decide, by decide⟩, _, rfl, _, _, rfl, rfl, .inl ⟨_, rfl, _, _, rfl, rfl, (by show (0 : Int) < 2147483587; decide), ?_⟩⟩
            refine ⟨_, rfl, p, _, rfl, dp_fold hp1, ?_⟩
            rw [upd_upd]
            exact ⟨_, _, _, _, rfl, rfl, by omega, Int.emod_nonneg _ (by decide), Int.lt_trans (Int.emod_lt_of_pos _ (by decide)) (by decide)⟩
        · exact ⟨_, _, _, _, rfl, rfl, a0, f0, f1⟩
      · exact ⟨_, _, _, _, rfl, rfl, a0, f0, f1⟩
    · rintro σ H2 ⟨a', d', fo', cell, rfl, rfl, h0, g0, g1⟩
      refine ⟨_, rfl, _, _, rfl, dg_digits hp1, _, _, rfl, rfl, _, rfl, ?_⟩
      refine ite2 (fun _ => ?_) (fun _ => ?_)
      · refine ⟨_, rfl, _, _, rfl, dg_digits hp1, .inl ⟨_, rfl, _, rfl, _, _, rfl, rfl, m0, ?_⟩⟩
        refine ⟨_, rfl, _, _, rfl, dg_digits hp1, _, rfl, _, _, rfl, rfl, ⟨m0, m1⟩, _, rfl, p, _, rfl, dp_digits hp1, ?_⟩
        rw [upd_upd]
        refine ⟨_, rfl, k _ _ (Int.emod_nonneg _ (by omega)) (Int.emod_lt_of_pos _ m0) ⟨ns, _, _, _, _, hp1, hc1, hz, h0, by omega, by omega, g0, g1⟩ But.upd⟩
      · refine ⟨_, rfl, _, _, rfl, dg_fold hp1, _, rfl, _, _, rfl, dg_count hp1, _, _, rfl, rfl, .inr ⟨by decide, by decide⟩, _, _, rfl, rfl, _, _, rfl, rfl, ?_⟩
        refine ⟨_, rfl, _, _, rfl, rfl, ⟨by decide, by decide, ?_⟩, _, _, rfl, rfl, (by show (0 : Int) < 2305843009213693951; decide), .inl ⟨_, rfl, _, _, rfl, rfl, ⟨by decide, by decide⟩, _, rfl, _, _, rfl, rfl, m0, ?_⟩⟩
        · omega
        · exact k _ _ (Int.emod_nonneg _ (by omega)) (Int.emod_lt_of_pos _ m0) ⟨ns, _, _, _, _, hp1, hc1, hz, h0, by omega, by omega, g0, g1⟩ But.upd
theorem ok_pick {CX : CXT} {fD : Addr} {fdD : FuncData} (F : FnP K "_law_pick" sPick f fd) (T : Txt mg) (FD : FnP K "_law_draw" sDraw fD fdD) (gD : mg "_law_draw" = some (.ref fD)) (hCX : ∀ X, Passes CX X E0 := by exact fun X => pass0) : FnOk P w K mg base CX 2 f fd ["_law_pen_here", "_law_some"] (spPick K) := by
  have GD : FnOk P w K mg base CX0 1 fD fdD ["_law_pen_here", "_law_many"] spDraw := ok_draw FD T
  have bD : Binds K fdD ["_law_pen_here", "_law_many"] [] := FD.bindsN fun _ _ _ _ _ _ us hl => match us, hl with | [_, _], _ => rfl
  refine F.ok scPick (fun vs H Q E h => ?_) (fun cdv A outer s H vs Q E hr h => ?_)
  · obtain ⟨p, c, l, m, xs, rfl, _⟩ := h
    rfl
  · obtain ⟨p, c, l, m, xs, rfl, hP, hm, hlp, hS, h0, h1, k⟩ := h
    refine ⟨_, PSs.nox (pss_one (ps_ret (pe_ix ix_list (pv 1) (pe_call GD hr rfl gD FD.kp bD .nil pass0 (pa_cons (pv 0) (pa_cons (pe_callB call_len_seq (by rfl) T.len PySem.boot_len (pa_cons (pv 1) pa_nil)) pa_nil))) (fun _ _ => rfl)))), ?_⟩
    refine ⟨_, rfl, _, rfl, _, rfl, _, _, rfl, .inl hS, p, c, m, _, rfl, hP, hm, by omega, by omega, fun r H' r0 r1 hP' hB => ?_⟩
    have hj : r.toNat < xs.length := by omega
    have hS' : SqL K H' l xs := by
      rcases hS with (h | ⟨o, h⟩) | h
      · exact .inl (.inl (hB _ _ h hlp))
      · exact .inl (.inr ⟨o, hB _ _ h hlp⟩)
      · exact .inr h
    exact ⟨_, _, _, _, rfl, rfl, hS', at_of (j := r.toNat) (by omega) (List.getElem?_eq_getElem hj), k _ _ _ (List.getElem?_eq_getElem hj) hP' hB⟩
end
end Pen
namespace Yh
open PySem PySem.Spec PyProof.Rows L2 LamX Pen Wy Yd
/-! ## The def that tells what a call raised -/
theorem len3 {a b c : V} : [a, b, c].length ≤ sizeLine := (by decide : 3 ≤ sizeLine)
theorem len2 {a b : V} : [a, b].length ≤ sizeLine := (by decide : 2 ≤ sizeLine)
/-- what the telling def asks of the exception -/
def WhyE (K : PySem.W.Frag) (CN CR : Addr) (Q : VK) : XK := fun cls d H1 => ∃ dd fs, d = some dd ∧ H1 dd = some (.xd fs) ∧
  ((cls = .ref CN ∧ ∃ (m : Str) (v : V) (x : Str), fs.lookup ("what" : Str) = some (.str m) ∧ fs.lookup ("number" : Str) = some v ∧ Says K H1 v x ∧ ∀ t, H1 t = none → Q (.ref t) (upd H1 t (.tup [.str "number", .str m, .str x]))) ∨
   (cls = .ref CR ∧ ∃ (v : V) (x : Str), fs.lookup ("row" : Str) = some v ∧ Says K H1 v x ∧ ∀ t, H1 t = none → Q (.ref t) (upd H1 t (.tup [.str "row", .str x]))))
/-- what it makes of the call's reading -/
def TWhy (K : PySem.W.Frag) (CN CR : Addr) : (XK → Hp → VK → Prop) → Hp → VK → Prop := fun tl H Q => tl (WhyE K CN CR Q) H fun _ H1 => Q .non H1
abbrev yN : List Str := ["_law_call", "e"]
theorem scWhy : FnScope yN ["_law_call"] (defScope sWhy) := ⟨rfl, rfl, rfl, by decide +kernel, rfl, by decide +kernel, by decide +kernel⟩
structure Tw (K : PySem.W.Frag) (mg : Str → Option Value) (CN CR : Addr) : Prop where
  mN : mg "BadNumber" = some (.ref CN)
  mR : mg "BadRow" = some (.ref CR)
  nn : PySem.W.exmOne K (.ref CN) (.ref CN) = some true
  rn : PySem.W.exmOne K (.ref CR) (.ref CN) = some false
  rr : PySem.W.exmOne K (.ref CR) (.ref CR) = some true
  xN : XfC K CN
  xR : XfC K CR
  nw : NoAttr K CN "what"
  nb : NoAttr K CN "number"
  nr : NoAttr K CR "row"
  rep : mg "repr" = none
abbrev whyX (X : Cx) (g : Addr) (cdg : Value) (s : Shared) (H : Hp) : Cx := (cxOf C8.CX0 X.prog X.w X.K X.mg X.base yN "_law_why" (defScope sWhy) g cdg X.A X.stack s H C8.E0).nox
theorem why_gives {X : Cx} {q : Str} {g CN CR : Addr} {cdg : Value} {k : Nat} (T : Tw X.K X.mg CN CR) (hg : X.A.guards = some []) (hr : Room (k + 1) X.A) : GivesTo X yN "_law_why" (defScope sWhy) g cdg (defBody sWhy) "_law_call" q (TWhy X.K CN CR) := by
  intro f c' s H Q tl act hc h
  have un := hr.un
  refine ⟨_, pss_cons (ps_try_all (i := 1) (n := "e") (X := whyX X g cdg s H)
      (tb := fun W D σ H => ∃ Ech : XK, (∀ cls d σ' H', Ech cls d H' → W cls d σ' H') ∧ σ[0]? = some (some (.ref f)) ∧ H c' = some (CodeO c' q) ∧ tl Ech H fun _ H1 => D.nx σ H1)
      rfl rfl scWhy.nd rfl (by rfl) takes0 (fun W pn xe tk _ => ?_)
      (.cons (c := .ref CN) ⟨by rfl, by decide, .inl T.mN⟩ (fun a oe cls d pn hz hf => pss_one (ps_ret (pe_tup (pa_cons pe_str (pa_cons (pe_xfK T.xN rfl T.nw hz hf (pv 1) rfl) (pa_cons (pe_callB (id := "repr") (r := rSays X.K) (call_says (X := (whyX X g cdg s H).suite a ((a, oe) :: pn)) (K := X.K) rfl hg (by show X.A.units + 3 + 100 < cLine; omega)) (by rfl) T.rep (by decide +kernel) (pa_cons (pe_xfK T.xN rfl T.nb hz hf (pv 1) rfl) pa_nil)) pa_nil))))))
      (.cons (c := .ref CR) ⟨by rfl, by decide, .inl T.mR⟩ (fun a oe cls d pn hz hf => pss_one (ps_ret (pe_tup (pa_cons pe_str (pa_cons (pe_callB (id := "repr") (r := rSays X.K) (call_says (X := (whyX X g cdg s H).suite a ((a, oe) :: pn)) (K := X.K) rfl hg (by show X.A.units + 3 + 100 < cLine; omega)) (by rfl) T.rep (by decide +kernel) (pa_cons (pe_xfK T.xR rfl T.nr hz hf (pv 1) rfl) pa_nil)) pa_nil)))))
      .nil)))
    (pss_one (ps_ret pe_non)), ?_⟩
  · refine ⟨fun pins s' σ H' D I h' => ?_⟩
    obtain ⟨Ech, hW, h1, h2, h3⟩ := h'
    exact (pss_one (ps_expr (act W pn xe Ech _ _ tk hW))).run pins s' σ H' D I ⟨h1, h2, h3⟩
  · refine ⟨_, fun cls d σ' H1 x lz => ?_, rfl, hc, h⟩
    obtain ⟨dd, fs, rfl, hd, x⟩ := x
    obtain ⟨w0, w1, rfl⟩ : ∃ w0 w1 : Option V, σ' = [w0, w1] := match σ', lz with | [w0, w1], _ => ⟨w0, w1, rfl⟩
    rcases x with ⟨rfl, m, v, dat, f1, f2, tl, q⟩ | ⟨rfl, v, dat, f2, tl, q⟩
    · refine ⟨true, T.nn, fun _ a na => ?_, fun z => by cases z⟩
      refine ⟨_, rfl, rfl, rfl, dd, fs, .str m, rfl, hd, f1, ?_⟩
      exact ⟨_, rfl, rfl, rfl, dd, fs, v, rfl, hd, f2, v, dat, rfl, tl, len3, q⟩
    · refine ⟨false, T.rn, (fun z => by cases z), fun _ => ⟨true, T.rr, fun _ a na => ?_, fun z => by cases z⟩⟩
      exact ⟨_, rfl, rfl, rfl, dd, fs, v, rfl, hd, f2, v, dat, rfl, tl, len2, q⟩
end Yh
namespace Ki
open PySem PySem.Spec PyProof.Rows L2 Pen Dat
/-! ## Of which kind a value is -/
structure Tx (mg : Str → Option Value) : Prop where
  isi : mg "isinstance" = none
  int : mg "int" = none
  bool : mg "bool" = none
  tuple : mg "tuple" = none
  list : mg "list" = none
  len : mg "len" = none
  all : mg "all" = none
def betD (d : PyData) (lo hi : Int) : Bool :=
  match d with
  | .int i => decide (lo ≤ i) && decide (i ≤ hi)
  | _ => false
def fromD (d : PyData) (lo : Int) : Bool :=
  match d with
  | .int i => decide (i ≥ lo)
  | _ => false
def rowsD (d : PyData) : List PyData :=
  match d with
  | .list ds => ds
  | .tuple ds => ds
  | _ => []
def rowB (d : PyData) (many lo hi : Int) : Bool := isRowD d && (decide (((rowsD d).length : Int) = many) && (rowsD d).all fun e => betD e lo hi)
def spBetween (K : PySem.W.Frag) : Sp := fun vs H Q _ => ∃ (v : V) (lo hi : Int) (d : PyData), vs = [v, .int lo, .int hi] ∧ Dp K H v d ∧ Q (.bl (betD d lo hi)) H
def spFrom (K : PySem.W.Frag) : Sp := fun vs H Q _ => ∃ (v : V) (lo : Int) (d : PyData), vs = [v, .int lo] ∧ Dp K H v d ∧ Q (.bl (fromD d lo)) H
def spRow (K : PySem.W.Frag) : Sp := fun vs H Q _ => ∃ (v : V) (d : PyData), vs = [v] ∧ Dp K H v d ∧ ∀ H', Same H H' → Q (.bl (isRowD d)) H'
def spRowB (K : PySem.W.Frag) : Sp := fun vs H Q _ => ∃ (v : V) (many lo hi : Int) (d : PyData), vs = [v, .int many, .int lo, .int hi] ∧ Dp K H v d ∧ (rowsD d).length ≤ 1000 ∧ ∀ H', Same H H' → Q (.bl (rowB d many lo hi)) H'
section
variable {P : Program} {w : World} {K : PySem.W.Frag} {mg : Str → Option Value} {base : Heap} {f : Addr} {fd : FuncData}
theorem same_new {H : Hp} {p : Addr} {u : HO} (np : H p = none) : Same H (upd H p u) := fun b o e => by
  rw [upd_ne (ne_of_none e np)]
  exact e
theorem scBetween : FnScope ["value", "least", "most"] ["value", "least", "most"] (defScope sBetween) := ⟨rfl, rfl, rfl, by decide +kernel, rfl, by decide +kernel, by decide +kernel⟩
theorem scFrom : FnScope ["value", "least"] ["value", "least"] (defScope sFrom) := ⟨rfl, rfl, rfl, by decide +kernel, rfl, by decide +kernel, by decide +kernel⟩
theorem scRow : FnScope ["value"] ["value"] (defScope sRow) := ⟨rfl, rfl, rfl, by decide +kernel, rfl, by decide +kernel, by decide +kernel⟩
abbrev rbN : List Str := ["value", "many", "least", "most", "part"]
theorem scRowB : FnScope rbN ["value", "many", "least", "most"] (defScope sRowB) := ⟨rfl, rfl, rfl, by decide +kernel, rfl, by decide +kernel, by decide +kernel⟩
theorem ok_between (F : FnP K "is_between" sBetween f fd) (T : Tx mg) : FnOk P w K mg base CX0 1 f fd ["value", "least", "most"] (spBetween K) := by
  refine F.ok scBetween (fun vs H Q E h => ?_) (fun cdv A outer s H vs Q E hr h => ?_)
  · obtain ⟨v, lo, hi, d, rfl, _⟩ := h
    rfl
  · obtain ⟨v, lo, hi, d, rfl, hd, q⟩ := h
    refine ⟨_, PSs.nox (pss_one (ps_ret (pe_and (pe_callB call_isi (by rfl) T.isi (by decide +kernel) (pa_cons (pv 0) (pa_cons (pe_bltn (v := .ty "int") (by rfl) T.int (by decide +kernel) rfl) pa_nil)))
      (pe_and (pe_not (pe_callB call_isi (by rfl) T.isi (by decide +kernel) (pa_cons (pv 0) (pa_cons (pe_bltn (v := .ty "bool") (by rfl) T.bool (by decide +kernel) rfl) pa_nil))))
      (pe_one (pe_chain op_le op_le (pv 1) (pv 0) (pv 2))))))), ?_⟩
    refine ⟨_, rfl, _, _, _, _, _, rfl, .ty _, ty_of hd, kit_int hd, _, rfl, ?_⟩
    have kb := kit_bool hd
    have tb := ty_of hd
    cases hd with
    | non => exact iteF q
    | str x => exact iteF q
    | lst _ _ => exact iteF q
    | tup _ _ => exact iteF q
    | bl b => exact iteT ⟨_, rfl, _, _, _, _, _, rfl, .ty _, tb, kb, _, rfl, _, rfl, iteF q⟩
    | int i =>
      refine iteT ⟨_, rfl, _, _, _, _, _, rfl, .ty _, tb, kb, _, rfl, _, rfl, iteT ?_⟩
      refine ⟨_, rfl, _, rfl, _, _, rfl, rfl, _, rfl, ite2 (fun h1 => ?_) (fun h1 => ?_)⟩
      · refine ⟨_, rfl, _, _, rfl, rfl, ?_⟩
        have e : (decide (lo ≤ i) && decide (i ≤ hi)) = decide (i ≤ hi) := by
          rw [h1]
          rfl
        show Q (V.bl (decide (i ≤ hi))) H
        rw [← e]
        exact q
      · have e : (decide (lo ≤ i) && decide (i ≤ hi)) = false := by
          rw [Bool.eq_false_iff.mpr h1]
          rfl
        show Q (V.bl false) H
        rw [← e]
        exact q
theorem ok_from (F : FnP K "is_from" sFrom f fd) (T : Tx mg) : FnOk P w K mg base CX0 1 f fd ["value", "least"] (spFrom K) := by
  refine F.ok scFrom (fun vs H Q E h => ?_) (fun cdv A outer s H vs Q E hr h => ?_)
  · obtain ⟨v, lo, d, rfl, _⟩ := h
    rfl
  · obtain ⟨v, lo, d, rfl, hd, q⟩ := h
    refine ⟨_, PSs.nox (pss_one (ps_ret (pe_and (pe_callB call_isi (by rfl) T.isi (by decide +kernel) (pa_cons (pv 0) (pa_cons (pe_bltn (v := .ty "int") (by rfl) T.int (by decide +kernel) rfl) pa_nil)))
      (pe_and (pe_not (pe_callB call_isi (by rfl) T.isi (by decide +kernel) (pa_cons (pv 0) (pa_cons (pe_bltn (v := .ty "bool") (by rfl) T.bool (by decide +kernel) rfl) pa_nil))))
      (pe_one (pe_cmpR op_ge (pv 0) (pv 1) (nomark _))))))), ?_⟩
    refine ⟨_, rfl, _, _, _, _, _, rfl, .ty _, ty_of hd, kit_int hd, _, rfl, ?_⟩
    have kb := kit_bool hd
    have tb := ty_of hd
    cases hd with
    | non => exact iteF q
    | str x => exact iteF q
    | lst _ _ => exact iteF q
    | tup _ _ => exact iteF q
    | bl b => exact iteT ⟨_, rfl, _, _, _, _, _, rfl, .ty _, tb, kb, _, rfl, _, rfl, iteF q⟩
    | int i =>
      refine iteT ⟨_, rfl, _, _, _, _, _, rfl, .ty _, tb, kb, _, rfl, _, rfl, iteT ?_⟩
      exact ⟨_, rfl, _, rfl, _, _, rfl, rfl, q⟩
theorem ok_row (F : FnP K "is_row" sRow f fd) (T : Tx mg) : FnOk P w K mg base CX0 1 f fd ["value"] (spRow K) := by
  refine F.ok scRow (fun vs H Q E h => ?_) (fun cdv A outer s H vs Q E hr h => ?_)
  · obtain ⟨v, d, rfl, _⟩ := h
    rfl
  · obtain ⟨v, d, rfl, hd, q⟩ := h
    refine ⟨_, PSs.nox (pss_one (ps_ret (pe_callB call_isiT (by rfl) T.isi (by decide +kernel) (pa_cons (pv 0) (pa_cons (pe_tup (pa_cons (pe_bltn (v := .ty "tuple") (by rfl) T.tuple (by decide +kernel) rfl) (pa_cons (pe_bltn (v := .ty "list") (by rfl) T.list (by decide +kernel) rfl) pa_nil))) pa_nil))))), ?_⟩
    refine ⟨_, rfl, (by show 2 ≤ sizeLine; decide), fun p np => ?_⟩
    exact ⟨_, _, _, _, _, _, rfl, upd_same, .cons (.ty _) (.cons (.ty _) .nil), ty_of (dp_same (same_new np) hd), kit_row hd, q _ (same_new np)⟩
theorem take_more {α : Type} {xs : List α} {i : Nat} {x : α} (h : xs[i]? = some x) : xs.take (i + 1) = xs.take i ++ [x] := by
  rw [List.take_succ, h]
  rfl
theorem yes_of {σ : L2.St} {H : Hp} {A B : Hp → Prop} (h : A H) : tYes σ H fun b H3 => if b = true then A H3 else B H3 := by
  show if true = true then A H else B H
  exact iteT h
theorem ok_rowB {fB fR : Addr} {fdB fdR : FuncData} (F : FnP K "is_row_between" sRowB f fd) (T : Tx mg) (FB : FnP K "is_between" sBetween fB fdB) (gB : mg "is_between" = some (.ref fB)) (FR : FnP K "is_row" sRow fR fdR) (gR : mg "is_row" = some (.ref fR)) :
    FnOk P w K mg base CX0 2 f fd ["value", "many", "least", "most"] (spRowB K) := by
  have GB : FnOk P w K mg base CX0 1 fB fdB ["value", "least", "most"] (spBetween K) := ok_between FB T
  have GR : FnOk P w K mg base CX0 1 fR fdR ["value"] (spRow K) := ok_row FR T
  have bB : Binds K fdB ["value", "least", "most"] [] := FB.bindsN fun _ _ _ _ _ _ us hl => match us, hl with | [_, _, _], _ => rfl
  have bR : Binds K fdR ["value"] [] := FR.bindsN fun _ _ _ _ _ _ us hl => match us, hl with | [_], _ => rfl
  refine F.ok scRowB (fun vs H Q E h => ?_) (fun cdv A outer s H vs Q E hr h => ?_)
  · obtain ⟨v, many, lo, hi, d, rfl, _⟩ := h
    rfl
  · obtain ⟨v, many, lo, hi, d, rfl, hd, hz, q⟩ := h
    cases hd with
    | lst hs ha =>
      rename_i a vs ds
      have hlen := dps_len ha
      have hz' : ds.length ≤ 1000 := hz
      refine ⟨_, PSs.nox (pss_one (ps_ret (pe_and (pe_call GR hr (by rfl) gR FR.kp bR .nil pass0 (pa_cons (pv 0) pa_nil))
        (pe_and (pe_cmpR op_eq (pe_callB call_len_seq (by rfl) T.len PySem.boot_len (pa_cons (pv 0) pa_nil)) (pv 1) (nomark _))
        (pe_one (pe_callB (cr_all rfl) (by rfl) T.all (by decide +kernel) (pa_cons
          (pe_lc (own := [("part", 4)]) (g := gName 4) (tt := tYes) rfl scRowB.nd (pi_list (pv 0)) (blkOk_by (N := rbN) (sc := defScope sRowB) (by decide +kernel)) (fun _ _ _ _ _ => pg_name (i := 4) scRowB.nd rfl (Or.inl rfl)) (fun _ _ _ _ _ => pts_nil)
            (fun _ _ _ _ _ => pe_call GB hr (by rfl) gB FB.kp bB .nil pass0 (pa_cons (pv 4) (pa_cons (pv 2) (pa_cons (pv 3) pa_nil))))) pa_nil))))))), ?_⟩
      refine ⟨_, rfl, _, _, rfl, .lst hs ha, fun H1 s1 => ⟨_, rfl, iteT ?_⟩⟩
      refine ⟨_, rfl, _, _, rfl, .inl (s1.seq hs), _, rfl, rfl, _, rfl, ite2 (fun e1 => ?_) (fun e1 => ?_)⟩
      · have e2 : (ds.length : Int) = many := by
          rw [← hlen]
          exact V.int.inj (of_decide_eq_true e1)
        refine ⟨_, rfl, a, rfl, ⟨_, s1.seq hs⟩, fun D nD => ?_⟩
        have sD : Same H1 (upd H1 D (.lst [])) := same_new nD
        refine lc_list (K := K) (a := a) (xs := vs) (fun i H2 => Same H1 H2 ∧ H2 D = some (.lst ((ds.take i).map fun e => V.bl (betD e lo hi)))) ⟨sD, by rw [upd_same]; rfl⟩ (fun i H2 _ ⟨s2, _⟩ => s2.seq (s1.seq hs)) ?_ ?_
        · rintro i v H2 hi ⟨s2, h2⟩
          obtain ⟨e, he, hv⟩ := dps_get ha hi
          refine ⟨rfl, yes_of ?_⟩
          refine ⟨_, rfl, _, rfl, _, rfl, _, _, _, e, rfl, dp_same (s1.trans s2) hv, _, h2, ?_, fun b o z => ?_, ?_⟩
          · rw [List.length_map, List.length_take]
            exact Nat.lt_of_le_of_lt (Nat.min_le_right _ _) (Nat.lt_of_le_of_lt hz' (by decide))
          · rw [upd_ne (ne_of_none z nD)]
            exact s2 _ _ z
          · rw [upd_same, take_more he, List.map_append]
            rfl
        · rintro H2 ⟨s2, h2⟩
          rw [hlen, List.take_length] at h2
          refine ⟨D, ds.map fun e => betD e lo hi, rfl, SqL.of ?_, ?_⟩
          · rw [h2, List.map_map]
            rfl
          · have e3 : rowB (.list ds) many lo hi = (ds.map fun e => betD e lo hi).all id := by
              show (true && (decide ((ds.length : Int) = many) && ds.all fun e => betD e lo hi)) = _
              rw [decide_eq_true e2, List.all_map]
              rfl
            rw [← e3]
            exact q _ (s1.trans s2)
      · have e2 : ¬ (ds.length : Int) = many := fun z => e1 (decide_eq_true (by rw [hlen, z]))
        have e3 : rowB (.list ds) many lo hi = false := by
          show (true && (decide ((ds.length : Int) = many) && ds.all fun e => betD e lo hi)) = false
          rw [decide_eq_false e2]
          rfl
        rw [← e3]
        exact q _ s1
    | tup hs ha =>
      rename_i a vs ds
      have hlen := dps_len ha
      have hz' : ds.length ≤ 1000 := hz
      refine ⟨_, PSs.nox (pss_one (ps_ret (pe_and (pe_call GR hr (by rfl) gR FR.kp bR .nil pass0 (pa_cons (pv 0) pa_nil))
        (pe_and (pe_cmpR op_eq (pe_callB call_len_seq (by rfl) T.len PySem.boot_len (pa_cons (pv 0) pa_nil)) (pv 1) (nomark _))
        (pe_one (pe_callB (cr_all rfl) (by rfl) T.all (by decide +kernel) (pa_cons
          (pe_lc (own := [("part", 4)]) (g := gName 4) (tt := tYes) rfl scRowB.nd (pi_tup (pv 0)) (blkOk_by (N := rbN) (sc := defScope sRowB) (by decide +kernel)) (fun _ _ _ _ _ => pg_name (i := 4) scRowB.nd rfl (Or.inl rfl)) (fun _ _ _ _ _ => pts_nil)
            (fun _ _ _ _ _ => pe_call GB hr (by rfl) gB FB.kp bB .nil pass0 (pa_cons (pv 4) (pa_cons (pv 2) (pa_cons (pv 3) pa_nil))))) pa_nil))))))), ?_⟩
      refine ⟨_, rfl, _, _, rfl, .tup hs ha, fun H1 s1 => ⟨_, rfl, iteT ?_⟩⟩
      refine ⟨_, rfl, _, _, rfl, .inr (seqT_same s1 hs), _, rfl, rfl, _, rfl, ite2 (fun e1 => ?_) (fun e1 => ?_)⟩
      · have e2 : (ds.length : Int) = many := by
          rw [← hlen]
          exact V.int.inj (of_decide_eq_true e1)
        refine ⟨_, rfl, a, rfl, ⟨_, seqT_same s1 hs⟩, fun D nD => ?_⟩
        have sD : Same H1 (upd H1 D (.lst [])) := same_new nD
        refine lc_tup (K := K) (a := a) (xs := vs) (fun i H2 => Same H1 H2 ∧ H2 D = some (.lst ((ds.take i).map fun e => V.bl (betD e lo hi)))) ⟨sD, by rw [upd_same]; rfl⟩ (fun i H2 _ ⟨s2, _⟩ => seqT_same s2 (seqT_same s1 hs)) ?_ ?_
        · rintro i v H2 hi ⟨s2, h2⟩
          obtain ⟨e, he, hv⟩ := dps_get ha hi
          refine ⟨rfl, yes_of ?_⟩
          refine ⟨_, rfl, _, rfl, _, rfl, _, _, _, e, rfl, dp_same (s1.trans s2) hv, _, h2, ?_, fun b o z => ?_, ?_⟩
          · rw [List.length_map, List.length_take]
            exact Nat.lt_of_le_of_lt (Nat.min_le_right _ _) (Nat.lt_of_le_of_lt hz' (by decide))
          · rw [upd_ne (ne_of_none z nD)]
            exact s2 _ _ z
          · rw [upd_same, take_more he, List.map_append]
            rfl
        · rintro H2 ⟨s2, h2⟩
          rw [hlen, List.take_length] at h2
          refine ⟨D, ds.map fun e => betD e lo hi, rfl, SqL.of ?_, ?_⟩
          · rw [h2, List.map_map]
            rfl
          · have e3 : rowB (.tuple ds) many lo hi = (ds.map fun e => betD e lo hi).all id := by
              show (true && (decide ((ds.length : Int) = many) && ds.all fun e => betD e lo hi)) = _
              rw [decide_eq_true e2, List.all_map]
              rfl
            rw [← e3]
            exact q _ (s1.trans s2)
      · have e2 : ¬ (ds.length : Int) = many := fun z => e1 (decide_eq_true (by rw [hlen, z]))
        have e3 : rowB (.tuple ds) many lo hi = false := by
          show (true && (decide ((ds.length : Int) = many) && ds.all fun e => betD e lo hi)) = false
          rw [decide_eq_false e2]
          rfl
        rw [← e3]
        exact q _ s1
    | non =>
      refine ⟨_, PSs.nox (pss_one (ps_ret (pe_and (pe_call GR hr (by rfl) gR FR.kp bR .nil pass0 (pa_cons (pv 0) pa_nil))
        (pe_and (pe_cmpR op_eq (pe_callB call_len_seq (by rfl) T.len PySem.boot_len (pa_cons (pv 0) pa_nil)) (pv 1) (nomark _))
        (pe_one (pe_callB (cr_all rfl) (by rfl) T.all (by decide +kernel) (pa_cons
          (pe_lc (own := [("part", 4)]) (g := gName 4) (tt := tYes) rfl scRowB.nd (pi_list (pv 0)) (blkOk_by (N := rbN) (sc := defScope sRowB) (by decide +kernel)) (fun _ _ _ _ _ => pg_name (i := 4) scRowB.nd rfl (Or.inl rfl)) (fun _ _ _ _ _ => pts_nil)
            (fun _ _ _ _ _ => pe_call GB hr (by rfl) gB FB.kp bB .nil pass0 (pa_cons (pv 4) (pa_cons (pv 2) (pa_cons (pv 3) pa_nil))))) pa_nil))))))), ?_⟩
      exact ⟨_, rfl, _, _, rfl, .non, fun H1 s1 => ⟨_, rfl, iteF (q _ s1)⟩⟩
    | bl b =>
      refine ⟨_, PSs.nox (pss_one (ps_ret (pe_and (pe_call GR hr (by rfl) gR FR.kp bR .nil pass0 (pa_cons (pv 0) pa_nil))
        (pe_and (pe_cmpR op_eq (pe_callB call_len_seq (by rfl) T.len PySem.boot_len (pa_cons (pv 0) pa_nil)) (pv 1) (nomark _))
        (pe_one (pe_callB (cr_all rfl) (by rfl) T.all (by decide +kernel) (pa_cons
          (pe_lc (own := [("part", 4)]) (g := gName 4) (tt := tYes) rfl scRowB.nd (pi_list (pv 0)) (blkOk_by (N := rbN) (sc := defScope sRowB) (by decide +kernel)) (fun _ _ _ _ _ => pg_name (i := 4) scRowB.nd rfl (Or.inl rfl)) (fun _ _ _ _ _ => pts_nil)
            (fun _ _ _ _ _ => pe_call GB hr (by rfl) gB FB.kp bB .nil pass0 (pa_cons (pv 4) (pa_cons (pv 2) (pa_cons (pv 3) pa_nil))))) pa_nil))))))), ?_⟩
      exact ⟨_, rfl, _, _, rfl, .bl b, fun H1 s1 => ⟨_, rfl, iteF (q _ s1)⟩⟩
    | int i =>
      refine ⟨_, PSs.nox (pss_one (ps_ret (pe_and (pe_call GR hr (by rfl) gR FR.kp bR .nil pass0 (pa_cons (pv 0) pa_nil))
        (pe_and (pe_cmpR op_eq (pe_callB call_len_seq (by rfl) T.len PySem.boot_len (pa_cons (pv 0) pa_nil)) (pv 1) (nomark _))
        (pe_one (pe_callB (cr_all rfl) (by rfl) T.all (by decide +kernel) (pa_cons
          (pe_lc (own := [("part", 4)]) (g := gName 4) (tt := tYes) rfl scRowB.nd (pi_list (pv 0)) (blkOk_by (N := rbN) (sc := defScope sRowB) (by decide +kernel)) (fun _ _ _ _ _ => pg_name (i := 4) scRowB.nd rfl (Or.inl rfl)) (fun _ _ _ _ _ => pts_nil)
            (fun _ _ _ _ _ => pe_call GB hr (by rfl) gB FB.kp bB .nil pass0 (pa_cons (pv 4) (pa_cons (pv 2) (pa_cons (pv 3) pa_nil))))) pa_nil))))))), ?_⟩
      exact ⟨_, rfl, _, _, rfl, .int i, fun H1 s1 => ⟨_, rfl, iteF (q _ s1)⟩⟩
    | str x =>
      refine ⟨_, PSs.nox (pss_one (ps_ret (pe_and (pe_call GR hr (by rfl) gR FR.kp bR .nil pass0 (pa_cons (pv 0) pa_nil))
        (pe_and (pe_cmpR op_eq (pe_callB call_len_seq (by rfl) T.len PySem.boot_len (pa_cons (pv 0) pa_nil)) (pv 1) (nomark _))
        (pe_one (pe_callB (cr_all rfl) (by rfl) T.all (by decide +kernel) (pa_cons
          (pe_lc (own := [("part", 4)]) (g := gName 4) (tt := tYes) rfl scRowB.nd (pi_list (pv 0)) (blkOk_by (N := rbN) (sc := defScope sRowB) (by decide +kernel)) (fun _ _ _ _ _ => pg_name (i := 4) scRowB.nd rfl (Or.inl rfl)) (fun _ _ _ _ _ => pts_nil)
            (fun _ _ _ _ _ => pe_call GB hr (by rfl) gB FB.kp bB .nil pass0 (pa_cons (pv 4) (pa_cons (pv 2) (pa_cons (pv 3) pa_nil))))) pa_nil))))))), ?_⟩
      exact ⟨_, rfl, _, _, rfl, .str x, fun H1 s1 => ⟨_, rfl, iteF (q _ s1)⟩⟩
end
end Ki
namespace Fi
open PySem PySem.Spec PyProof.Rows L2 Pen Dat
/-! ## What never changes: tuples, locked things, instances -/
def firm : HO → Bool
  | .tup _ => true
  | .frz _ _ => true
  | .ins _ _ _ => true
  | _ => false
def Firm (H H' : Hp) : Prop := ∀ b o, H b = some o → firm o = true → H' b = some o
theorem Firm.refl (H : Hp) : Firm H H := fun _ _ e _ => e
theorem Firm.trans {H H1 H2 : Hp} (a : Firm H H1) (b : Firm H1 H2) : Firm H H2 := fun c o e h => b c o (a c o e h) h
theorem Firm.of {H H' : Hp} (s : Same H H') : Firm H H' := fun b o e _ => s b o e
theorem Firm.upd {H : Hp} {a : Addr} {u o : HO} (h : H a = some u) (hu : firm u = false) : Firm H (upd H a o) := fun b z e hz => by
  rw [upd_ne (fun q => by rw [q, h] at e; cases e; rw [hu] at hz; cases hz)]
  exact e
theorem Firm.but {H H' : Hp} {p : Addr} {u : HO} (c : But p H H') (h : H p = some u) (hu : firm u = false) : Firm H H' := fun b z e hz =>
  c b z e fun q => by
    rw [q, h] at e
    cases e
    rw [hu] at hz
    cases hz
theorem Firm.pen {H H' : Hp} {p c : Addr} {m : Nat} (b : But p H H') (h : PenC H p c m) : Firm H H' := by
  obtain ⟨_, _, _, _, _, h1, _⟩ := h
  exact Firm.but b h1 rfl
/-! ### two lists, item by item -/
inductive All2 {α : Type} (R : V → α → Prop) : List V → List α → Prop
  | nil : All2 R [] []
  | cons {v : V} {x : α} {vs : List V} {xs : List α} : R v x → All2 R vs xs → All2 R (v :: vs) (x :: xs)
section
variable {α : Type} {R R' : V → α → Prop}
theorem All2.len : ∀ {vs : List V} {xs : List α}, All2 R vs xs → vs.length = xs.length
  | _, _, .nil => rfl
  | _, _, .cons _ h => congrArg Nat.succ h.len
theorem All2.imp (f : ∀ v x, R v x → R' v x) : ∀ {vs : List V} {xs : List α}, All2 R vs xs → All2 R' vs xs
  | _, _, .nil => .nil
  | _, _, .cons h t => .cons (f _ _ h) (t.imp f)
theorem All2.get : ∀ {vs : List V} {xs : List α}, All2 R vs xs → ∀ {i : Nat} {v : V}, vs[i]? = some v → ∃ x, xs[i]? = some x ∧ R v x
  | _, _, .nil, i, v, e => by simp at e
  | _, _, .cons (v := v0) (x := x0) h t, 0, v, e => by
    simp at e
    subst e
    exact ⟨x0, rfl, h⟩
  | _, _, .cons h t, i + 1, v, e => by
    simp at e
    obtain ⟨x, q1, q2⟩ := t.get e
    exact ⟨x, by simpa using q1, q2⟩
theorem All2.get' : ∀ {vs : List V} {xs : List α}, All2 R vs xs → ∀ {i : Nat} {x : α}, xs[i]? = some x → ∃ v, vs[i]? = some v ∧ R v x
  | _, _, .nil, i, v, e => by simp at e
  | _, _, .cons (v := v0) (x := x0) h t, 0, v, e => by
    simp at e
    subst e
    exact ⟨v0, rfl, h⟩
  | _, _, .cons h t, i + 1, v, e => by
    simp at e
    obtain ⟨x, q1, q2⟩ := t.get' e
    exact ⟨x, by simpa using q1, q2⟩
theorem All2.snoc {v : V} {x : α} (h : R v x) : ∀ {vs : List V} {xs : List α}, All2 R vs xs → All2 R (vs ++ [v]) (xs ++ [x])
  | _, _, .nil => .cons h .nil
  | _, _, .cons h1 t => .cons h1 (t.snoc h)
theorem All2.append : ∀ {vs ws : List V} {xs ys : List α}, All2 R vs xs → All2 R ws ys → All2 R (vs ++ ws) (xs ++ ys)
  | _, _, _, _, .nil, h => h
  | _, _, _, _, .cons h1 t, h => .cons h1 (t.append h)
theorem All2.take : ∀ {vs : List V} {xs : List α} (n : Nat), All2 R vs xs → All2 R (vs.take n) (xs.take n)
  | _, _, 0, _ => by
    rw [List.take_zero, List.take_zero]
    exact .nil
  | _, _, _ + 1, .nil => .nil
  | _, _, n + 1, .cons h t => .cons h (t.take n)
end
/-! ### pairs, rows of pairs, rows of ints -/
def Pt (K : PySem.W.Frag) (H : Hp) (v : V) (p : Int × Int) : Prop := ∃ q, v = .ref q ∧ SqT K H q [.int p.1, .int p.2]
def Pr (K : PySem.W.Frag) (H : Hp) (v : V) (p : Int × Int) : Prop := ∃ q, v = .ref q ∧ (SqL K H q [.int p.1, .int p.2] ∨ SqT K H q [.int p.1, .int p.2])
def Tu (K : PySem.W.Frag) (H : Hp) (v : V) (r : List Int) : Prop := ∃ q, v = .ref q ∧ H q = some (.tup (r.map V.int))
def GT (K : PySem.W.Frag) (H : Hp) (g : Addr) (gs : List (Int × Int)) : Prop := ∃ vs, SqT K H g vs ∧ All2 (Pt K H) vs gs
def RowG (K : PySem.W.Frag) (H : Hp) (v : V) (gs : List (Int × Int)) : Prop := ∃ r vs, v = .ref r ∧ (SqL K H r vs ∨ SqT K H r vs) ∧ All2 (Pr K H) vs gs
section
variable {K : PySem.W.Frag} {H H' : Hp}
theorem firm_seq {a : Addr} {xs : List V} (s : Firm H H') (h : SqT K H a xs) : SqT K H' a xs :=
  h.elim (fun h => .inl (h.elim (fun h => .inl (s _ _ h rfl)) fun ⟨o, h⟩ => .inr ⟨o, s _ _ h rfl⟩)) .inr
theorem Pt.firm {v : V} {p : Int × Int} (s : Firm H H') (h : Pt K H v p) : Pt K H' v p := by
  obtain ⟨q, e, h⟩ := h
  exact ⟨q, e, firm_seq s h⟩
theorem Tu.firm {v : V} {r : List Int} (s : Firm H H') (h : Tu K H v r) : Tu K H' v r := by
  obtain ⟨q, e, h⟩ := h
  exact ⟨q, e, s _ _ h rfl⟩
theorem GT.firm {g : Addr} {gs : List (Int × Int)} (s : Firm H H') (h : GT K H g gs) : GT K H' g gs := by
  obtain ⟨vs, h1, h2⟩ := h
  exact ⟨vs, firm_seq s h1, h2.imp fun _ _ q => q.firm s⟩
theorem Pr.same {v : V} {p : Int × Int} (s : Same H H') (h : Pr K H v p) : Pr K H' v p := by
  obtain ⟨q, e, h⟩ := h
  exact ⟨q, e, h.elim (fun h => .inl (s.seq h)) fun h => .inr (seqT_same s h)⟩
theorem RowG.same {v : V} {gs : List (Int × Int)} (s : Same H H') (h : RowG K H v gs) : RowG K H' v gs := by
  obtain ⟨r, vs, e, h1, h2⟩ := h
  exact ⟨r, vs, e, h1.elim (fun h => .inl (s.seq h)) fun h => .inr (seqT_same s h), h2.imp fun _ _ q => q.same s⟩
theorem Pt.pr {v : V} {p : Int × Int} (h : Pt K H v p) : Pr K H v p := by
  obtain ⟨q, e, h⟩ := h
  exact ⟨q, e, .inr h⟩
theorem GT.row {g : Addr} {gs : List (Int × Int)} (h : GT K H g gs) : RowG K H (.ref g) gs := by
  obtain ⟨vs, h1, h2⟩ := h
  exact ⟨g, vs, rfl, .inr h1, h2.imp fun _ _ q => q.pr⟩
/-- a row of pairs, as data -/
def pD (p : Int × Int) : PyData := .tuple [.int p.1, .int p.2]
def gD (gs : List (Int × Int)) : PyData := .tuple (gs.map pD)
theorem pt_dp {v : V} {p : Int × Int} (h : Pt K H v p) : Dp K H v (pD p) := by
  obtain ⟨q, rfl, h⟩ := h
  exact .tup h (.cons (.int _) (.cons (.int _) .nil))
theorem pts_dp : ∀ {vs : List V} {gs : List (Int × Int)}, All2 (Pt K H) vs gs → DpAll K H vs (gs.map pD)
  | _, _, .nil => .nil
  | _, _, .cons h t => .cons (pt_dp h) (pts_dp t)
theorem GT.dp {g : Addr} {gs : List (Int × Int)} (h : GT K H g gs) : Dp K H (.ref g) (gD gs) := by
  obtain ⟨vs, h1, h2⟩ := h
  exact .tup h1 (pts_dp h2)
theorem ints_dp : ∀ (r : List Int), DpAll K H (r.map V.int) (r.map PyData.int)
  | [] => .nil
  | _ :: r => .cons (.int _) (ints_dp r)
end
end Fi
namespace Gr
open PySem PySem.Spec PyProof.Rows L2 Pen Dat Ki Fi
/-! ## Graphs -/
structure Tx (K : PySem.W.Frag) (mg : Str → Option Value) (C : Addr) : Prop where
  ki : Ki.Tx mg
  cl : Cls K C
  nL : NoAttr K C "leaves"
  nG : NoAttr K C "gates"
  mgC : mg "Graph" = some (.ref C)
  cls : PySem.W.findIn K (.ref C) "__class__" = some (some (.builtin "object.__class__"))
  spc : PySem.W.specialIn K (.builtin "object.__class__") "__get__" = some (some (.builtin "getset_descriptor.__get__"))
  tak : PySem.W.takesIn K (.builtin "object.__class__") = some true
  met : ∀ {H : Hp} {a dx : Addr} {fs : List (Str × V)}, H a = some (.ins C dx fs) → TyOf K H (.ref a) (.ref C)
  own : PySem.W.kitOne K (.ref C) (.ref C) = some true
  tup : PySem.W.kitOne K (.type "tuple") (.ref C) = some false
def flds (n : Int) (g : Addr) : List (Str × V) := putF "gates" (.ref g) (putF "leaves" (.int n) [])
theorem kLG : ¬ (("leaves" : Str) = "gates") := by decide +kernel
theorem flds_eq (n : Int) (g : Addr) : flds n g = ([("leaves", V.int n), ("gates", V.ref g)] : List (Str × V)) := by
  show (if ("leaves" : Str) = "gates" then [(("leaves" : Str), V.ref g)] else (("leaves" : Str), V.int n) :: putF "gates" (V.ref g) []) = ([("leaves", V.int n), ("gates", V.ref g)] : List (Str × V))
  rw [if_neg kLG]
  all_goals rfl
theorem flds_L (n : Int) (g : Addr) : (flds n g).lookup ("leaves" : Str) = some (.int n) := by
  unfold flds
  rw [lookup_putF, if_neg kLG, lookup_putF, if_pos rfl]
theorem flds_G (n : Int) (g : Addr) : (flds n g).lookup ("gates" : Str) = some (.ref g) := by
  unfold flds
  rw [lookup_putF, if_pos rfl]
def GraphAt (K : PySem.W.Frag) (C : Addr) (H : Hp) (p : Addr) (n : Int) (gs : List (Int × Int)) : Prop := ∃ dx g, H p = some (.ins C dx (flds n g)) ∧ GT K H g gs
theorem GraphAt.firm {K : PySem.W.Frag} {C p : Addr} {H H' : Hp} {n : Int} {gs : List (Int × Int)} (s : Firm H H') (h : GraphAt K C H p n gs) : GraphAt K C H' p n gs := by
  obtain ⟨dx, g, h1, h2⟩ := h
  exact ⟨dx, g, s _ _ h1 rfl, h2.firm s⟩
def goB : Int → List PyData → Bool
  | _, [] => true
  | m, e :: r => rowB e 2 0 m && goB (m + 2) r
def gatesB (n : Int) (d : PyData) : Bool := isRowD d && goB (2 * n + 1) (rowsD d)
def within (a m : Int) : Bool := decide (0 ≤ a) && decide (a ≤ m)
def okG : Int → List (Int × Int) → Bool
  | _, [] => true
  | m, p :: r => (within p.1 m && within p.2 m) && okG (m + 2) r
theorem pr_dp {K : PySem.W.Frag} {H : Hp} {v : V} {p : Int × Int} (h : Pr K H v p) : ∃ e, Dp K H v e ∧ (rowsD e).length ≤ 1000 ∧ ∀ m, rowB e 2 0 m = (within p.1 m && within p.2 m) := by
  obtain ⟨q, rfl, h | h⟩ := h
  · exact ⟨_, .lst h (.cons (.int _) (.cons (.int _) .nil)), by show 2 ≤ 1000; decide, fun m => by show (true && (decide (((2 : Nat) : Int) = 2) && (within p.1 m && (within p.2 m && true)))) = _; rw [decide_eq_true (by rfl), Bool.and_true]; rfl⟩
  · exact ⟨_, .tup h (.cons (.int _) (.cons (.int _) .nil)), by show 2 ≤ 1000; decide, fun m => by show (true && (decide (((2 : Nat) : Int) = 2) && (within p.1 m && (within p.2 m && true)))) = _; rw [decide_eq_true (by rfl), Bool.and_true]; rfl⟩
theorem prs_dp {K : PySem.W.Frag} {H : Hp} : ∀ {vs : List V} {gs : List (Int × Int)}, All2 (Pr K H) vs gs → ∃ ds, DpAll K H vs ds ∧ ds.length = gs.length ∧ (∀ e ∈ ds, (rowsD e).length ≤ 1000) ∧ ∀ m, goB m ds = okG m gs
  | _, _, .nil => ⟨[], .nil, rfl, (fun e z => absurd z List.not_mem_nil), fun m => rfl⟩
  | _, _, .cons h t => by
    obtain ⟨e, e1, e2, e3⟩ := pr_dp h
    obtain ⟨ds, d1, d2, d3, d4⟩ := prs_dp t
    refine ⟨e :: ds, .cons e1 d1, congrArg Nat.succ d2, fun z hz => ?_, fun m => ?_⟩
    · rcases List.mem_cons.mp hz with rfl | hz
      · exact e2
      · exact d3 z hz
    · show (rowB e 2 0 m && goB (m + 2) ds) = _
      rw [e3, d4]
      rfl
theorem row_dp {K : PySem.W.Frag} {H : Hp} {v : V} {gs : List (Int × Int)} (h : RowG K H v gs) : ∃ d, Dp K H v d ∧ (rowsD d).length = gs.length ∧ (∀ e ∈ rowsD d, (rowsD e).length ≤ 1000) ∧ ∀ n, gatesB n d = okG (2 * n + 1) gs := by
  obtain ⟨r, vs, rfl, h1, h2⟩ := h
  obtain ⟨ds, d1, d2, d3, d4⟩ := prs_dp h2
  rcases h1 with h1 | h1
  · exact ⟨.list ds, .lst h1 d1, d2, d3, fun n => d4 _⟩
  · exact ⟨.tuple ds, .tup h1 d1, d2, d3, fun n => d4 _⟩
def spNeed : Sp := fun vs H Q _ => ∃ n : Int, vs = [.int n] ∧ n ≥ 0 ∧ Q .non H
def spGates (K : PySem.W.Frag) : Sp := fun vs H Q _ => ∃ (n : Int) (v : V) (d : PyData), vs = [.int n, v] ∧ Dp K H v d ∧ (rowsD d).length ≤ 1000 ∧ (∀ e ∈ rowsD d, (rowsD e).length ≤ 1000) ∧ ∀ H', Same H H' → Q (.bl (gatesB n d)) H'
def spInit (K : PySem.W.Frag) (C : Addr) : Sp := fun vs H Q _ => ∃ (p dx : Addr) (n : Int) (v : V) (gs : List (Int × Int)), vs = [.ref p, .int n, v] ∧ H p = some (.ins C dx []) ∧ n ≥ 0 ∧ RowG K H v gs ∧ gs.length ≤ 1000 ∧ okG (2 * n + 1) gs = true ∧
  ∀ H', (∀ b o, H b = some o → b ≠ p → H' b = some o) → GraphAt K C H' p n gs → Q .non H'
def spEqG (K : PySem.W.Frag) (C : Addr) : Sp := fun vs H Q _ => ∃ (p : Addr) (v : V) (n : Int) (gs : List (Int × Int)), vs = [.ref p, v] ∧ GraphAt K C H p n gs ∧
  ((∃ (q : Addr) (n' : Int) (gs' : List (Int × Int)), v = .ref q ∧ GraphAt K C H q n' gs' ∧ Q (.bl (decide (n = n') && PyData.eqv (gD gs) (gD gs'))) H) ∨ ∃ (t : Addr) (xs : List V), v = .ref t ∧ SqT K H t xs ∧ Q (.bl false) H)
theorem can_pD : ∀ gs : List (Int × Int), PyData.canLayAll0 (gs.map pD) = true
  | [] => rfl
  | _ :: r => can_pD r
theorem deep_pD : ∀ gs : List (Int × Int), PyData.depthAll (gs.map pD) ≤ 1
  | [] => Nat.zero_le _
  | p :: r => Nat.max_le.mpr ⟨Nat.le_refl _, deep_pD r⟩
theorem shaped_gD (gs : List (Int × Int)) : SeqAt.shaped (gD gs) = true := by
  have h1 := can_pD gs
  have h2 := deep_pD gs
  unfold SeqAt.shaped
  rw [Bool.and_eq_true]
  exact ⟨h1, decide_eq_true (by show PyData.depthAll (gs.map pD) + 1 ≤ 64; omega)⟩
def rTupOf (K : PySem.W.Frag) : List V → Hp → VK → Prop := fun xs H Q => ∃ p ys, xs = [V.ref p] ∧ ((SqL K H p ys ∧ ∀ l, H l = none → Q (.ref l) (upd H l (.tup ys))) ∨ (SqT K H p ys ∧ Q (.ref p) H))
section
variable {P : Program} {w : World} {K : PySem.W.Frag} {mg : Str → Option Value} {base : Heap} {f C : Addr} {fd : FuncData}
theorem start_int (n : Int) : 2 * n + 1 = 2 * n + 1 + 2 * ((0 : Nat) : Int) := by omega
theorem start_eq (n : Int) (a : Addr) : ([some (.int n), some (.ref a), some (.int (2 * n + 1)), none] : List (Option V)) = [some (.int n), some (.ref a), some (.int (2 * n + 1 + 2 * ((0 : Nat) : Int))), none] := by
  rw [← start_int]
theorem scNeed : FnScope ["leaves"] ["leaves"] (defScope sNeed) := ⟨rfl, rfl, rfl, by decide +kernel, rfl, by decide +kernel, by decide +kernel⟩
theorem scGates : FnScope ["leaves", "value", "most", "pair"] ["leaves", "value"] (defScope sGates) := ⟨rfl, rfl, rfl, by decide +kernel, rfl, by decide +kernel, by decide +kernel⟩
abbrev sInit : Stmt := inClass cGraph 0
abbrev sEq : Stmt := inClass cGraph 1
abbrev inN : List Str := ["self", "leaves", "gates", "pair"]
theorem scInit : FnScope inN ["self", "leaves", "gates"] (defScope sInit) := ⟨rfl, rfl, rfl, by decide +kernel, rfl, by decide +kernel, by decide +kernel⟩
theorem scEq : FnScope ["self", "other"] ["self", "other"] (defScope sEq) := ⟨rfl, rfl, rfl, by decide +kernel, rfl, by decide +kernel, by decide +kernel⟩
abbrev FnI (K : PySem.W.Frag) (f : Addr) (fd : FuncData) : Prop := FunD K "__init__" "Graph.__init__" (defArgs sInit) (defBody sInit) (defScope sInit) [] [] f fd
abbrev FnE (K : PySem.W.Frag) (f : Addr) (fd : FuncData) : Prop := FunD K "__eq__" "Graph.__eq__" (defArgs sEq) (defBody sEq) (defScope sEq) [] [] f fd
theorem ok_need {fF : Addr} {fdF : FuncData} (F : FnP K "need_leaves" sNeed f fd) (T : Ki.Tx mg) (FF : FnP K "is_from" sFrom fF fdF) (gF : mg "is_from" = some (.ref fF)) : FnOk P w K mg base CX0 2 f fd ["leaves"] spNeed := by
  have GF : FnOk P w K mg base CX0 1 fF fdF ["value", "least"] (spFrom K) := ok_from FF T
  have bF : Binds K fdF ["value", "least"] [] := FF.bindsN fun _ _ _ _ _ _ us hl => match us, hl with | [_, _], _ => rfl
  refine F.ok scNeed (fun vs H Q E h => ?_) (fun cdv A outer s H vs Q E hr h => ?_)
  · obtain ⟨n, rfl, _⟩ := h
    rfl
  · obtain ⟨n, rfl, hn, q⟩ := h
    refine ⟨_, PSs.nox (pss_one (ps_if (pt_not (pt_val (pe_call GF hr (by rfl) gF FF.kp bF .nil pass0 (pa_cons (pv 0) (pa_cons pe_int pa_nil))))) (pss_one ps_never) pss_nil)), ?_⟩
    refine ⟨_, rfl, _, _, .int n, rfl, .int n, _, rfl, ?_⟩
    exact iteNS hn q
theorem ok_gates {fR fB : Addr} {fdR fdB : FuncData} (F : FnP K "are_gates" sGates f fd) (T : Ki.Tx mg) (FR : FnP K "is_row" sRow fR fdR) (gR : mg "is_row" = some (.ref fR)) (FB : FnP K "is_row_between" sRowB fB fdB) (gB : mg "is_row_between" = some (.ref fB))
    {fW : Addr} {fdW : FuncData} (FW : FnP K "is_between" sBetween fW fdW) (gW : mg "is_between" = some (.ref fW)) : FnOk P w K mg base CX0 3 f fd ["leaves", "value"] (spGates K) := by
  have GR : FnOk P w K mg base CX0 1 fR fdR ["value"] (spRow K) := ok_row FR T
  have GB : FnOk P w K mg base CX0 2 fB fdB ["value", "many", "least", "most"] (spRowB K) := ok_rowB FB T FW gW FR gR
  have bR : Binds K fdR ["value"] [] := FR.bindsN fun _ _ _ _ _ _ us hl => match us, hl with | [_], _ => rfl
  have bB : Binds K fdB ["value", "many", "least", "most"] [] := FB.bindsN fun _ _ _ _ _ _ us hl => match us, hl with | [_, _, _, _], _ => rfl
  refine F.ok scGates (fun vs H Q E h => ?_) (fun cdv A outer s H vs Q E hr h => ?_)
  · obtain ⟨n, v, d, rfl, _⟩ := h
    rfl
  · obtain ⟨n, v, d, rfl, hd, hz, hzz, q⟩ := h
    have hr1 := hr.mono (j := 1) (by decide)
    cases hd with
    | lst hs ha =>
      rename_i a vs ds
      have hlen := dps_len ha
      refine ⟨_, PSs.nox (pss_cons (ps_if (pt_not (pt_val (pe_call GR hr1 (by rfl) gR FR.kp bR .nil pass0 (pa_cons (pv 1) pa_nil)))) (pss_one (ps_ret pe_bl)) pss_nil)
        (pss_cons (ps_set (i := 2) scGates.nd rfl (Or.inl rfl) (pe_op op_add (pe_op op_mul pe_int (pv 0)) pe_int))
        (pss_cons (ps_for PassesOwn.never rfl (pi_list (pv 1)) (pg_name (i := 3) scGates.nd rfl (Or.inl rfl))
          (pss_cons (ps_if (pt_not (pt_val (pe_call GB hr (by rfl) gB FB.kp bB .nil pass0 (pa_cons (pv 3) (pa_cons pe_int (pa_cons pe_int (pa_cons (pv 2) pa_nil))))))) (pss_one (ps_ret pe_bl)) pss_nil)
          (pss_one (ps_aug (i := 2) scGates.nd rfl (Or.inl rfl) pe_int ip_add))))
        (pss_one (ps_ret pe_bl))))), ?_⟩
      refine ⟨_, rfl, _, _, rfl, .lst hs ha, fun H1 s1 => ⟨_, rfl, iteF ?_⟩⟩
      refine ⟨_, rfl, _, _, rfl, rfl, .inl ⟨by decide, by decide⟩, _, _, rfl, rfl, ?_⟩
      refine ⟨_, rfl, a, rfl, ⟨_, s1.seq hs⟩, for_list (K := K) (a := a) (xs := vs) (fun i σ H2 => ∃ v : Option V, σ = [some (.int n), some (.ref a), some (.int (2 * n + 1 + 2 * i)), v] ∧ Same H1 H2 ∧ goB (2 * n + 1) ds = goB (2 * n + 1 + 2 * i) (ds.drop i))
        ⟨none, start_eq n a, Same.refl _, by rw [List.drop_zero]; exact congrArg (fun z => goB z ds) (start_int n)⟩ (fun i σ H2 _ ⟨_, _, s2, _⟩ => s2.seq (s1.seq hs)) ?_ ?_⟩
      · rintro i v σ H2 hi ⟨w0, rfl, s2, e2⟩
        obtain ⟨e, he, hv⟩ := dps_get ha hi
        have hm : e ∈ ds := List.mem_of_getElem? he
        have hdrop : ds.drop i = e :: ds.drop (i + 1) := by
          obtain ⟨hlt, e5⟩ := List.getElem?_eq_some_iff.mp he
          rw [← e5]
          exact List.drop_eq_getElem_cons hlt
        rw [hdrop] at e2
        refine ⟨_, rfl, _, rfl, _, _, _, _, e, rfl, dp_same (s1.trans s2) hv, hzz e hm, fun H3 s3 => ⟨_, rfl, ?_⟩⟩
        cases er : rowB e 2 0 (2 * n + 1 + 2 * i) with
        | false =>
          refine iteT ?_
          have e4 : gatesB n (.list ds) = false := by
            show (true && goB (2 * n + 1) ds) = false
            rw [e2]
            show (rowB e 2 0 (2 * n + 1 + 2 * i) && goB _ _) = false
            rw [er]
            rfl
          show Q (V.bl false) H3
          rw [← e4]
          exact q _ ((s1.trans s2).trans s3)
        | true =>
          refine iteF ?_
          refine ⟨_, rfl, _, _, rfl, rfl, some v, ?_, s2.trans s3, ?_⟩
          · show _ = _
            have e5 : 2 * n + 1 + 2 * (i : Int) + 2 = 2 * n + 1 + 2 * ((i + 1 : Nat) : Int) := by omega
            rw [← e5]
            rfl
          · rw [e2]
            show (rowB e 2 0 (2 * n + 1 + 2 * i) && goB _ _) = _
            rw [er]
            have e5 : 2 * n + 1 + 2 * (i : Int) + 2 = 2 * n + 1 + 2 * ((i + 1 : Nat) : Int) := by omega
            rw [← e5]
            rfl
      · rintro σ H2 ⟨w0, rfl, s2, e2⟩
        rw [hlen, List.drop_length] at e2
        have e4 : gatesB n (.list ds) = true := by
          show (true && goB (2 * n + 1) ds) = true
          rw [e2]
          rfl
        show Q (V.bl true) H2
        rw [← e4]
        exact q _ (s1.trans s2)
    | tup hs ha =>
      rename_i a vs ds
      have hlen := dps_len ha
      refine ⟨_, PSs.nox (pss_cons (ps_if (pt_not (pt_val (pe_call GR hr1 (by rfl) gR FR.kp bR .nil pass0 (pa_cons (pv 1) pa_nil)))) (pss_one (ps_ret pe_bl)) pss_nil)
        (pss_cons (ps_set (i := 2) scGates.nd rfl (Or.inl rfl) (pe_op op_add (pe_op op_mul pe_int (pv 0)) pe_int))
        (pss_cons (ps_for PassesOwn.never rfl (pi_tup (pv 1)) (pg_name (i := 3) scGates.nd rfl (Or.inl rfl))
          (pss_cons (ps_if (pt_not (pt_val (pe_call GB hr (by rfl) gB FB.kp bB .nil pass0 (pa_cons (pv 3) (pa_cons pe_int (pa_cons pe_int (pa_cons (pv 2) pa_nil))))))) (pss_one (ps_ret pe_bl)) pss_nil)
          (pss_one (ps_aug (i := 2) scGates.nd rfl (Or.inl rfl) pe_int ip_add))))
        (pss_one (ps_ret pe_bl))))), ?_⟩
      refine ⟨_, rfl, _, _, rfl, .tup hs ha, fun H1 s1 => ⟨_, rfl, iteF ?_⟩⟩
      refine ⟨_, rfl, _, _, rfl, rfl, .inl ⟨by decide, by decide⟩, _, _, rfl, rfl, ?_⟩
      refine ⟨_, rfl, a, rfl, ⟨_, seqT_same s1 hs⟩, for_tup (K := K) (a := a) (xs := vs) (fun i σ H2 => ∃ v : Option V, σ = [some (.int n), some (.ref a), some (.int (2 * n + 1 + 2 * i)), v] ∧ Same H1 H2 ∧ goB (2 * n + 1) ds = goB (2 * n + 1 + 2 * i) (ds.drop i))
        ⟨none, start_eq n a, Same.refl _, by rw [List.drop_zero]; exact congrArg (fun z => goB z ds) (start_int n)⟩ (fun i σ H2 _ ⟨_, _, s2, _⟩ => seqT_same s2 (seqT_same s1 hs)) ?_ ?_⟩
      · rintro i v σ H2 hi ⟨w0, rfl, s2, e2⟩
        obtain ⟨e, he, hv⟩ := dps_get ha hi
        have hm : e ∈ ds := List.mem_of_getElem? he
        have hdrop : ds.drop i = e :: ds.drop (i + 1) := by
          obtain ⟨hlt, e5⟩ := List.getElem?_eq_some_iff.mp he
          rw [← e5]
          exact List.drop_eq_getElem_cons hlt
        rw [hdrop] at e2
        refine ⟨_, rfl, _, rfl, _, _, _, _, e, rfl, dp_same (s1.trans s2) hv, hzz e hm, fun H3 s3 => ⟨_, rfl, ?_⟩⟩
        cases er : rowB e 2 0 (2 * n + 1 + 2 * i) with
        | false =>
          refine iteT ?_
          have e4 : gatesB n (.tuple ds) = false := by
            show (true && goB (2 * n + 1) ds) = false
            rw [e2]
            show (rowB e 2 0 (2 * n + 1 + 2 * i) && goB _ _) = false
            rw [er]
            rfl
          show Q (V.bl false) H3
          rw [← e4]
          exact q _ ((s1.trans s2).trans s3)
        | true =>
          refine iteF ?_
          refine ⟨_, rfl, _, _, rfl, rfl, some v, ?_, s2.trans s3, ?_⟩
          · show _ = _
            have e5 : 2 * n + 1 + 2 * (i : Int) + 2 = 2 * n + 1 + 2 * ((i + 1 : Nat) : Int) := by omega
            rw [← e5]
            rfl
          · rw [e2]
            show (rowB e 2 0 (2 * n + 1 + 2 * i) && goB _ _) = _
            rw [er]
            have e5 : 2 * n + 1 + 2 * (i : Int) + 2 = 2 * n + 1 + 2 * ((i + 1 : Nat) : Int) := by omega
            rw [← e5]
            rfl
      · rintro σ H2 ⟨w0, rfl, s2, e2⟩
        rw [hlen, List.drop_length] at e2
        have e4 : gatesB n (.tuple ds) = true := by
          show (true && goB (2 * n + 1) ds) = true
          rw [e2]
          rfl
        show Q (V.bl true) H2
        rw [← e4]
        exact q _ (s1.trans s2)
    | non =>
      refine ⟨_, PSs.nox (pss_cons (ps_if (pt_not (pt_val (pe_call GR hr1 (by rfl) gR FR.kp bR .nil pass0 (pa_cons (pv 1) pa_nil)))) (pss_one (ps_ret pe_bl)) pss_nil)
        (pss_cons (ps_set (i := 2) scGates.nd rfl (Or.inl rfl) (pe_op op_add (pe_op op_mul pe_int (pv 0)) pe_int))
        (pss_cons (ps_for PassesOwn.never rfl (pi_list (pv 1)) (pg_name (i := 3) scGates.nd rfl (Or.inl rfl))
          (pss_cons (ps_if (pt_not (pt_val (pe_call GB hr (by rfl) gB FB.kp bB .nil pass0 (pa_cons (pv 3) (pa_cons pe_int (pa_cons pe_int (pa_cons (pv 2) pa_nil))))))) (pss_one (ps_ret pe_bl)) pss_nil)
          (pss_one (ps_aug (i := 2) scGates.nd rfl (Or.inl rfl) pe_int ip_add))))
        (pss_one (ps_ret pe_bl))))), ?_⟩
      exact ⟨_, rfl, _, _, rfl, .non, fun H1 s1 => ⟨_, rfl, iteT (q _ s1)⟩⟩
    | bl b =>
      refine ⟨_, PSs.nox (pss_cons (ps_if (pt_not (pt_val (pe_call GR hr1 (by rfl) gR FR.kp bR .nil pass0 (pa_cons (pv 1) pa_nil)))) (pss_one (ps_ret pe_bl)) pss_nil)
        (pss_cons (ps_set (i := 2) scGates.nd rfl (Or.inl rfl) (pe_op op_add (pe_op op_mul pe_int (pv 0)) pe_int))
        (pss_cons (ps_for PassesOwn.never rfl (pi_list (pv 1)) (pg_name (i := 3) scGates.nd rfl (Or.inl rfl))
          (pss_cons (ps_if (pt_not (pt_val (pe_call GB hr (by rfl) gB FB.kp bB .nil pass0 (pa_cons (pv 3) (pa_cons pe_int (pa_cons pe_int (pa_cons (pv 2) pa_nil))))))) (pss_one (ps_ret pe_bl)) pss_nil)
          (pss_one (ps_aug (i := 2) scGates.nd rfl (Or.inl rfl) pe_int ip_add))))
        (pss_one (ps_ret pe_bl))))), ?_⟩
      exact ⟨_, rfl, _, _, rfl, .bl b, fun H1 s1 => ⟨_, rfl, iteT (q _ s1)⟩⟩
    | int i =>
      refine ⟨_, PSs.nox (pss_cons (ps_if (pt_not (pt_val (pe_call GR hr1 (by rfl) gR FR.kp bR .nil pass0 (pa_cons (pv 1) pa_nil)))) (pss_one (ps_ret pe_bl)) pss_nil)
        (pss_cons (ps_set (i := 2) scGates.nd rfl (Or.inl rfl) (pe_op op_add (pe_op op_mul pe_int (pv 0)) pe_int))
        (pss_cons (ps_for PassesOwn.never rfl (pi_list (pv 1)) (pg_name (i := 3) scGates.nd rfl (Or.inl rfl))
          (pss_cons (ps_if (pt_not (pt_val (pe_call GB hr (by rfl) gB FB.kp bB .nil pass0 (pa_cons (pv 3) (pa_cons pe_int (pa_cons pe_int (pa_cons (pv 2) pa_nil))))))) (pss_one (ps_ret pe_bl)) pss_nil)
          (pss_one (ps_aug (i := 2) scGates.nd rfl (Or.inl rfl) pe_int ip_add))))
        (pss_one (ps_ret pe_bl))))), ?_⟩
      exact ⟨_, rfl, _, _, rfl, .int i, fun H1 s1 => ⟨_, rfl, iteT (q _ s1)⟩⟩
    | str x =>
      refine ⟨_, PSs.nox (pss_cons (ps_if (pt_not (pt_val (pe_call GR hr1 (by rfl) gR FR.kp bR .nil pass0 (pa_cons (pv 1) pa_nil)))) (pss_one (ps_ret pe_bl)) pss_nil)
        (pss_cons (ps_set (i := 2) scGates.nd rfl (Or.inl rfl) (pe_op op_add (pe_op op_mul pe_int (pv 0)) pe_int))
        (pss_cons (ps_for PassesOwn.never rfl (pi_list (pv 1)) (pg_name (i := 3) scGates.nd rfl (Or.inl rfl))
          (pss_cons (ps_if (pt_not (pt_val (pe_call GB hr (by rfl) gB FB.kp bB .nil pass0 (pa_cons (pv 3) (pa_cons pe_int (pa_cons pe_int (pa_cons (pv 2) pa_nil))))))) (pss_one (ps_ret pe_bl)) pss_nil)
          (pss_one (ps_aug (i := 2) scGates.nd rfl (Or.inl rfl) pe_int ip_add))))
        (pss_one (ps_ret pe_bl))))), ?_⟩
      exact ⟨_, rfl, _, _, rfl, .str x, fun H1 s1 => ⟨_, rfl, iteT (q _ s1)⟩⟩
theorem ok_init {fN fA : Addr} {fdN fdA : FuncData} (F : FnI K f fd) (T : Tx K mg C) (GN : FnOk P w K mg base CX0 2 fN fdN ["leaves"] spNeed) (gN : mg "need_leaves" = some (.ref fN)) (kN : PySem.W.keepIn K (.ref fN) = true) (bN : Binds K fdN ["leaves"] [])
    (GA : FnOk P w K mg base CX0 3 fA fdA ["leaves", "value"] (spGates K)) (gA : mg "are_gates" = some (.ref fA)) (kA : PySem.W.keepIn K (.ref fA) = true) (bA : Binds K fdA ["leaves", "value"] []) : FnOk P w K mg base CX0 4 f fd ["self", "leaves", "gates"] (spInit K C) := by
  refine F.ok scInit (fun vs H Q E h => ?_) (fun cdv A outer s H vs Q E hr h => ?_)
  · obtain ⟨p, dx, n, v, gs, rfl, _⟩ := h
    rfl
  · obtain ⟨p, dx, n, v, gs, rfl, hp, hn, hv, hz, hok, q⟩ := h
    have hr2 := hr.mono (j := 2) (by decide)
    obtain ⟨d, d1, d2, d3, d4⟩ := row_dp hv
    obtain ⟨r, vs, rfl, hs, ha⟩ := id hv
    rcases hs with hs | hs
    · refine ⟨_, PSs.nox (pss_cons (ps_expr (pe_call GN hr2 (by rfl) gN kN bN .nil pass0 (pa_cons (pv 1) pa_nil)))
        (pss_cons (ps_if (pt_not (pt_val (pe_call GA hr (by rfl) gA kA bA .nil pass0 (pa_cons (pv 1) (pa_cons (pv 2) pa_nil))))) (pss_one ps_never) pss_nil)
        (pss_cons (ps_fld (pv 0) (pv 1) rfl)
        (pss_one (ps_fld (pv 0) (pe_callTy call_tuple_of (by rfl) T.ki.tuple (by decide +kernel) (pa_cons
          (pe_lc (own := [("pair", 3)]) (g := gName 3) (tt := tYes) rfl scInit.nd (pi_list (pv 2)) (blkOk_by (N := inN) (sc := defScope sInit) (by decide +kernel)) (fun _ _ _ _ _ => pg_name (i := 3) scInit.nd rfl (Or.inl rfl)) (fun _ _ _ _ _ => pts_nil)
            (fun _ _ _ _ _ => pe_callTy (T := "tuple") (r := rTupOf K) (by exact call_tuple_of) (by rfl) T.ki.tuple (by decide +kernel) (pa_cons (pv 3) pa_nil))) pa_nil)) rfl))))), ?_⟩
      refine ⟨_, rfl, n, rfl, hn, ?_⟩
      refine ⟨_, rfl, _, rfl, n, _, d, rfl, d1, by omega, d3, fun H1 s1 => ⟨_, rfl, ?_⟩⟩
      rw [d4, hok]
      refine iteF ?_
      have hp1 := s1 _ _ hp
      refine ⟨_, rfl, _, rfl, p, C, dx, _, rfl, hp1, T.cl, T.nL, (by show 0 < 1000; decide), ?_⟩
      have hrp : ∀ {b : Addr} {u : HO}, H b = some u → (∀ C dx fs, u ≠ .ins C dx fs) → (upd H1 p (.ins C dx (putF "leaves" (.int n) []))) b = some u := fun {b u} e ne => by
        rw [upd_ne (fun z => by rw [z, hp] at e; cases e; exact ne _ _ _ rfl)]
        exact s1 _ _ e
      have hs3 : SqL K (upd H1 p (.ins C dx (putF "leaves" (.int n) []))) r vs := by
        rcases hs with (h | ⟨o, h⟩) | h
        · exact .inl (.inl (hrp h (by intro C dx fs z; cases z)))
        · exact .inl (.inr ⟨o, hrp h (by intro C dx fs z; cases z)⟩)
        · exact .inr h
      have pr3 : ∀ {v : V} {z : Int × Int}, Pr K H v z → Pr K (upd H1 p (.ins C dx (putF "leaves" (.int n) []))) v z := by
        rintro v z ⟨q, e, h⟩
        refine ⟨q, e, ?_⟩
        rcases h with ((h | ⟨o, h⟩) | h) | ((h | ⟨o, h⟩) | h)
        · exact .inl (.inl (.inl (hrp h (by intro C dx fs z; cases z))))
        · exact .inl (.inl (.inr ⟨o, hrp h (by intro C dx fs z; cases z)⟩))
        · exact .inl (.inr h)
        · exact .inr (.inl (.inl (hrp h (by intro C dx fs z; cases z))))
        · exact .inr (.inl (.inr ⟨o, hrp h (by intro C dx fs z; cases z)⟩))
        · exact .inr (.inr h)
      have hp3 : (upd H1 p (.ins C dx (putF "leaves" (.int n) []))) p = some (.ins C dx (putF "leaves" (.int n) [])) := upd_same
      have out3 : ∀ b o, H b = some o → b ≠ p → (upd H1 p (.ins C dx (putF "leaves" (.int n) []))) b = some o := fun b o e ne => by
        rw [upd_ne ne]
        exact s1 _ _ e
      generalize (upd H1 p (.ins C dx (putF "leaves" (.int n) []))) = H3 at hs3 pr3 hp3 out3 ⊢
      refine ⟨_, rfl, r, rfl, ⟨_, hs3⟩, fun D nD => ?_⟩
      refine lc_list (K := K) (a := r) (xs := vs) (fun i H4 => Same H3 H4 ∧ ∃ ys, H4 D = some (.lst ys) ∧ All2 (Pt K H4) ys (gs.take i)) ⟨same_new nD, [], upd_same, .nil⟩ (fun i H4 _ ⟨s4, _⟩ => s4.seq hs3) ?_ ?_
      · rintro i v H4 hi ⟨s4, ys, h4, a4⟩
        obtain ⟨z, hz1, hz2⟩ := ha.get hi
        obtain ⟨q0, rfl, hq⟩ := (pr3 hz2).same s4
        have lys : ys.length < sizeLine := by
          rw [a4.len, List.length_take]
          exact Nat.lt_of_le_of_lt (Nat.min_le_right _ _) (Nat.lt_of_le_of_lt hz (by decide))
        have keep : ∀ {H5 : Hp} {zs : List V}, Same H4 H5 → Same H3 (upd H5 D (.lst zs)) := fun {H5 zs} s5 b o e => by
          rw [upd_ne (ne_of_none e nD)]
          exact s5 _ _ (s4 _ _ e)
        refine ⟨rfl, yes_of ?_⟩
        rcases hq with hq | hq
        · refine ⟨_, rfl, q0, _, rfl, .inl ⟨hq, fun l nl => ?_⟩⟩
          have s5 : Same H4 (upd H4 l (.tup [.int z.1, .int z.2])) := same_new nl
          refine ⟨_, s5 _ _ h4, lys, keep s5, _, upd_same, ?_⟩
          rw [take_more hz1]
          have fi : Firm (upd H4 l (.tup [.int z.1, .int z.2])) (upd (upd H4 l (.tup [.int z.1, .int z.2])) D (.lst (ys ++ [.ref l]))) := Firm.upd (s5 _ _ h4) rfl
          exact (a4.imp fun _ _ h => (h.firm (Firm.of s5)).firm fi).snoc ⟨l, rfl, firm_seq fi (SqT.of upd_same)⟩
        · refine ⟨_, rfl, q0, _, rfl, .inr ⟨hq, ?_⟩⟩
          refine ⟨_, h4, lys, keep (Same.refl _), _, upd_same, ?_⟩
          rw [take_more hz1]
          have fi : Firm H4 (upd H4 D (.lst (ys ++ [.ref q0]))) := Firm.upd h4 rfl
          exact (a4.imp fun _ _ h => h.firm fi).snoc ⟨q0, rfl, firm_seq fi hq⟩
      · rintro H4 ⟨s4, ys, h4, a4⟩
        rw [ha.len, List.take_length] at a4
        refine ⟨D, ys, rfl, .inl ⟨SqL.of h4, fun g ng => ?_⟩⟩
        have hp4 := s4 _ _ hp3
        have s5 : Same H4 (upd H4 g (.tup ys)) := same_new ng
        refine ⟨_, rfl, p, C, dx, _, rfl, s5 _ _ hp4, T.cl, T.nG, (by show 1 < 1000; decide), ?_⟩
        refine q _ (fun b o e ne => ?_) ⟨dx, g, upd_same, ys, ?_, ?_⟩
        · rw [upd_ne ne]
          exact s5 _ _ (s4 _ _ (out3 b o e ne))
        · have ngp : g ≠ p := fun e => by
            rw [e, hp4] at ng
            cases ng
          exact SqT.of (by rw [upd_ne ngp, upd_same])
        · refine a4.imp fun _ _ h => ?_
          obtain ⟨q1, e1, h1⟩ := h.firm (Firm.of s5)
          refine ⟨q1, e1, ?_⟩
          rcases h1 with (h | ⟨o, h⟩) | h
          · exact .inl (.inl (by rw [upd_ne (fun e => by rw [e, s5 _ _ hp4] at h; cases h)]; exact h))
          · exact .inl (.inr ⟨o, by rw [upd_ne (fun e => by rw [e, s5 _ _ hp4] at h; cases h)]; exact h⟩)
          · exact .inr h
    · refine ⟨_, PSs.nox (pss_cons (ps_expr (pe_call GN hr2 (by rfl) gN kN bN .nil pass0 (pa_cons (pv 1) pa_nil)))
        (pss_cons (ps_if (pt_not (pt_val (pe_call GA hr (by rfl) gA kA bA .nil pass0 (pa_cons (pv 1) (pa_cons (pv 2) pa_nil))))) (pss_one ps_never) pss_nil)
        (pss_cons (ps_fld (pv 0) (pv 1) rfl)
        (pss_one (ps_fld (pv 0) (pe_callTy call_tuple_of (by rfl) T.ki.tuple (by decide +kernel) (pa_cons
          (pe_lc (own := [("pair", 3)]) (g := gName 3) (tt := tYes) rfl scInit.nd (pi_tup (pv 2)) (blkOk_by (N := inN) (sc := defScope sInit) (by decide +kernel)) (fun _ _ _ _ _ => pg_name (i := 3) scInit.nd rfl (Or.inl rfl)) (fun _ _ _ _ _ => pts_nil)
            (fun _ _ _ _ _ => pe_callTy (T := "tuple") (r := rTupOf K) (by exact call_tuple_of) (by rfl) T.ki.tuple (by decide +kernel) (pa_cons (pv 3) pa_nil))) pa_nil)) rfl))))), ?_⟩
      refine ⟨_, rfl, n, rfl, hn, ?_⟩
      refine ⟨_, rfl, _, rfl, n, _, d, rfl, d1, by omega, d3, fun H1 s1 => ⟨_, rfl, ?_⟩⟩
      rw [d4, hok]
      refine iteF ?_
      have hp1 := s1 _ _ hp
      refine ⟨_, rfl, _, rfl, p, C, dx, _, rfl, hp1, T.cl, T.nL, (by show 0 < 1000; decide), ?_⟩
      have hrp : ∀ {b : Addr} {u : HO}, H b = some u → (∀ C dx fs, u ≠ .ins C dx fs) → (upd H1 p (.ins C dx (putF "leaves" (.int n) []))) b = some u := fun {b u} e ne => by
        rw [upd_ne (fun z => by rw [z, hp] at e; cases e; exact ne _ _ _ rfl)]
        exact s1 _ _ e
      have hs3 : SqT K (upd H1 p (.ins C dx (putF "leaves" (.int n) []))) r vs := by
        rcases hs with (h | ⟨o, h⟩) | h
        · exact .inl (.inl (hrp h (by intro C dx fs z; cases z)))
        · exact .inl (.inr ⟨o, hrp h (by intro C dx fs z; cases z)⟩)
        · exact .inr h
      have pr3 : ∀ {v : V} {z : Int × Int}, Pr K H v z → Pr K (upd H1 p (.ins C dx (putF "leaves" (.int n) []))) v z := by
        rintro v z ⟨q, e, h⟩
        refine ⟨q, e, ?_⟩
        rcases h with ((h | ⟨o, h⟩) | h) | ((h | ⟨o, h⟩) | h)
        · exact .inl (.inl (.inl (hrp h (by intro C dx fs z; cases z))))
        · exact .inl (.inl (.inr ⟨o, hrp h (by intro C dx fs z; cases z)⟩))
        · exact .inl (.inr h)
        · exact .inr (.inl (.inl (hrp h (by intro C dx fs z; cases z))))
        · exact .inr (.inl (.inr ⟨o, hrp h (by intro C dx fs z; cases z)⟩))
        · exact .inr (.inr h)
      have hp3 : (upd H1 p (.ins C dx (putF "leaves" (.int n) []))) p = some (.ins C dx (putF "leaves" (.int n) [])) := upd_same
      have out3 : ∀ b o, H b = some o → b ≠ p → (upd H1 p (.ins C dx (putF "leaves" (.int n) []))) b = some o := fun b o e ne => by
        rw [upd_ne ne]
        exact s1 _ _ e
      generalize (upd H1 p (.ins C dx (putF "leaves" (.int n) []))) = H3 at hs3 pr3 hp3 out3 ⊢
      refine ⟨_, rfl, r, rfl, ⟨_, hs3⟩, fun D nD => ?_⟩
      refine lc_tup (K := K) (a := r) (xs := vs) (fun i H4 => Same H3 H4 ∧ ∃ ys, H4 D = some (.lst ys) ∧ All2 (Pt K H4) ys (gs.take i)) ⟨same_new nD, [], upd_same, .nil⟩ (fun i H4 _ ⟨s4, _⟩ => seqT_same s4 hs3) ?_ ?_
      · rintro i v H4 hi ⟨s4, ys, h4, a4⟩
        obtain ⟨z, hz1, hz2⟩ := ha.get hi
        obtain ⟨q0, rfl, hq⟩ := (pr3 hz2).same s4
        have lys : ys.length < sizeLine := by
          rw [a4.len, List.length_take]
          exact Nat.lt_of_le_of_lt (Nat.min_le_right _ _) (Nat.lt_of_le_of_lt hz (by decide))
        have keep : ∀ {H5 : Hp} {zs : List V}, Same H4 H5 → Same H3 (upd H5 D (.lst zs)) := fun {H5 zs} s5 b o e => by
          rw [upd_ne (ne_of_none e nD)]
          exact s5 _ _ (s4 _ _ e)
        refine ⟨rfl, yes_of ?_⟩
        rcases hq with hq | hq
        · refine ⟨_, rfl, q0, _, rfl, .inl ⟨hq, fun l nl => ?_⟩⟩
          have s5 : Same H4 (upd H4 l (.tup [.int z.1, .int z.2])) := same_new nl
          refine ⟨_, s5 _ _ h4, lys, keep s5, _, upd_same, ?_⟩
          rw [take_more hz1]
          have fi : Firm (upd H4 l (.tup [.int z.1, .int z.2])) (upd (upd H4 l (.tup [.int z.1, .int z.2])) D (.lst (ys ++ [.ref l]))) := Firm.upd (s5 _ _ h4) rfl
          exact (a4.imp fun _ _ h => (h.firm (Firm.of s5)).firm fi).snoc ⟨l, rfl, firm_seq fi (SqT.of upd_same)⟩
        · refine ⟨_, rfl, q0, _, rfl, .inr ⟨hq, ?_⟩⟩
          refine ⟨_, h4, lys, keep (Same.refl _), _, upd_same, ?_⟩
          rw [take_more hz1]
          have fi : Firm H4 (upd H4 D (.lst (ys ++ [.ref q0]))) := Firm.upd h4 rfl
          exact (a4.imp fun _ _ h => h.firm fi).snoc ⟨q0, rfl, firm_seq fi hq⟩
      · rintro H4 ⟨s4, ys, h4, a4⟩
        rw [ha.len, List.take_length] at a4
        refine ⟨D, ys, rfl, .inl ⟨SqL.of h4, fun g ng => ?_⟩⟩
        have hp4 := s4 _ _ hp3
        have s5 : Same H4 (upd H4 g (.tup ys)) := same_new ng
        refine ⟨_, rfl, p, C, dx, _, rfl, s5 _ _ hp4, T.cl, T.nG, (by show 1 < 1000; decide), ?_⟩
        refine q _ (fun b o e ne => ?_) ⟨dx, g, upd_same, ys, ?_, ?_⟩
        · rw [upd_ne ne]
          exact s5 _ _ (s4 _ _ (out3 b o e ne))
        · have ngp : g ≠ p := fun e => by
            rw [e, hp4] at ng
            cases ng
          exact SqT.of (by rw [upd_ne ngp, upd_same])
        · refine a4.imp fun _ _ h => ?_
          obtain ⟨q1, e1, h1⟩ := h.firm (Firm.of s5)
          refine ⟨q1, e1, ?_⟩
          rcases h1 with (h | ⟨o, h⟩) | h
          · exact .inl (.inl (by rw [upd_ne (fun e => by rw [e, s5 _ _ hp4] at h; cases h)]; exact h))
          · exact .inl (.inr ⟨o, by rw [upd_ne (fun e => by rw [e, s5 _ _ hp4] at h; cases h)]; exact h⟩)
          · exact .inr h
theorem ok_eq (F : FnE K f fd) (T : Tx K mg C) : FnOk P w K mg base CX0 1 f fd ["self", "other"] (spEqG K C) := by
  refine F.ok scEq (fun vs H Q E h => ?_) (fun cdv A outer s H vs Q E hr h => ?_)
  · obtain ⟨p, v, n, gs, rfl, _⟩ := h
    rfl
  · obtain ⟨p, v, n, gs, rfl, hp, q⟩ := h
    obtain ⟨dx, g, h1, h2⟩ := hp
    refine ⟨_, PSs.nox (pss_one (ps_ret (pe_and (pe_callB call_isi (by rfl) T.ki.isi (by decide +kernel) (pa_cons (pv 1) (pa_cons (pe_glob (v := V.ref C) (by rfl) T.mgC rfl) pa_nil)))
      (pe_and (pe_cmpR op_eq (pe_fld (pv 0) rfl) (pe_fld (pv 1) rfl) (nomark _)) (pe_one (pe_cmpR (op_eqD hr.units) (pe_fld (pv 0) rfl) (pe_fld (pv 1) rfl) (nomark _))))))), ?_⟩
    rcases q with ⟨q, n', gs', rfl, hq, k⟩ | ⟨t, xs, rfl, ht, k⟩
    · obtain ⟨dy, g', e1, e2⟩ := hq
      refine ⟨_, rfl, _, _, _, _, _, rfl, .own _, .base (T.met e1), T.own, _, rfl, iteT ?_⟩
      refine ⟨_, rfl, p, C, dx, _, _, rfl, h1, T.cl, T.nL, flds_L _ _, _, rfl, q, C, dy, _, _, rfl, e1, T.cl, T.nL, flds_L _ _, rfl, _, rfl, ite2 (fun c => ?_) (fun c => ?_)⟩
      · refine ⟨_, rfl, p, C, dx, _, _, rfl, h1, T.cl, T.nG, flds_G _ _, _, rfl, q, C, dy, _, _, rfl, e1, T.cl, T.nG, flds_G _ _, _, _, h2.dp, e2.dp, ?_, ?_, ?_⟩
        · exact shaped_gD gs
        · exact shaped_gD gs'
        · have e : n = n' := V.int.inj (of_decide_eq_true c)
          rw [decide_eq_true e] at k
          exact k
      · have e : ¬ n = n' := fun z => c (decide_eq_true (congrArg V.int z))
        rw [decide_eq_false e] at k
        exact k
    · exact ⟨_, rfl, _, _, _, _, _, rfl, .own _, ty_tup ht, T.tup, _, rfl, iteF k⟩
end
end Gr
namespace No
open PySem PySem.Spec PyProof.Rows L2 Pen Dat Ki Fi Gr
/-! ## Values of nodes and literals -/
/-- abs, as its rule tells it -/
def ab (z : Int) : Int := if z < 0 then -z else z
def lit (f : List Int) (a : Int) : Int := ab (f.getD (a / 2).toNat 0 - a % 2)
def step (f : List Int) (p : Int × Int) : List Int := f ++ [lit f p.1 * lit f p.2]
def vals (bs : List Int) (gs : List (Int × Int)) : List Int := gs.foldl step (0 :: bs)
def B01 (f : List Int) : Prop := ∀ z ∈ f, z = 0 ∨ z = 1
theorem getD_01 {f : List Int} (h : B01 f) (j : Nat) : f.getD j 0 = 0 ∨ f.getD j 0 = 1 := by
  rw [List.getD_eq_getElem?_getD]
  cases e : f[j]? with
  | none => exact .inl rfl
  | some z => exact h z (List.mem_of_getElem? e)
theorem lit_01 {f : List Int} (h : B01 f) (a : Int) : lit f a = 0 ∨ lit f a = 1 := by
  have h1 := getD_01 h (a / 2).toNat
  have h2 : a % 2 = 0 ∨ a % 2 = 1 := by omega
  unfold lit ab
  rcases h1 with e1 | e1 <;> rcases h2 with e2 | e2 <;> rw [e1, e2] <;> decide
theorem mul_01 {x y : Int} (hx : x = 0 ∨ x = 1) (hy : y = 0 ∨ y = 1) : x * y = 0 ∨ x * y = 1 := by
  rcases hx with rfl | rfl <;> rcases hy with rfl | rfl <;> decide
theorem step_01 {f : List Int} (h : B01 f) (p : Int × Int) : B01 (step f p) := fun z hz => by
  rcases List.mem_append.mp hz with q | q
  · exact h z q
  · rw [List.mem_singleton.mp q]
    exact mul_01 (lit_01 h _) (lit_01 h _)
theorem foldl_len : ∀ (gs : List (Int × Int)) (f : List Int), (gs.foldl step f).length = f.length + gs.length
  | [], f => rfl
  | p :: r, f => by
    show (r.foldl step (step f p)).length = _
    rw [foldl_len r]
    unfold step
    rw [List.length_append]
    show f.length + 1 + r.length = f.length + (r.length + 1)
    omega
theorem foldl_01 : ∀ (gs : List (Int × Int)) {f : List Int}, B01 f → B01 (gs.foldl step f)
  | [], _, h => h
  | p :: r, _, h => foldl_01 r (step_01 h p)
theorem vals_take (bs : List Int) {gs : List (Int × Int)} {i : Nat} {p : Int × Int} (h : gs[i]? = some p) : vals bs (gs.take (i + 1)) = step (vals bs (gs.take i)) p := by
  unfold vals
  rw [take_more h, List.foldl_append]
  rfl
theorem vals_len (bs : List Int) (gs : List (Int × Int)) : (vals bs gs).length = bs.length + 1 + gs.length := by
  unfold vals
  rw [foldl_len]
  rfl
theorem vals_01 {bs : List Int} (gs : List (Int × Int)) (h : B01 bs) : B01 (vals bs gs) :=
  foldl_01 gs fun z hz => by
    rcases List.mem_cons.mp hz with rfl | hz
    · exact .inl rfl
    · exact h z hz
/-- the literals of gate i are of nodes ahead -/
theorem okG_at : ∀ {gs : List (Int × Int)} {m : Int} {i : Nat} {p : Int × Int}, okG m gs = true → gs[i]? = some p → (0 ≤ p.1 ∧ p.1 ≤ m + 2 * i) ∧ 0 ≤ p.2 ∧ p.2 ≤ m + 2 * i
  | [], _, _, _, _, e => by simp at e
  | q :: r, m, 0, p, h, e => by
    simp at e
    subst e
    unfold okG within at h
    simp only [Bool.and_eq_true, decide_eq_true_eq] at h
    obtain ⟨⟨⟨a, b⟩, c, d⟩, _⟩ := h
    exact ⟨⟨a, by omega⟩, c, by omega⟩
  | q :: r, m, i + 1, p, h, e => by
    simp at e
    unfold okG at h
    rw [Bool.and_eq_true] at h
    obtain ⟨⟨a, b⟩, c, d⟩ := okG_at h.2 e
    exact ⟨⟨a, by omega⟩, c, by omega⟩
theorem half_lt {a m : Int} (h0 : 0 ≤ a) (h : a ≤ 2 * m + 1) : (a / 2).toNat < (m + 1).toNat := by omega
/-- x ^ (a & 1), x a bit -/
theorem flip_bit {x a : Int} (hx : x = 0 ∨ x = 1) : Builtin.bitXor x (Builtin.bitAnd a 1) = ab (x - a % 2) := by
  have e := bitAnd_m1 a
  rw [e]
  have h2 : a % 2 = 0 ∨ a % 2 = 1 := by omega
  rcases hx with rfl | rfl <;> rcases h2 with e2 | e2 <;> rw [e2] <;> decide
theorem and_bits {x y : Int} (hx : x = 0 ∨ x = 1) (hy : y = 0 ∨ y = 1) : Builtin.bitAnd x y = x * y := by
  rcases hx with rfl | rfl <;> rcases hy with rfl | rfl <;> decide
theorem getD_of {f : List Int} {j : Nat} (h : j < f.length) : (f.map V.int)[j]? = some (.int (f.getD j 0)) := by
  rw [List.getElem?_map, List.getD_eq_getElem?_getD, List.getElem?_eq_getElem h]
  rfl
/-- a row of ints, list or tuple -/
def SeqI (K : PySem.W.Frag) (H : Hp) (v : V) (bs : List Int) : Prop := ∃ r, v = .ref r ∧ (SqL K H r (bs.map V.int) ∨ SqT K H r (bs.map V.int))
theorem SeqI.same {K : PySem.W.Frag} {H H' : Hp} {v : V} {bs : List Int} (s : Same H H') (h : SeqI K H v bs) : SeqI K H' v bs := by
  obtain ⟨r, e, h⟩ := h
  exact ⟨r, e, h.elim (fun h => .inl (s.seq h)) fun h => .inr (seqT_same s h)⟩
theorem bet_all {bs : List Int} (h : B01 bs) : ((bs.map PyData.int).all fun e => betD e 0 1) = true := by
  rw [List.all_map, List.all_eq_true]
  intro z hz
  rcases h z hz with rfl | rfl <;> rfl
theorem seqI_dp {K : PySem.W.Frag} {H : Hp} {v : V} {bs : List Int} (h : SeqI K H v bs) (hb : B01 bs) : ∃ d, Dp K H v d ∧ (rowsD d).length = bs.length ∧ rowB d (bs.length : Int) 0 1 = true := by
  have e : ∀ l : List PyData, l = bs.map PyData.int → (true && (decide (((l.length : Nat) : Int) = bs.length) && l.all fun e => betD e 0 1)) = true := by
    rintro l rfl
    rw [bet_all hb, List.length_map, decide_eq_true rfl]
    rfl
  obtain ⟨r, rfl, h | h⟩ := h
  · exact ⟨_, .lst h (ints_dp bs), List.length_map .., e _ rfl⟩
  · exact ⟨_, .tup h (ints_dp bs), List.length_map .., e _ rfl⟩
end No
namespace Yt
open PySem PySem.Spec PyProof.Rows L2 LamX Gd Wy
/-! ## A law that holds a lambda: its table; it may call repr -/
/-- from the def's body; its code object is told -/
theorem mk_ofC {P : Program} {w : World} {K : PySem.W.Frag} {mg : Str → Option Value} {base : Heap} {CX : CXT} {k : Nat} {f : Addr} {fd : FuncData} {ps : List Str} {sp : Sp} {x qual : Str} {params : Arguments} {body : List Stmt} {scope : Scope} {dvs : List V} {kws : List (Str × V)} {N : List Str}
    (F : FunD K x qual params body scope dvs kws f fd) (S : FnScope N ps scope) (many : ∀ vs H Q E, sp vs H Q E → vs.length = ps.length)
    (walk : ∀ (cv : Value) (A : Around) (fs : List Env) (s : Shared) (H : Hp) (vs : List V) (Q : VK) (E : XK), fd.code = cv → A.guards = some [] → Room k (A.deeper (envOfC qual scope s.heap.objs.size f cv)) → sp vs H Q E →
      ∃ t, PSs (cxOf CX P w K mg base N qual scope f cv A fs s H E) body t ∧ t { nx := fun _ H' => Q .non H', rt := Q } (L2.start N vs) H) :
    FnG P w K mg base CX (k + 1) f fd ps sp := by
  obtain ⟨_, _, _, _, _, _, _, cv, _, _, rfl, look, code, d1, d2⟩ := F.ex
  refine ⟨many, fun A fs s H ag us vs Q E hg room e bind rel prom => ?_⟩
  have kin : K.In s.heap := e.mod.kin.keeps fun b u z => (e.bs b u z).1
  have kinds : ∀ y ∈ ps.zip us, scope.names.lookup y.1 = some .local ∨ (scope.names.lookup y.1 = some .cell ∧ ((cellsFrom (s.heap.objs.size + 1) scope.names []).lookup y.1).isSome = true) := by
    rintro ⟨y, u⟩ hy
    rcases S.par y (List.of_mem_zip hy).1 with q | q
    · exact Or.inl q
    · exact Or.inr ⟨q, PySem.W.cellsFrom_some _ _ _ (Or.inl q)⟩
  refine codeAny_call_function room.depth (kin _ _ look) rfl S.co S.gen rfl (PySem.W.codeRec_of kin code) (bind _ _ _ _ ?_)
  refine wpAny_newFunctionEnv_cells S.kind kinds ?_
  rintro env rfl s1 hs1
  refine ⟨(e.mod.nolimit.keeps fun b u z => (e.bs b u z).1).keeps hs1.toInCall.keep, codeAny_func ?_⟩
  obtain ⟨t, ht, q⟩ := walk cv A fs s H vs Q E rfl hg (room.deeper _) prom
  have I := inv_start (CX := CX) (E := E) S room.hd e (many _ _ _ _ prom) rel hs1
  refine wpAny_mono (ht.run [] s1 (L2.start N vs) H _ I q) (fun fl s2 z => ?_) (fun _ _ z => z)
  match fl, z with
  | .ret u, ⟨v, σ', H', J, rv, q⟩ => exact ⟨v, H', J.os, J.bare, J.base, J.hok, rv, q⟩
  | .next, ⟨σ', H', J, q⟩ => exact ⟨V.non, H', J.os, J.bare, J.base, J.hok, rfl, q⟩
  | .brk, ⟨_, _, _, q⟩ => exact q.elim
  | .cont, ⟨_, _, _, q⟩ => exact q.elim
abbrev none_ : Obj := { cls := .none, data := .fields #[] }
/-- the heap in which the script, if the top did not write it, and the law's table are tracked -/
def scrT (K : PySem.W.Frag) (a T : Addr) (vs : List Value) (ns : List Int) : Hp := fun b => if b = T then some (.tbl #[]) else onlyScr K a vs ns b
theorem scrT_get {K : PySem.W.Frag} {a T b : Addr} {vs : List Value} {ns : List Int} {o : HO} (h : scrT K a T vs ns b = some o) : (b = T ∧ o = .tbl #[]) ∨ (b ≠ T ∧ b = a ∧ K.lookup a = none ∧ o = .frz (scr vs) (.lst (ns.map V.int))) := by
  unfold scrT at h
  by_cases e : b = T
  · rw [if_pos e] at h
    exact .inl ⟨e, (Option.some.inj h).symm⟩
  · rw [if_neg e] at h
    exact .inr ⟨e, onlyScr_get h⟩
theorem law_goT {P : Program} {w : World} {K : PySem.W.Frag} {mg mb : Str → Option Value} {CX : CXT} {k : Nat} {f a c T : Addr} {fd : FuncData} {x : Str} {sp : Sp} {s : Shared} {vs : List Value} {ns : List Int}
    (kin : K.In s.heap) (hm : s.heap.Ns mainGlobals mg) (hb : s.heap.Ns builtinsNs mb) (hbb : ∀ y : Str, y ≠ "__name__" → mb y = bootBuiltins y) (lim : s.heap.NoLimit) (hgen : s.gens = #[])
    (tab : s.heap.get? T = some none_) (out : K.lookup T = none) (hd : PySem.W.codeHdIn K c T = true) (bmain : ∃ (bm : Addr) (ob : Obj), mg "__builtins__" = some (.ref bm) ∧ bm ≠ builtinsNs ∧ s.heap.get? bm = some ob ∧ ob.cls = .type "module" ∧ ob.dict = some builtinsNs ∧ ob.data = .plain)
    (ha : s.heap.get? a = some (scr vs)) (hi : IntsAre vs ns) (hl : ns.length ≤ sizeLine) (hr : Room k callerA)
    (F : ∀ base : Heap, K.In base → base.Ns mainGlobals mg → TabB base mg c T → FnG P w K mg base CX k f fd [x] sp) (bind : ∀ (s : Shared) (u : Value), BindsTo s fd ⟨[u], []⟩ [(x, u)])
    (prom : ∀ H : Hp, H T = some (.tbl #[]) → SqL K H a (ns.map V.int) → sp [.ref a] H (fun v _ => v = .bl true) fun _ _ _ => False)
    (none_out : ∀ H e s', CX [] H s (fun _ _ _ => False) e s' → False) :
    codeAny (model P w) callerA (.call (.ref f) ⟨[.ref a], []⟩) (fun r s' => r = .ok (.ret (.bool true)) ∧ OldK s.heap s'.heap ∧ s'.os = s.os ∧ AllBare s'.gens) s := by
  have hv := vals_ints hi
  have hlen := hi.length
  have aT : a ≠ T := fun z => by
    rw [z, tab] at ha
    cases ha
  let H := scrT K a T vs ns
  have hT : H T = some (.tbl #[]) := if_pos rfl
  have gone : ∀ {b : Addr} {o : Obj}, K.lookup b = some o → H b = none := fun {b o} q => by
    cases e : H b with
    | none => rfl
    | some u =>
      rcases scrT_get e with ⟨rfl, _⟩ | ⟨_, rfl, n, _⟩
      · rw [out] at q
        cases q
      · rw [n] at q
        cases q
  have free : ∀ {b : Addr} {o : Obj}, s.heap.get? b = some o → (∀ (u : Array Value) (n : Nat), o.data ≠ .seq u n) → (∀ u, o.data ≠ .fields u) → H b = none := fun {b o} q d1 d2 => by
    cases e : H b with
    | none => rfl
    | some u =>
      rcases scrT_get e with ⟨rfl, _⟩ | ⟨_, rfl, _, _⟩
      · rw [tab] at q
        cases q
        exact (d2 _ rfl).elim
      · rw [ha] at q
        cases q
        exact (d1 _ _ rfl).elim
  have stays : ∀ {b : Addr} {m : Str → Option Value}, s.heap.Ns b m → (hidT s.heap H).Ns b m := fun ⟨o, es, ep, q, d, r⟩ =>
    ⟨o, es, ep, hidT_get q (free q (fun _ _ z => by rw [d] at z; cases z) fun _ z => by rw [d] at z; cases z), d, r⟩
  have kinT : K.In (hidT s.heap H) := fun b o q => hidT_get (kin b o q) (gone q)
  have hok : HOk P w H s.heap := fun b u q => by
    rcases scrT_get q with ⟨rfl, rfl⟩ | ⟨_, rfl, _, rfl⟩
    · exact tab
    · exact ⟨ha, by rw [List.length_map]; exact hl, vs, _, hv, ha⟩
  have hS : SqL K H a (ns.map V.int) := by
    cases e : K.lookup a with
    | none => exact .inl (.inr ⟨scr vs, (if_neg aT).trans (if_pos ⟨rfl, by rw [e]; rfl⟩)⟩)
    | some o =>
      have q := kin a o e
      rw [ha] at q
      cases q
      exact .inr ⟨_, vs.toArray, _, e, rfl, rfl, rfl, by rw [List.size_toArray, hlen]; exact hl, by simpa using hv⟩
  have notG : mainGlobals ≠ T := fun z => by
    obtain ⟨o, es, ep, q, d, _⟩ := hm
    rw [z, tab] at q
    cases q
    cases d
  have TB : TabB (hidT s.heap H) mg c T := by
    obtain ⟨bm, ob, b1, b2, b3, b4, b5, b6⟩ := bmain
    refine ⟨PySem.W.codeHd_of_K kinT hd, ⟨bm, ob, b1, b2, fun z => ?_, fun z => ?_, hidT_get b3 (free b3 (fun _ _ z => by rw [b6] at z; cases z) fun _ z => by rw [b6] at z; cases z), b4, b5, b6⟩, notG⟩
    · obtain ⟨o, es, ep, q, d, _⟩ := hm
      rw [z, q] at b3
      cases b3
      rw [d] at b6
      cases b6
    · rw [z, tab] at b3
      cases b3
      cases b6
  obtain ⟨mc, l1, l2⟩ := lim
  have e0 : Env0 P w K mg (hidT s.heap H) callerA [] s H := by
    refine ⟨rfl, ⟨kinT, stays hm, ⟨mb, stays hb, hbb⟩, ⟨mc, stays l1, l2⟩⟩, fun b o q => of_hidT q, Nat.le_of_eq (hidT_size _ _), trivial, fun b q => ?_, hok, .of_eq hgen⟩
    cases q
  refine codeAny_mono ((F _ kinT (stays hm) TB).go callerA [] s H ⟨[.ref a], []⟩ [.ref a] [.ref a] _ _ rfl hr e0 (bind s (.ref a)) (.cons rfl .nil) (prom H hT hS)) fun r s' h => ?_
  match r, h with
  | .error e, h => exact (none_out H e s' h).elim
  | .ok .next, h => exact h.elim
  | .ok .brk, h => exact h.elim
  | .ok .cont, h => exact h.elim
  | .ok (.ret u), ⟨v, H', os, bare, un, hok', rv, q⟩ =>
    have q' : v = .bl true := q
    subst q'
    have hu : u = Value.bool true := rv
    subst hu
    have rest : ∀ b o, b ≠ T → s.heap.get? b = some o → s'.heap.get? b = some o := fun b o nb z => by
      cases e : H b with
      | none => exact un.keep b o z e (by intro y; cases y) (by simp)
      | some t =>
        rcases scrT_get e with ⟨y, _⟩ | ⟨_, rfl, _, rfl⟩
        · exact absurd y nb
        · rw [ha] at z
          cases z
          exact (hok' b _ (un.frzs b _ _ e)).1
    obtain ⟨more, grown⟩ := un.tbls T #[] hT
    have hT2 : s'.heap.get? T = some { cls := .none, data := .fields (#[] ++ more) } := hok' T _ grown
    refine ⟨rfl, ⟨fun b o z => ?_, fun b o z => ?_⟩, os, bare⟩
    · by_cases nb : b = T
      · subst nb
        rw [tab] at z
        cases z
        exact .inr (.inl ⟨((PySem.W.codeHd_of_K kin hd).tab tab).isCodeTable, rfl, #[], more, rfl, hT2⟩)
      · exact .inl (rest b o nb z)
    · by_cases nb : b = T
      · subst nb
        exact ⟨_, hT2⟩
      · exact ⟨o, rest b o nb z⟩
theorem walk_goT {l : PySem.W.OpenLaw} {n k : Nat} {q : Program} {loose : List Str} {XP : (Str → Option Value) → Heap → Prop} {YP : World → Heap → Prop} {d : DefRec} {CX : World → CXT} {x : Str}
    (hn : l.most = some n) (hn2 : n ≤ sizeLine) (hdf : d.params.defaults = []) (hr : Room k callerA)
    (F : ∀ (w : World) (mg : Str → Option Value) (f : Addr) (h : Heap), YP w h → h.Ns mainGlobals mg → mg d.name = some (.ref f) → ∃ (K : PySem.W.Frag) (fd : FuncData) (sp : Sp) (c T : Addr), K.In h ∧ h.get? T = some none_ ∧ K.lookup T = none ∧ PySem.W.codeHdIn K c T = true ∧ (∀ (s : Shared) (u : Value), BindsTo s fd ⟨[u], []⟩ [(x, u)]) ∧
      (∀ (H : Hp) (a : Addr) (ns : List Int), ns.length ≤ n → H T = some (.tbl #[]) → SqL K H a (ns.map V.int) → sp [.ref a] H (fun v _ => v = .bl true) fun _ _ _ => False) ∧ ∀ base : Heap, K.In base → base.Ns mainGlobals mg → TabB base mg c T → FnG l.prog w K mg base (CX w) k f fd [x] sp)
    (none_out : ∀ (w : World) (H : Hp) (s : Shared) (e : Value) (s' : Shared), CX w [] H s (fun _ _ _ => False) e s' → False) : PySem.W.WalkO q loose XP YP l.row.toRowW d [] (fun f vs => PySem.call f vs) :=
  Att.attach_call hn hdf fun w _ s _ _ f _ _ _ _ a _ ns G Y _ _ _ hmg hobj hints hlen hgen =>
    let ⟨_, _, _, _, _, kin, tab, out, hd, bind, prom, ok⟩ := F w _ f _ Y G.T.g hmg
    law_goT kin G.T.g G.T.b G.T.builtins G.T.nolimit hgen tab out hd G.T.bmain hobj hints (Nat.le_trans hlen hn2) hr ok bind (fun H hT hS => prom H a ns hlen hT hS) fun H e s' => none_out w H s e s'
end Yt
namespace Xg
open PySem PySem.Spec PyProof.Rows L2 LamX Pen Dat Ki Fi Gr Wy Yd Yh
/-! ## What is refused: numbers of leaves, gates -/
abbrev sNumI : Stmt := inClass cBadN 0
abbrev sRowI : Stmt := inClass cBadR 0
abbrev niN : List Str := ["self", "what", "number"]
abbrev riN : List Str := ["self", "row"]
theorem scNumI : FnScope niN niN (defScope sNumI) := ⟨rfl, rfl, rfl, by decide +kernel, rfl, by decide +kernel, by decide +kernel⟩
theorem scRowI : FnScope riN riN (defScope sRowI) := ⟨rfl, rfl, rfl, by decide +kernel, rfl, by decide +kernel, by decide +kernel⟩
def spNumI (C : Addr) : Sp := fun vs H Q _ => ∃ (a : Addr) (m v : V), vs = [.ref a, m, v] ∧ H a = some (exo a C none) ∧
  ∀ d, H d = none → d ≠ a → Q .non (upd (upd (upd H d (exd d [("what", m)])) a (exo a C (some d))) d (exd d [("number", v), ("what", m)]))
def spRowI (C : Addr) : Sp := fun vs H Q _ => ∃ (a : Addr) (v : V), vs = [.ref a, v] ∧ H a = some (exo a C none) ∧ ∀ d, H d = none → d ≠ a → Q .non (upd (upd H d (exd d [("row", v)])) a (exo a C (some d)))
/-- the exception that tells a wrong number, a wrong row -/
def Num (CN : Addr) (E : XK) (H : Hp) (m : Str) (v : V) : Prop := ∀ d H', Same H H' → H' d = some (.xd [("number", v), ("what", .str m)]) → E (.ref CN) (some d) H'
def Row (CR : Addr) (E : XK) (H : Hp) (v : V) : Prop := ∀ d H', Same H H' → H' d = some (.xd [("row", v)]) → E (.ref CR) (some d) H'
theorem del_keep {H H2 : Hp} {a d : Addr} {u : HO} (na : H a = none) (nd : H d = none) (s : ∀ b o, H b = some o → b ≠ a → b ≠ d → H2 b = some o) : Same H (upd (del H2 a) d u) := fun b o e => by
  have ha : b ≠ a := ne_of_none e na
  have hd : b ≠ d := ne_of_none e nd
  rw [upd_ne hd, del_ne ha]
  exact s b o e ha hd
theorem mk_num {σ : L2.St} {H : Hp} {Q : XK} {CN : Addr} {m : Str} {v : V} {te : TE} (hv : ∀ R : VK, R v H → te σ H R) (q : Num CN Q H m v) : tMkO CN (spNumI CN) [] (tCons (tC (.str m)) (tCons te tNil)) σ H Q := by
  refine hv _ ⟨(by show 2 ≤ 1000; decide), fun a na => ⟨a, .str m, v, rfl, upd_same, fun d nd dne => ?_⟩⟩
  rw [upd_ne dne] at nd
  refine ⟨rfl, d, _, by rw [upd_ne (Ne.symm dne), upd_same], upd_same, nd, q d _ (del_keep na nd fun b o e ha hd => ?_) upd_same⟩
  rw [upd_ne hd, upd_ne ha, upd_ne hd, upd_ne ha]
  exact e
theorem mk_row {σ : L2.St} {H : Hp} {Q : XK} {CR : Addr} {v : V} {te : TE} (hv : ∀ R : VK, R v H → te σ H R) (q : Row CR Q H v) : tMkO CR (spRowI CR) [] (tCons te tNil) σ H Q := by
  refine hv _ ⟨(by show 1 ≤ 1000; decide), fun a na => ⟨a, v, rfl, upd_same, fun d nd dne => ?_⟩⟩
  rw [upd_ne dne] at nd
  refine ⟨rfl, d, _, upd_same, by rw [upd_ne dne, upd_same], nd, q d _ (del_keep na nd fun b o e ha hd => ?_) upd_same⟩
  rw [upd_ne ha, upd_ne hd, upd_ne ha]
  exact e
/-- what is asked of an exception class, and of its __init__ -/
structure Xi (K : PySem.W.Frag) (C f : Addr) : Prop where
  oe : OexC K C
  ini : PySem.W.findIn K (.ref C) "__init__" = some (some (.ref f))
  fn : PySem.W.typeIn K (.ref f) = some (.type "function")
structure Te (K : PySem.W.Frag) (mg : Str → Option Value) (CN CR fN fR : Addr) : Prop where
  why : Yh.Tw K mg CN CR
  n : Xi K CN fN
  r : Xi K CR fR
/-- two promises of one def -/
theorem fn_or {P : Program} {w : World} {K : PySem.W.Frag} {mg : Str → Option Value} {base : Heap} {CX : CXT} {k : Nat} {f : Addr} {fd : FuncData} {ps : List Str} {sp sp' : Sp} (a : FnOk P w K mg base CX k f fd ps sp) (b : FnOk P w K mg base CX k f fd ps sp') : FnOk P w K mg base CX k f fd ps fun vs H Q E => sp vs H Q E ∨ sp' vs H Q E :=
  ⟨fun vs H Q E h => h.elim (a.len vs H Q E) (b.len vs H Q E), fun A fs s H ag us vs Q E hr e bd r h => h.elim (a.run A fs s H ag us vs Q E hr e bd r) (b.run A fs s H ag us vs Q E hr e bd r)⟩
def spRowD (K : PySem.W.Frag) : Sp := fun vs H Q _ => ∃ (a : Addr) (kvs : List (Key × V)), vs = [.ref a] ∧ H a = some (.dK kvs) ∧ ∀ H', Same H H' → Q (.bl false) H'
def spGatesD (K : PySem.W.Frag) : Sp := fun vs H Q _ => ∃ (n : Int) (a : Addr) (kvs : List (Key × V)), vs = [.int n, .ref a] ∧ H a = some (.dK kvs) ∧ ∀ H', Same H H' → Q (.bl false) H'
def spNeed2 (K : PySem.W.Frag) (CN : Addr) : Sp := fun vs H Q E => ∃ (v : V) (d : PyData), vs = [v] ∧ Dp K H v d ∧ ((fromD d 0 = true ∧ Q .non H) ∨ (fromD d 0 = false ∧ Num CN E H "leaves" v))
/-- Graph(leaves, gates), refused -/
def spGIX (K : PySem.W.Frag) (C CN CR : Addr) : Sp := fun vs H Q E => ∃ (p dx : Addr) (v u : V), vs = [.ref p, v, u] ∧ H p = some (.ins C dx []) ∧
  ((∃ d, Dp K H v d ∧ fromD d 0 = false ∧ Num CN E H "leaves" v) ∨ ∃ n, v = .int n ∧ 0 ≤ n ∧ Row CR E H u ∧
    ((∃ d, Dp K H u d ∧ (rowsD d).length ≤ 1000 ∧ (∀ e ∈ rowsD d, (rowsD e).length ≤ 1000) ∧ gatesB n d = false) ∨ ∃ a kvs, u = .ref a ∧ H a = some (.dK kvs)))
theorem kit_dict {K : PySem.W.Frag} : PySem.W.kitAny K (.type "dict") [.type "tuple", .type "list"] = some false :=
  kitAny_cons (b := false) (kit_ty (a := "dict") (b := "tuple") (r := false) (by decide +kernel)) (fun _ => kitAny_cons (b := false) (kit_ty (a := "dict") (b := "list") (r := false) (by decide +kernel)) (fun _ => rfl) (fun z => by cases z)) (fun z => by cases z)
section
variable {P : Program} {w : World} {K : PySem.W.Frag} {mg : Str → Option Value} {base : Heap} {f C CN CR fN fR : Addr} {fd : FuncData}
theorem ok_numi (F : FunD K "__init__" "BadNumber.__init__" (defArgs sNumI) (defBody sNumI) (defScope sNumI) [] [] f fd) (T : Te K mg CN CR fN fR) : FnOk P w K mg base CX0 1 f fd niN (spNumI CN) := by
  refine F.ok scNumI (fun vs H Q E h => ?_) (fun cdv A outer s H vs Q E hr h => ?_)
  · obtain ⟨a, m, v, rfl, _⟩ := h
    rfl
  · obtain ⟨a, m, v, rfl, ha, q⟩ := h
    refine ⟨_, PSs.nox (pss_cons (ps_ost (pv 0) (pv 1)) (pss_one (ps_ost (pv 0) (pv 2)))), ?_⟩
    refine ⟨_, rfl, _, rfl, a, CN, rfl, T.n.oe, T.why.nw, .inl ⟨ha, fun d hd dne => ?_⟩⟩
    exact ⟨_, rfl, _, rfl, a, CN, rfl, T.n.oe, T.why.nb, .inr ⟨d, _, upd_same, (by rw [upd_ne dne, upd_same]), (by show 1 ≤ 900; decide), q d hd dne⟩⟩
theorem ok_rowi (F : FunD K "__init__" "BadRow.__init__" (defArgs sRowI) (defBody sRowI) (defScope sRowI) [] [] f fd) (T : Te K mg CN CR fN fR) : FnOk P w K mg base CX0 1 f fd riN (spRowI CR) := by
  refine F.ok scRowI (fun vs H Q E h => ?_) (fun cdv A outer s H vs Q E hr h => ?_)
  · obtain ⟨a, v, rfl, _⟩ := h
    rfl
  · obtain ⟨a, v, rfl, ha, q⟩ := h
    refine ⟨_, PSs.nox (pss_one (ps_ost (pv 0) (pv 1))), ?_⟩
    exact ⟨_, rfl, _, rfl, a, CR, rfl, T.r.oe, T.why.nr, .inl ⟨ha, fun d hd dne => q d hd dne⟩⟩
theorem ok_rowD (F : FnP K "is_row" sRow f fd) (T : Ki.Tx mg) : FnOk P w K mg base CX0 1 f fd ["value"] (spRowD K) := by
  refine F.ok scRow (fun vs H Q E h => ?_) (fun cdv A outer s H vs Q E hr h => ?_)
  · obtain ⟨a, kvs, rfl, _⟩ := h
    rfl
  · obtain ⟨a, kvs, rfl, hd, q⟩ := h
    refine ⟨_, PSs.nox (pss_one (ps_ret (pe_callB call_isiT (by rfl) T.isi (by decide +kernel) (pa_cons (pv 0) (pa_cons (pe_tup (pa_cons (pe_bltn (v := .ty "tuple") (by rfl) T.tuple (by decide +kernel) rfl) (pa_cons (pe_bltn (v := .ty "list") (by rfl) T.list (by decide +kernel) rfl) pa_nil))) pa_nil))))), ?_⟩
    refine ⟨_, rfl, (by show 2 ≤ sizeLine; decide), fun p np => ?_⟩
    exact ⟨_, _, _, _, _, _, rfl, upd_same, .cons (.ty _) (.cons (.ty _) .nil), .base (.dK (same_new np _ _ hd)), kit_dict, q _ (same_new np)⟩
theorem ok_gatesD {fR' : Addr} {fdR : FuncData} (F : FnP K "are_gates" sGates f fd) (GR : FnOk P w K mg base CX0 1 fR' fdR ["value"] (spRowD K)) (gR : mg "is_row" = some (.ref fR')) (kR : PySem.W.keepIn K (.ref fR') = true) (bR : Binds K fdR ["value"] []) : FnOk P w K mg base CX0 3 f fd ["leaves", "value"] (spGatesD K) := by
  refine F.ok scGates (fun vs H Q E h => ?_) (fun cdv A outer s H vs Q E hr h => ?_)
  · obtain ⟨n, a, kvs, rfl, _⟩ := h
    rfl
  · obtain ⟨n, a, kvs, rfl, hd, q⟩ := h
    refine ⟨_, PSs.nox (pss_cons (ps_if (pt_not (pt_val (pe_call GR (hr.mono (by decide)) (by rfl) gR kR bR .nil pass0 (pa_cons (pv 1) pa_nil)))) (pss_one (ps_ret pe_bl)) pss_nil) (pss_cons ps_never (pss_cons ps_never (pss_one ps_never)))), ?_⟩
    exact ⟨_, rfl, a, kvs, rfl, hd, fun H1 s1 => ⟨_, rfl, iteT (q _ s1)⟩⟩
theorem ok_need2 {fF : Addr} {fdF fd1 : FuncData} (F : FnP K "need_leaves" sNeed f fd) (T : Te K mg CN CR fN fR) (GF : FnOk P w K mg base CX0 1 fF fdF ["value", "least"] (spFrom K)) (gF : mg "is_from" = some (.ref fF)) (kF : PySem.W.keepIn K (.ref fF) = true) (bF : Binds K fdF ["value", "least"] [])
    (GN : FnOk P w K mg base CX0 1 fN fd1 niN (spNumI CN)) (bN : Binds K fd1 niN []) : FnOk P w K mg base (L2.CX P w) 3 f fd ["leaves"] (spNeed2 K CN) := by
  refine F.ok scNeed (fun vs H Q E h => ?_) (fun cdv A outer s H vs Q E hr h => ?_)
  · obtain ⟨v, d, rfl, _⟩ := h
    rfl
  · obtain ⟨v, d, rfl, hd, h⟩ := h
    have tk : Takes (cxOf (L2.CX P w) P w K mg base ["leaves"] "need_leaves" (defScope sNeed) f cdv A outer s H E) (fun cls d _ H => E cls d H) := takes_of rfl rfl rfl rfl
    refine ⟨_, pss_one (ps_if (pt_not (pt_val (pe_call GF (hr.mono (by decide)) (by rfl) gF kF bF .nil pass0 (pa_cons (pv 0) (pa_cons pe_int pa_nil))))) (pss_one (ps_raise rfl tk (pmk_oex T.n.oe T.n.ini T.n.fn GN hr bN .nil pass0 (by rfl) T.why.mN (pa_cons pe_str (pa_cons (pv 0) pa_nil))))) pss_nil), ?_⟩
    refine ⟨_, rfl, _, _, d, rfl, hd, _, rfl, ?_⟩
    rcases h with ⟨e, q⟩ | ⟨e, num⟩
    · rw [e]
      exact iteF q
    · rw [e]
      exact iteT (mk_num (te := tVar 0) (fun R r => ⟨_, rfl, r⟩) num)
theorem ok_gix {fL fA : Addr} {fdL fdA fd2 : FuncData} (F : FnI K f fd) (T : Te K mg CN CR fN fR) (GL : FnOk P w K mg base (L2.CX P w) 3 fL fdL ["leaves"] (spNeed2 K CN)) (gL : mg "need_leaves" = some (.ref fL)) (kL : PySem.W.keepIn K (.ref fL) = true) (bL : Binds K fdL ["leaves"] [])
    (GA : FnOk P w K mg base CX0 3 fA fdA ["leaves", "value"] fun vs H Q E => spGates K vs H Q E ∨ spGatesD K vs H Q E) (gA : mg "are_gates" = some (.ref fA)) (kA : PySem.W.keepIn K (.ref fA) = true) (bA : Binds K fdA ["leaves", "value"] [])
    (GX : FnOk P w K mg base CX0 1 fR fd2 riN (spRowI CR)) (bX : Binds K fd2 riN []) : FnOk P w K mg base (L2.CX P w) 4 f fd ["self", "leaves", "gates"] (spGIX K C CN CR) := by
  refine F.ok scInit (fun vs H Q E h => ?_) (fun cdv A outer s H vs Q E hr h => ?_)
  · obtain ⟨p, dx, v, u, rfl, _⟩ := h
    rfl
  · obtain ⟨p, dx, v, u, rfl, hp, h⟩ := h
    have tk : Takes (cxOf (L2.CX P w) P w K mg base inN "Graph.__init__" (defScope sInit) f cdv A outer s H E) (fun cls d _ H => E cls d H) := takes_of rfl rfl rfl rfl
    refine ⟨_, pss_cons (ps_expr (pe_call GL hr (by rfl) gL kL bL .nil (passes_call tk fun _ _ _ _ h => h) (pa_cons (pv 1) pa_nil)))
      (pss_cons (ps_if (pt_not (pt_val (pe_call GA hr (by rfl) gA kA bA .nil pass0 (pa_cons (pv 1) (pa_cons (pv 2) pa_nil))))) (pss_one (ps_raise rfl tk (pmk_oex T.r.oe T.r.ini T.r.fn GX (hr.mono (by decide)) bX .nil pass0 (by rfl) T.why.mR (pa_cons (pv 2) pa_nil)))) pss_nil)
      (pss_cons ps_never (pss_one ps_never))), ?_⟩
    rcases h with ⟨d, hd, e, num⟩ | ⟨n, rfl, n0, row, h⟩
    · exact ⟨_, rfl, v, d, rfl, hd, .inr ⟨e, num⟩⟩
    · refine ⟨_, rfl, .int n, .int n, rfl, .int n, .inl ⟨decide_eq_true n0, ?_⟩⟩
      have rowS : ∀ {H1 : Hp}, Same H H1 → Row CR E H1 u := fun s d H' s2 e => row d H' (s.trans s2) e
      rcases h with ⟨d, hd, z1, z2, e⟩ | ⟨a, kvs, rfl, ha⟩
      · refine ⟨_, rfl, _, rfl, .inl ⟨n, u, d, rfl, hd, z1, z2, fun H1 s1 => ⟨_, rfl, ?_⟩⟩⟩
        rw [e]
        exact iteT (mk_row (te := tVar 2) (fun R r => ⟨_, rfl, r⟩) (rowS s1))
      · exact ⟨_, rfl, _, rfl, .inr ⟨n, a, kvs, rfl, ha, fun H1 s1 => ⟨_, rfl, iteT (mk_row (te := tVar 2) (fun R r => ⟨_, rfl, r⟩) (rowS s1))⟩⟩⟩
end
end Xg
namespace Exo
open PySem PySem.Spec PyProof.Rows L2
/-! ## Own exceptions as values: made by a call, with or without an own __init__, their fields, isinstance -/
/-- the class at C: an own exception class over ValueError -/
def oexB (K : PySem.W.Frag) (C : Addr) : Bool := match K.lookup C with
  | some ⟨.type "type", _, .cls cd, sl⟩ =>
    (match cd.mro, sl.toList with
    | .ref D :: bm, [_, _, _, _, some (.builtin n), _] => (decide (D = C) && decide (n = "ValueError.__new__")) && ((!cd.hasDel && cd.hasDict) && PySem.HandSPX.refsVE bm)
    | _, _ => false)
  | _ => false
theorem and2 {a b : Bool} (h : (a && b) = true) : a = true ∧ b = true := Bool.and_eq_true_iff.mp h
theorem oexB_ok {K : PySem.W.Frag} {C : Addr} (h : oexB K C = true) :
    ∃ nm q N bs bm sn sub ab col dd k0 k1 k2 k3 k5, K.lookup C = some (excClassObj nm q C N bs bm true sn sub ab col dd k0 k1 k2 k3 k5 "ValueError.__new__") ∧ PySem.HandSPX.refsVE bm = true := by
  unfold oexB at h
  split at h
  · rename_i dd cd sl ho
    split at h
    · rename_i D bm k0 k1 k2 k3 n k5 hm hs
      obtain ⟨h1, h2⟩ := and2 h
      obtain ⟨e1, e2⟩ := and2 h1
      obtain ⟨h3, h4⟩ := and2 h2
      obtain ⟨e3, e4⟩ := and2 h3
      have e1 := of_decide_eq_true e1
      have e2 := of_decide_eq_true e2
      subst e1 e2
      obtain ⟨nm, bs, mro, ns, qn, hd, sn, sub, ab, col, del⟩ := cd
      dsimp only at hm e3 e4
      have e3 : del = false := by
        cases del with
        | false => rfl
        | true => cases e3
      subst hm e3 e4
      have hsl : sl = #[k0, k1, k2, k3, some (.builtin "ValueError.__new__"), k5] := by
        obtain ⟨l⟩ := sl
        have hs : l = _ := hs
        rw [hs]
      subst hsl
      exact ⟨nm, qn, ns, bs, bm, sn, sub, ab, col, dd, k0, k1, k2, k3, k5, ho, h4⟩
    · cases h
  · cases h
/-- all that is asked of such a class, decided -/
def okB (K : PySem.W.Frag) (C : Addr) : Bool :=
  (oexB K C && decide (PySem.W.findIn K (.ref C) "__setattr__" = some (some (.builtin "object.__setattr__")))) &&
  ((decide (PySem.W.subIn K (.ref C) (.type "BaseException") = some true) && decide (PySem.W.typeIn K (.ref C) = some (.type "type"))) &&
  ((PySem.W.keepIn K (.ref C) && decide (PySem.W.findIn K (.ref C) "__getattribute__" = some (some (.builtin "BaseException.__getattribute__")))) &&
  ((decide (PySem.W.findIn K (.ref C) "__getattr__" = some none) && PySem.W.hasDictIn K C) &&
  ((decide (PySem.W.findIn K (.ref C) "__class__" = some (some (.builtin "object.__class__"))) && decide (PySem.W.specialIn K (.builtin "object.__class__") "__get__" = some (some (.builtin "getset_descriptor.__get__")))) &&
  (decide (PySem.W.takesIn K (.builtin "object.__class__") = some true) && decide (PySem.W.mroIn K C (.type "object") = some true))))))
structure Cl (K : PySem.W.Frag) (C : Addr) : Prop where
  oe : OexC K C
  ex : ExcC K C
theorem okB_ok {K : PySem.W.Frag} {C : Addr} (h : okB K C = true) : Cl K C := by
  obtain ⟨h1, h⟩ := and2 h
  obtain ⟨a1, a2⟩ := and2 h1
  obtain ⟨h2, h⟩ := and2 h
  obtain ⟨a3, a4⟩ := and2 h2
  obtain ⟨h3, h⟩ := and2 h
  obtain ⟨a5, a6⟩ := and2 h3
  obtain ⟨h4, h⟩ := and2 h
  obtain ⟨a7, a8⟩ := and2 h4
  obtain ⟨h5, h6⟩ := and2 h
  obtain ⟨a9, b1⟩ := and2 h5
  obtain ⟨b2, b3⟩ := and2 h6
  exact ⟨⟨oexB_ok a1, of_decide_eq_true a2, of_decide_eq_true a3, of_decide_eq_true a4, a5⟩,
    ⟨of_decide_eq_true a6, of_decide_eq_true a7, of_decide_eq_true a3, a8, of_decide_eq_true a9, of_decide_eq_true b1, of_decide_eq_true b2, of_decide_eq_true b3⟩⟩
end Exo
namespace Us
open PySem PySem.Spec PyProof.Rows L2
def rListOf (K : PySem.W.Frag) : List V → Hp → VK → Prop := fun xs H Q => ∃ p ys, xs = [V.ref p] ∧ (SqL K H p ys ∨ SqT K H p ys) ∧ ∀ l, H l = none → Q (.ref l) (upd H l (.lst ys))
/-- the block of a comprehension within a comprehension -/
theorem blkOk_in {N : List Str} {sc scopeO scope2 : Scope} {own : List (Str × Nat)} {cl : List (Str × Addr)} {C : Addr} {env : Env} (h : blkC N (relS scopeO sc) scope2 own = true) (e : env.scope = sc) : BlkOk N (compEnvC scopeO cl C env).scope scope2 own := by
  subst e
  exact blkOk_by h
section
variable {X : Cx} {K : PySem.W.Frag} {pos : Pos}
theorem pi_listK {tg l : Expr} {tl : TE} (hK : X.K = K) (hl : PE X l tl) : PI X tg l (iList K tl) := hK ▸ pi_list hl
theorem pi_tupK {tg l : Expr} {tl : TE} (hK : X.K = K) (hl : PE X l tl) : PI X tg l (iTup K tl) := hK ▸ pi_tup hl
theorem pg_tupK {es : List Expr} {k : Nat} {t : TGs} {n : Nat} (hK : X.K = K) (hc : X.calm = true) (h : PGs X es t)
    (hn : (assignEach es X.env).length = n := by rfl) (hst : (assignEach es X.env).findIdx? (·.1) = none := by rfl) : PG X (.Tuple es k pos) (gTup K n t) := hK ▸ pg_tup hc h hn hst
theorem pg_unlK {es : List Expr} {k : Nat} {t : TGs} {n : Nat} (hK : X.K = K) (hc : X.calm = true) (h : PGs X es t)
    (hn : (assignEach es X.env).length = n := by rfl) (hst : (assignEach es X.env).findIdx? (·.1) = none := by rfl) : PG X (.Tuple es k pos) (gUnl K n t) := hK ▸ pg_unl hc h hn hst
theorem pe_fldK {e : Expr} {f : Str} {ta : TE} (hK : X.K = K) (he : PE X e ta) (hb : attributeBase e f X.env (eval e X.env) = eval e X.env) : PE X (.Attribute e f pos) (tFld K ta f) := hK ▸ pe_fld he hb
end
end Us
namespace En
open PySem PySem.Spec PyProof.Rows L2
/-! ## enumerate(t), t a tuple -/
set_option maxHeartbeats 1000000 in
theorem new_meets {v : Value} {o : Obj} {G : Heap → Prop} (B : Begins v o G) :
    Meets (Builtin.«enumerate.__new__» ⟨[.type "enumerate", v], []⟩) (fun _ R s => G s.heap ∧ R (.ok (.ret (.ref (s.heap.push o).objs.size))) { s with heap := (s.heap.push o).push { cls := .type "enumerate", data := .fields #[.none, .bool false, .ref s.heap.objs.size, rawInt 0, .none, .none] } }) :=
  .of_wp fun prog w A R s h => by
    obtain ⟨hp, gs, dr, tk, os⟩ := s
    obtain ⟨hG, hR⟩ := h
    have sub := sub_enumerate
    have it : ∀ {A' : Around} {E Q : Value → Shared → Prop}, Q (.ref hp.objs.size) ⟨hp.push o, gs, dr, tk, os⟩ → wpAny (model prog w) A' (pyIter v) Q E ⟨hp, gs, dr, tk, os⟩ := fun q => B.iter prog w _ _ ⟨hp, gs, dr, tk, os⟩ _ hG q
    wp_walk using it
    refine wpAny_stack_any fun st => wpAny_pure ?_
    split
    · rename_i cl _ _ _ _ _
      cases (cl == Value.type "enumerate")
      all_goals
        wp_walk using it
        exact ⟨_, rfl, hR⟩
    · wp_walk using it
      exact ⟨_, rfl, hR⟩
section
variable {prog : Program} {w : World} {A : Around} {E : Value → Shared → Prop} {s : Shared}
theorem call_new {v : Value} {o : Obj} {G : Heap → Prop} {Q : Value → Shared → Prop} (B : Begins v o G) (hG : G s.heap)
    (h : ∀ h', IsEnum h' (s.heap.objs.size + 1) s.heap.objs.size 0 .none → h'.get? s.heap.objs.size = some o → (∀ b u, s.heap.get? b = some u → h'.get? b = some u) → Q (.ref (s.heap.objs.size + 1)) { s with heap := h' }) :
    wpAny (model prog w) A (call (.type "enumerate") [v]) Q E s := by
  refine callType_new F.called_enumerate (by decide) (F.typeCall_enumerate_1 _) (F.newCall_enumerate_1 _) (fun obj => F.args_object_init_2 obj _) F.entry_enumerate_new (new_meets B) ⟨hG, ?_⟩
  have size : (s.heap.push o).objs.size = s.heap.objs.size + 1 := Heap.size_push ..
  show _ ∧ _
  rw [size]
  have made : IsEnum ((s.heap.push o).push { cls := .type "enumerate", data := .fields #[.none, .bool false, .ref s.heap.objs.size, rawInt 0, .none, .none] }) (s.heap.objs.size + 1) s.heap.objs.size 0 .none := by
    have z := Heap.get?_push_size (s.heap.push o) (o := { cls := .type "enumerate", data := .fields #[.none, .bool false, .ref s.heap.objs.size, rawInt 0, .none, .none] }) rfl
    rw [size] at z
    exact z
  exact ⟨⟨_, made, rfl⟩, h _ made (Heap.get?_push_of_some _ (Heap.get?_push_size _ B.free)) fun b u q => Heap.get?_push_of_some _ (Heap.get?_push_of_some _ q)⟩
end
section
variable {prog : Program} {w : World} {A : Around} {E : Value → Shared → Prop} {s : Shared}
theorem next_end {e it a : Addr} {i : Nat} {c : Int} {items : Array Value} {old : Value} {Q : Option Value → Shared → Prop} (calm : A.handled = none) (he : IsEnum s.heap e it c old) (hi : s.heap.IsTupleIter it a i) (ht : s.heap.IsTuple a items) (none_left : items[i]? = none)
    (h : ∀ h', Heap.ExtBut it s.heap h' → Q none { s with heap := h' }) : wpAny (model prog w) A (pyNext (.ref e)) Q E s := by
  have ty : s.TypeIs (.ref e) "enumerate" := ⟨_, he, rfl⟩
  unfold pyNext
  refine wpAny_bind (wpAny_attempt (wpAny_callSpecial?_slot (name := Str.ofString "__next__") ty F.slot_enumerate_next (wpAny_call_entry F.slot_enumerate_next ty F.entry_enumerate_next ?_ (F.args_enumerate_next_1 _))))
  show wpAny _ _ (field (.ref e) 2 >>= _) _ _ _
  refine wpAny_bind (wpAny_field he rfl (x := .ref it) rfl (wpAny_bind (wpAny_nextOf_tuple_end calm hi ht none_left fun h' x ext stop => ?_)))
  obtain ⟨o, ho, hc⟩ := stop
  exact wpAny_bind (wpAny_isInstance (T := "StopIteration") (b := true) ⟨o, ho, hc⟩ isSubtype_stop (wpAny_pure (h _ ext)))
end
/-- the tuple at a, each item in a new pair with its place -/
def Iet (K : PySem.W.Frag) (a : Addr) : It :=
  ⟨fun i H => ∃ (xs : List V) (x : V), SqT K H a xs ∧ xs[i]? = some x, fun i H v H' => ∃ T x, v = .ref T ∧ H T = none ∧ H' = upd H T (.tup [.int (i : Nat), x]) ∧ ∀ xs, SqT K H a xs → xs[i]? = some x, fun i H => ∃ xs : List V, SqT K H a xs ∧ xs.length ≤ i⟩
theorem apart {s : Shared} {e it a : Addr} {c : Int} {old : Value} {i : Nat} {items : Array Value} (he : IsEnum s.heap e it c old) (hi : s.heap.IsTupleIter it a i) (ht : s.heap.IsTuple a items) : e ≠ it ∧ e ≠ a ∧ a ≠ it := by
  obtain ⟨oi, h1, h2, _⟩ := hi
  obtain ⟨ot, h3, h4, _⟩ := ht
  refine ⟨fun z => ?_, fun z => ?_, fun z => ?_⟩
  · rw [← z, he] at h1
    rw [← Option.some.inj h1] at h2
    exact absurd (Value.type.inj h2) (by decide)
  · rw [← z, he] at h3
    rw [← Option.some.inj h3] at h4
    exact absurd (Value.type.inj h4) (by decide)
  · rw [z, h1] at h3
    rw [← Option.some.inj h3, h2] at h4
    exact absurd (Value.type.inj h4) (by decide)
theorem turn {P : Program} {w : World} {K : PySem.W.Frag} {es : List Expr} {k : Nat} {pos : Pos} (a e it : Addr) :
    Turn P w K (.Tuple es k pos) (Iet K a) [e, it] e (fun i h => (∃ old, IsEnum h e it ((i : Nat) : Int) old) ∧ h.IsTupleIter it a i) where
  mem := List.mem_cons_self
  obj := fun i h st b hb => by
    obtain ⟨⟨old, he⟩, ⟨o, ho, hc, hd⟩⟩ := st
    rcases List.mem_cons.mp hb with rfl | hb
    · exact ⟨_, he, fun v q => nomatch q⟩
    · rw [List.mem_singleton.mp hb]
      exact ⟨o, ho, fun v q => by rw [hd] at q; cases q⟩
  keep := fun i h h' st kp => by
    obtain ⟨⟨old, he⟩, hi⟩ := st
    exact ⟨⟨old, kp e List.mem_cons_self _ he⟩, hi.at fun o q => kp it (List.mem_cons_of_mem _ (List.mem_singleton.mpr rfl)) o q⟩
  item := by
    rintro X rfl rfl rfl calm i pins s σ H E I fp ⟨⟨old, he⟩, hi⟩ ⟨xs, x, hq, hx⟩
    obtain ⟨its, rv, ht, _⟩ := I.tuple hq
    obtain ⟨u, hu, ru⟩ := rv.get hx
    obtain ⟨n1, n2, n3⟩ := apart he hi ht
    have le : e < s.heap.objs.size := Heap.lt_size he
    have li : it < s.heap.objs.size := by
      obtain ⟨_, q, _⟩ := hi
      exact Heap.lt_size q
    have hlt : i < its.toArray.size := by
      have z := (List.getElem?_eq_some_iff.mp hu).1
      simpa using z
    refine wpAny_pyNext_enum_itemD (Draws.tuple (A := X.A.in1) (I.ok.hd calm) it a n3 its.toArray) he ⟨hi, ht⟩ hlt n1 (by simp [n1, n2]) fun y h' tk hy out st made _ same => ?_
    have ey : y = u := by
      have z : its[i]? = some y := by simpa using hy
      rw [hu] at z
      exact (Option.some.inj z).symm
    subst ey
    refine ⟨_, rfl, wpAny_letOwnedTupleGo_enum (s := { s with heap := h', toks := tk + 1 }) out fun h2 he2 sb => ?_⟩
    have made2 : h2.get? s.heap.objs.size = some { cls := .type "tuple", data := .seq #[.int i tk, y] } := (sb.2 _ (Nat.ne_of_gt le)).trans made
    have new : ObjOk X.prog X.w (upd H s.heap.objs.size (.tup [.int (i : Nat), x])) h2 s.heap.objs.size (.tup [.int (i : Nat), x]) := ⟨by show 2 ≤ sizeLine; decide, [.int i tk, y], .cons ⟨_, rfl⟩ (.cons ru .nil), ⟨_, made2, rfl, _, rfl⟩⟩
    have I1 := I.turnedNew (t' := tk + 1) (ch := [e, it]) (fun b ob hb q => (sb.2 b fun z => hb (by simp [z])).trans (same b ob (fun z => hb (by simp [z])) (fun z => hb (by simp [z])) q)) fp (Nat.le_refl _) new
    refine ⟨.ref s.heap.objs.size, _, I1, rfl, ⟨_, x, rfl, I.hok.fresh (Nat.le_refl _), rfl, fun ys hy => by rw [I.tuple_inj hy hq]; exact hx⟩, ⟨⟨y, ?_⟩, st.1.at fun o q => (sb.2 it n1.symm).trans q⟩, fun b hb => ?_⟩
    · rw [show ((i + 1 : Nat) : Int) = (i : Int) + 1 by omega]
      exact he2
    · have hb2 : b < s.heap.objs.size := by
        rcases List.mem_cons.mp hb with rfl | hb
        · exact le
        · rw [List.mem_singleton.mp hb]
          exact li
      rw [upd_ne (Nat.ne_of_lt hb2)]
      exact (fp b hb).1
  done := by
    rintro X rfl rfl rfl calm i pins s σ H E I fp ⟨⟨old, he⟩, hi⟩ ⟨xs, hq, hx⟩
    obtain ⟨its, rv, ht, _⟩ := I.tuple hq
    obtain ⟨n1, n2, n3⟩ := apart he hi ht
    obtain ⟨f0, f1, f2, f3, f4, f5⟩ := fp it (List.mem_cons_of_mem _ (List.mem_singleton.mpr rfl))
    have hl := rv.length
    refine next_end (I.ok.hd calm) he hi ht (by simp; omega) fun h' eb => ⟨rfl, I.turned (t' := s.toks) (fun b o hb q => eb b o hb q) f0 f1 f3 f4 f5⟩
  self := fun A i s Q E st h => let ⟨⟨_, he⟩, _⟩ := st; wpAny_pyIter_enum he h
/-- for i, x in enumerate(t) -/
def iEnT (K : PySem.W.Frag) (ta : TA) : TI := fun σ H R => ta σ H fun vs H1 => ∃ a xs, vs = [.ref a] ∧ SqT K H1 a xs ∧ R (Iet K a) H1
theorem pi_enT {X : Cx} {e : Expr} {ta : TA} {p pos tpos : Pos} {es : List Expr} {k : Nat} (hg : Gl X "enumerate") (hm : X.mg "enumerate" = none) (ha : PA X [e] ta) (hs : starEach [e] X.env = [(false, eval e X.env)] := by rfl) :
    PI X (.Tuple es k tpos) (.Call (.Name "enumerate" p) [e] [] pos) (iEnT X.K ta) := by
  refine ⟨fun pins s σ H R I h => Call_ (ld_blt I hg hm boot_enumerate (PyProof.Rows.callWith_type1 (thn (ha.run pos pins s σ H _ I h) fun us s1 z => ?_) hs rfl))⟩
  obtain ⟨vs, H1, I1, r1, a, xs, rfl, hq, q⟩ := z
  obtain ⟨u, rfl, ru⟩ := vals1 r1
  have hu : u = Value.ref a := ru
  subst hu
  obtain ⟨its, rv, ht, _⟩ := I1.tuple hq
  refine call_new (begins_tuple a its.toArray) ht fun h' he hit same => wpAny_pyIter_enum he ?_
  have I2 := I1.kept (t' := s1.toks) same
  refine ⟨s1.heap.objs.size + 1, [s1.heap.objs.size + 1, s1.heap.objs.size], _, _, H1, rfl, I2, turn a (s1.heap.objs.size + 1) s1.heap.objs.size, ⟨⟨.none, he⟩, ⟨_, hit, rfl, rfl⟩⟩, fun b hb => ?_, q⟩
  have low : s1.heap.objs.size ≤ b := by
    rcases List.mem_cons.mp hb with rfl | hb
    · exact Nat.le_succ _
    · rw [List.mem_singleton.mp hb]
      exact Nat.le_refl _
  exact I1.fpOk low (I1.hok.fresh low)
theorem for_enT {K : PySem.W.Frag} {a : Addr} {xs : List V} {g : TG} {tb : TS} {D : Ends} {σ : L2.St} {H : Hp} (Pv : Nat → L2.St → Hp → Prop) (h0 : Pv 0 σ H) (hl : ∀ i σ H, i ≤ xs.length → Pv i σ H → SqT K H a xs)
    (hs : ∀ i x σ H T, xs[i]? = some x → Pv i σ H → H T = none → g (.ref T) σ (upd H T (.tup [.int (i : Nat), x])) fun σ2 H2 => tb { D with nx := Pv (i + 1), ct := Pv (i + 1), bk := D.nx } σ2 H2) (hd : ∀ σ H, Pv xs.length σ H → D.nx σ H) :
    ∃ W : Nat → Nat → L2.St → Hp → Prop, (∃ m, W 0 m σ H) ∧ ∀ i m σ H, W i m σ H →
      ((Iet K a).stop i H ∧ D.nx σ H) ∨ ((Iet K a).go i H ∧ ∃ N : L2.St → Hp → Prop, (∀ σ' H', N σ' H' → ∃ m', m' < m ∧ W (i + 1) m' σ' H') ∧ ∀ x H', (Iet K a).yld i H x H' → g x σ H' fun σ2 H2 => tb { D with nx := N, ct := N, bk := D.nx } σ2 H2) := by
  refine ⟨fun i m σ H => m = xs.length - i ∧ i ≤ xs.length ∧ Pv i σ H, ⟨_, rfl, Nat.zero_le _, h0⟩, ?_⟩
  rintro i m σ H ⟨rfl, hi, p⟩
  have q := hl i σ H hi p
  rcases Nat.lt_or_ge i xs.length with lt | ge
  · have hx := List.getElem?_eq_getElem lt
    refine .inr ⟨⟨xs, _, q, hx⟩, Pv (i + 1), fun σ' H' p' => ⟨xs.length - (i + 1), by omega, rfl, lt, p'⟩, ?_⟩
    rintro x H' ⟨T, y, rfl, nT, rfl, hy⟩
    exact hs i y σ H T (hy xs q) p nT
  · have e : i = xs.length := Nat.le_antisymm hi ge
    exact .inl ⟨⟨xs, q, ge⟩, hd σ H (e ▸ p)⟩
end En
namespace Rp
open PySem PySem.Spec PyProof.Rows L2 Fi
/-! ## What may be handed to repr -/
structure ROk (d : PyData) : Prop where
  show_ : d.showable = true
  dict : d.hasDict = false
  deep : d.depth ≤ 60
  long : d.shown.length ≤ sizeLine
def Small (i : Int) : Prop := 0 ≤ i ∧ i < 1000
theorem log_small : ∀ n : Nat, n < 1000 → n.log2 < 10 := by decide +kernel
theorem abs_small {i : Int} (h : Small i) : i.natAbs < 1000 := by
  obtain ⟨a, b⟩ := h
  omega
theorem show_small {i : Int} (h : Small i) : (PyData.int i).showable = true := by
  have := log_small _ (abs_small h)
  exact decide_eq_true (Nat.lt_trans this (by decide))
theorem weigh_small {i : Int} (h : Small i) : (PyData.int i).weight ≤ 10 := by
  have := log_small _ (abs_small h)
  show (if i == 0 then 0 else i.natAbs.log2 + 1) ≤ 10
  split <;> omega
theorem short_small {i : Int} (h : Small i) : (PyData.int i).intsShort 13 = true := by
  have := abs_small h
  exact decide_eq_true (PyData.shown_int_le (Nat.lt_trans this (by decide)))
theorem ints_all : ∀ {ns : List Int}, (∀ z ∈ ns, Small z) → PyData.showableAll (ns.map .int) = true ∧ PyData.hasDictAll (ns.map .int) = false ∧ PyData.depthAll (ns.map .int) = 0 ∧ PyData.canLayAll0 (ns.map .int) = true ∧
    PyData.intsShortAll 13 (ns.map .int) = true ∧ PyData.weightAll (ns.map .int) ≤ 11 * ns.length
  | [], _ => ⟨rfl, rfl, rfl, rfl, rfl, Nat.zero_le _⟩
  | z :: r, h => by
    have hz := h z List.mem_cons_self
    obtain ⟨a, b, c, d, e, g⟩ := ints_all (ns := r) fun y hy => h y (List.mem_cons_of_mem _ hy)
    refine ⟨?_, b, ?_, d, ?_, ?_⟩
    · show ((PyData.int z).showable && PyData.showableAll (r.map .int)) = true
      rw [show_small hz, a]
      rfl
    · show max 0 (PyData.depthAll (r.map .int)) = 0
      rw [c]
      rfl
    · show ((PyData.int z).intsShort 13 && PyData.intsShortAll 13 (r.map .int)) = true
      rw [short_small hz, e]
      rfl
    · show (PyData.int z).weight + 1 + PyData.weightAll (r.map .int) ≤ 11 * (r.length + 1)
      have := weigh_small hz
      omega
theorem row_ok {ns : List Int} (h : ∀ z ∈ ns, Small z) (hz : ns.length ≤ 1000) : ROk (.tuple (ns.map .int)) := by
  obtain ⟨a, b, c, d, e, g⟩ := ints_all h
  refine ⟨a, b, by show PyData.depthAll (ns.map .int) + 1 ≤ 60; omega, PyData.shown_fits_of_layable0 (B := 13) (by decide) (by decide) ?_ e⟩
  show ((PyData.canLayAll0 (ns.map .int) && decide (PyData.depthAll (ns.map .int) + 1 ≤ 64)) && decide (PyData.weightAll (ns.map .int) ≤ 2 ^ 20)) = true
  rw [d, decide_eq_true (by omega), decide_eq_true (Nat.le_trans g (Nat.le_trans (Nat.mul_le_mul_left 11 hz) (by decide)))]
  rfl
def SmallP (p : Int × Int) : Prop := Small p.1 ∧ Small p.2
theorem pairs_all : ∀ {gs : List (Int × Int)}, (∀ p ∈ gs, SmallP p) → PyData.showableAll (gs.map pD) = true ∧ PyData.hasDictAll (gs.map pD) = false ∧ PyData.depthAll (gs.map pD) ≤ 1 ∧ PyData.canLayAll0 (gs.map pD) = true ∧
    PyData.intsShortAll 13 (gs.map pD) = true ∧ PyData.weightAll (gs.map pD) ≤ 30 * gs.length
  | [], _ => ⟨rfl, rfl, Nat.zero_le _, rfl, rfl, Nat.zero_le _⟩
  | p :: r, h => by
    obtain ⟨p1, p2⟩ := h p List.mem_cons_self
    obtain ⟨a, b, c, d, e, g⟩ := pairs_all (gs := r) fun y hy => h y (List.mem_cons_of_mem _ hy)
    refine ⟨?_, b, ?_, d, ?_, ?_⟩
    · show (((PyData.int p.1).showable && ((PyData.int p.2).showable && true)) && PyData.showableAll (r.map pD)) = true
      rw [show_small p1, show_small p2, a]
      rfl
    · show max 1 (PyData.depthAll (r.map pD)) ≤ 1
      exact Nat.max_le.mpr ⟨Nat.le_refl _, c⟩
    · show (((PyData.int p.1).intsShort 13 && ((PyData.int p.2).intsShort 13 && true)) && PyData.intsShortAll 13 (r.map pD)) = true
      rw [short_small p1, short_small p2, e]
      rfl
    · show ((PyData.int p.1).weight + 1 + ((PyData.int p.2).weight + 1 + 0)) + 1 + PyData.weightAll (r.map pD) ≤ 30 * (r.length + 1)
      have h1 := weigh_small p1
      have h2 := weigh_small p2
      omega
theorem gates_ok {gs : List (Int × Int)} (h : ∀ p ∈ gs, SmallP p) (hz : gs.length ≤ 1000) : ROk (gD gs) := by
  obtain ⟨a, b, c, d, e, g⟩ := pairs_all h
  refine ⟨a, b, by show PyData.depthAll (gs.map pD) + 1 ≤ 60; omega, PyData.shown_fits_of_layable0 (B := 13) (by decide) (by decide) ?_ e⟩
  show ((PyData.canLayAll0 (gs.map pD) && decide (PyData.depthAll (gs.map pD) + 1 ≤ 64)) && decide (PyData.weightAll (gs.map pD) ≤ 2 ^ 20)) = true
  rw [d, decide_eq_true (by omega), decide_eq_true (Nat.le_trans g (Nat.le_trans (Nat.mul_le_mul_left 30 hz) (by decide)))]
  rfl
theorem shaped_ints {ns : List Int} (h : ∀ z ∈ ns, Small z) : SeqAt.shaped (.list (ns.map .int)) = true ∧ SeqAt.shaped (.tuple (ns.map .int)) = true := by
  obtain ⟨a, b, c, d, e, g⟩ := ints_all h
  have k : (PyData.canLayAll0 (ns.map .int) && decide (PyData.depthAll (ns.map .int) + 1 ≤ 64)) = true := by
    rw [d, decide_eq_true (by omega)]
    rfl
  exact ⟨k, k⟩
theorem eqv_len : ∀ (xs ys : List PyData), PyData.eqvAll xs ys = true → xs.length = ys.length
  | [], [], _ => rfl
  | [], _ :: _, h => by
    unfold PyData.eqvAll at h
    cases h
  | _ :: _, [], h => by
    unfold PyData.eqvAll at h
    cases h
  | x :: xs, y :: ys, h => by
    unfold PyData.eqvAll at h
    exact congrArg Nat.succ (eqv_len xs ys (Bool.and_eq_true_iff.mp h).2)
theorem eqv_self (gs : List (Int × Int)) : PyData.eqv (gD gs) (gD gs) = true := SeqAt.eqv_refl _ (Gr.can_pD gs)
theorem eqv_cut {gs hs : List (Int × Int)} (h : gs.length ≠ hs.length) : PyData.eqv (gD gs) (gD hs) = false := by
  cases e : PyData.eqv (gD gs) (gD hs) with
  | false => rfl
  | true =>
    have e' : PyData.eqvAll (gs.map pD) (hs.map pD) = true := by
      unfold gD PyData.eqv at e
      exact e
    have := eqv_len _ _ e'
    rw [List.length_map, List.length_map] at this
    exact absurd this h
end Rp
namespace Lf
open PySem PySem.Spec PyProof.Rows L2 Pen Dat Ki Fi Gr No
/-! ## The law's own functions -/
structure Tx (mg : Str → Option Value) : Prop where
  pen : Pen.Txt mg
  abs : mg "abs" = none
  range : mg "range" = none
  tuple : mg "tuple" = none
def longer (rs : List (List Int)) : List (List Int) := rs.flatMap fun r => [r ++ [0], r ++ [1]]
def rowsM : Nat → List (List Int)
  | 0 => [[]]
  | n + 1 => longer (rowsM n)
theorem longer_cons (r : List Int) (rs : List (List Int)) : longer (r :: rs) = (r ++ [0]) :: (r ++ [1]) :: longer rs := rfl
theorem longer_app (rs ts : List (List Int)) : longer (rs ++ ts) = longer rs ++ longer ts := List.flatMap_append
theorem longer_len : ∀ rs : List (List Int), (longer rs).length = 2 * rs.length
  | [] => rfl
  | r :: rs => by
    rw [longer_cons, List.length_cons, List.length_cons, longer_len rs, List.length_cons]
    omega
theorem longer_mem : ∀ {rs : List (List Int)} {n : Nat}, (∀ r ∈ rs, r.length = n ∧ B01 r) → ∀ r ∈ longer rs, r.length = n + 1 ∧ B01 r
  | [], _, _, r, h => by cases h
  | t :: rs, n, hr, r, h => by
    have ht := hr t List.mem_cons_self
    rw [longer_cons] at h
    have one : ∀ z : Int, (z = 0 ∨ z = 1) → (t ++ [z]).length = n + 1 ∧ B01 (t ++ [z]) := fun z hz => ⟨by rw [List.length_append, ht.1]; rfl, fun y hy => by
      rcases List.mem_append.mp hy with q | q
      · exact ht.2 y q
      · rw [List.mem_singleton.mp q]
        exact hz⟩
    rcases List.mem_cons.mp h with rfl | h
    · exact one 0 (.inl rfl)
    · rcases List.mem_cons.mp h with rfl | h
      · exact one 1 (.inr rfl)
      · exact longer_mem (fun r hr2 => hr r (List.mem_cons_of_mem _ hr2)) r h
theorem rowsM_mem : ∀ (n : Nat), ∀ r ∈ rowsM n, r.length = n ∧ B01 r
  | 0, r, h => by
    rw [List.mem_singleton.mp h]
    exact ⟨rfl, fun z hz => by cases hz⟩
  | n + 1, r, h => longer_mem (rowsM_mem n) r h
theorem rowsM_len : ∀ n : Nat, (rowsM n).length = 2 ^ n
  | 0 => rfl
  | n + 1 => by
    show (longer (rowsM n)).length = _
    rw [longer_len, rowsM_len n, Nat.pow_succ, Nat.mul_comm]
theorem okG_snoc : ∀ {gs : List (Int × Int)} {m : Int} {p : Int × Int}, okG m gs = true → 0 ≤ p.1 → p.1 ≤ m + 2 * gs.length → 0 ≤ p.2 → p.2 ≤ m + 2 * gs.length → okG m (gs ++ [p]) = true
  | [], m, p, _, a, b, c, d => by
    show ((within p.1 m && within p.2 m) && true) = true
    unfold within
    have b' : p.1 ≤ m := by simpa using b
    have d' : p.2 ≤ m := by simpa using d
    rw [decide_eq_true a, decide_eq_true b', decide_eq_true c, decide_eq_true d']
    rfl
  | q :: r, m, p, h, a, b, c, d => by
    unfold okG at h
    rw [Bool.and_eq_true] at h
    show ((within q.1 m && within q.2 m) && okG (m + 2) (r ++ [p])) = true
    rw [h.1, okG_snoc h.2 a (by rw [List.length_cons] at b; omega) c (by rw [List.length_cons] at d; omega)]
    rfl
def spBit (K : PySem.W.Frag) : Sp := fun vs H Q _ => ∃ (l : Addr) (xs : List Int) (a : Int), vs = [.ref l, .int a] ∧ SqL K H l (xs.map V.int) ∧ 0 ≤ a ∧ (a / 2).toNat < xs.length ∧ Q (.int (lit xs a)) H
def spValues (K : PySem.W.Frag) : Sp := fun vs H Q _ => ∃ (u : V) (g r : Addr) (gs : List (Int × Int)) (bs : List Int), vs = [u, .ref g, .ref r] ∧ GT K H g gs ∧ SqT K H r (bs.map V.int) ∧ B01 bs ∧ okG (2 * bs.length + 1) gs = true ∧ bs.length ≤ 500 ∧ gs.length ≤ 500 ∧
  ∀ (H' : Hp) (l : Addr), Same H H' → H l = none → H' l = some (.lst ((vals bs gs).map V.int)) → Q (.ref l) H'
def spDrawn (K : PySem.W.Frag) : Sp := fun vs H Q _ => ∃ (p c : Addr) (k : Nat) (n m : Int), vs = [.ref p, .int n, .int m] ∧ PenC H p c k ∧ k ≤ 100000000000 ∧ 0 ≤ n ∧ n ≤ 100 ∧ 0 ≤ m ∧ m ≤ 100 ∧
  ∀ (H' : Hp) (g : Addr) (gs : List (Int × Int)), PenC H' p c (k + 2 * m.toNat) → But p H H' → GT K H' g gs → okG (2 * n + 1) gs = true → gs.length = m.toNat → Q (.ref g) H'
def spLonger (K : PySem.W.Frag) : Sp := fun vs H Q _ => ∃ (l : Addr) (ws : List V) (rs : List (List Int)), vs = [.ref l, .int 2] ∧ SqL K H l ws ∧ All2 (Tu K H) ws rs ∧ rs.length ≤ 2100 ∧ (∀ r ∈ rs, r.length ≤ 100) ∧
  ∀ (H' : Hp) (l' : Addr) (zs : List V), Same H H' → H' l' = some (.lst zs) → All2 (Tu K H') zs (longer rs) → Q (.ref l') H'
def spRows (K : PySem.W.Frag) : Sp := fun vs H Q _ => ∃ (m : Int), vs = [.int m] ∧ 0 ≤ m ∧ m ≤ 11 ∧
  ∀ (H' : Hp) (l : Addr) (ws : List V), Same H H' → H' l = some (.lst ws) → All2 (Tu K H') ws (rowsM m.toNat) → Q (.ref l) H'
section
variable {P : Program} {w : World} {K : PySem.W.Frag} {mg : Str → Option Value} {base : Heap} {f C : Addr} {fd : FuncData}
abbrev vaN : List Str := ["_law_leaves", "_law_gates", "_law_bits", "_law_found", "_law_one", "_law_two"]
abbrev drN : List Str := ["_law_pen_here", "_law_leaves", "_law_many", "_law_gates", "_law_k", "_law_ahead"]
abbrev loN : List Str := ["_law_rows_here", "_law_many", "_law_found", "_law_row", "_law_number"]
end
end Lf
namespace Cm
open PySem PySem.Spec PyProof.Rows L2 Fi No
/-! ## Clauses, as mathematics -/
def fl (l : Int) : Int := l + 1 - 2 * (l % 2)
def sgn (l : Int) : Int := if l % 2 = 1 then -(l / 2) else l / 2
def bad (ls : List Int) : Bool := ls.any (fun l => l == 1) || ls.any fun l => ls.any fun m => m == fl l
def Asc (cl : List Int) : Prop := cl.Pairwise fun a b => a.natAbs < b.natAbs
def IsCl (ls cl : List Int) : Prop := Asc cl ∧ ∀ z, z ∈ cl ↔ ∃ l ∈ ls, 1 < l ∧ z = sgn l
theorem asc_ext : ∀ {xs ys : List Int}, Asc xs → Asc ys → (∀ z, z ∈ xs ↔ z ∈ ys) → xs = ys
  | [], [], _, _, _ => rfl
  | [], y :: _, _, _, h => absurd ((h y).mpr List.mem_cons_self) List.not_mem_nil
  | x :: _, [], _, _, h => absurd ((h x).mp List.mem_cons_self) List.not_mem_nil
  | x :: xs, y :: ys, hx, hy, h => by
    unfold Asc at hx hy
    rw [List.pairwise_cons] at hx hy
    have e : x = y := by
      rcases List.mem_cons.mp ((h x).mp List.mem_cons_self) with e | m1
      · exact e
      · rcases List.mem_cons.mp ((h y).mpr List.mem_cons_self) with e | m2
        · exact e.symm
        · have a := hx.1 y m2
          have b := hy.1 x m1
          omega
    subst e
    refine congrArg (x :: ·) (asc_ext hx.2 hy.2 fun z => ⟨fun m => ?_, fun m => ?_⟩)
    · rcases List.mem_cons.mp ((h z).mp (List.mem_cons_of_mem _ m)) with e | m'
      · have := hx.1 z m
        rw [e] at this
        exact absurd this (Nat.lt_irrefl _)
      · exact m'
    · rcases List.mem_cons.mp ((h z).mpr (List.mem_cons_of_mem _ m)) with e | m'
      · have := hy.1 z m
        rw [e] at this
        exact absurd this (Nat.lt_irrefl _)
      · exact m'
theorem isCl_uniq {ls c1 c2 : List Int} (h1 : IsCl ls c1) (h2 : IsCl ls c2) : c1 = c2 := asc_ext h1.1 h2.1 fun z => (h1.2 z).trans (h2.2 z).symm
theorem not_bad {ls : List Int} (h : bad ls = false) : ¬ (1 : Int) ∈ ls ∧ ∀ l ∈ ls, ¬ fl l ∈ ls := by
  unfold bad at h
  rw [Bool.or_eq_false_iff, List.any_eq_false, List.any_eq_false] at h
  refine ⟨fun m => h.1 1 m (by rfl), fun l m m2 => ?_⟩
  have z := h.2 l m
  rw [Bool.not_eq_true, List.any_eq_false] at z
  exact z _ m2 (by simp)
theorem is_bad {ls : List Int} (h : bad ls = true) : (1 : Int) ∈ ls ∨ ∃ l ∈ ls, fl l ∈ ls := by
  unfold bad at h
  rw [Bool.or_eq_true, List.any_eq_true, List.any_eq_true] at h
  rcases h with ⟨l, m, e⟩ | ⟨l, m, e⟩
  · rw [beq_iff_eq] at e
    subst e
    exact .inl m
  · obtain ⟨k, mk, ek⟩ := List.any_eq_true.mp e
    rw [beq_iff_eq] at ek
    subst ek
    exact .inr ⟨l, m, mk⟩
theorem bad_of {ls : List Int} (h : (1 : Int) ∈ ls ∨ ∃ l ∈ ls, fl l ∈ ls) : bad ls = true := by
  cases e : bad ls with
  | true => rfl
  | false =>
    obtain ⟨a, b⟩ := not_bad e
    rcases h with h | ⟨l, m, m2⟩
    · exact absurd h a
    · exact absurd m2 (b l m)
theorem sgn_abs {l : Int} (h : 0 ≤ l) : (sgn l).natAbs = (l / 2).toNat := by
  unfold sgn
  split <;> omega
/-- literals in order, none the opposite of another one: their clause -/
theorem isCl_map {ls ns : List Int} (h0 : ∀ l ∈ ls, 0 ≤ l) (hb : bad ls = false) (hn : ns.Pairwise (· < ·)) (hm : ∀ l, l ∈ ns ↔ l ∈ ls ∧ 1 < l) : IsCl ls (ns.map sgn) := by
  obtain ⟨b1, b2⟩ := not_bad hb
  refine ⟨?_, fun z => ⟨fun h => ?_, ?_⟩⟩
  · unfold Asc
    rw [List.pairwise_map]
    refine hn.imp_of_mem fun {a b} ma mb hab => ?_
    have a0 := (hm a).mp ma
    have c0 := (hm b).mp mb
    rw [sgn_abs (h0 a a0.1), sgn_abs (h0 b c0.1)]
    have ne : ¬ b = fl a := fun e => b2 a a0.1 (e ▸ c0.1)
    unfold fl at ne
    have := a0.2
    omega
  · obtain ⟨l, m, rfl⟩ := List.mem_map.mp h
    exact ⟨l, ((hm l).mp m).1, ((hm l).mp m).2, rfl⟩
  · rintro ⟨l, m, h1, rfl⟩
    exact List.mem_map.mpr ⟨l, (hm l).mpr ⟨m, h1⟩, rfl⟩
/-- nodes in order, each with its sign: the same clause -/
theorem isCl_nodes {ls ns : List Int} (h0 : ∀ l ∈ ls, 0 ≤ l) (hb : bad ls = false) (hn : ns.Pairwise (· < ·)) (hm : ∀ n, n ∈ ns ↔ ∃ l ∈ ls, 1 < l ∧ n = l / 2) :
    IsCl ls (ns.map fun n => if 2 * n ∈ ls then n else -n) := by
  obtain ⟨b1, b2⟩ := not_bad hb
  have val : ∀ l ∈ ls, 1 < l → (if 2 * (l / 2) ∈ ls then l / 2 else -(l / 2)) = sgn l := fun l m h1 => by
    unfold sgn
    by_cases e : l % 2 = 1
    · rw [if_pos e, if_neg]
      intro m2
      refine b2 l m ?_
      have : fl l = 2 * (l / 2) := by
        unfold fl
        omega
      rw [this]
      exact m2
    · rw [if_neg e, if_pos]
      have : 2 * (l / 2) = l := by omega
      rw [this]
      exact m
  refine ⟨?_, fun z => ⟨fun h => ?_, ?_⟩⟩
  · unfold Asc
    rw [List.pairwise_map]
    refine hn.imp_of_mem fun {a b} ma mb hab => ?_
    obtain ⟨l, ml, hl, rfl⟩ := (hm a).mp ma
    obtain ⟨k, mk, hk, rfl⟩ := (hm b).mp mb
    rw [val l ml hl, val k mk hk, sgn_abs (h0 l ml), sgn_abs (h0 k mk)]
    omega
  · obtain ⟨n, m, rfl⟩ := List.mem_map.mp h
    obtain ⟨l, ml, hl, rfl⟩ := (hm n).mp m
    exact ⟨l, ml, hl, val l ml hl⟩
  · rintro ⟨l, m, h1, rfl⟩
    exact List.mem_map.mpr ⟨l / 2, (hm _).mpr ⟨l, m, h1, rfl⟩, val l m h1⟩
def bnd (ls : List Int) : Nat := ls.foldr (fun l b => max l.toNat b) 0 + 1
theorem bnd_lt : ∀ {ls : List Int} {l : Int}, l ∈ ls → l.toNat < bnd ls
  | k :: r, l, h => by
    unfold bnd
    rw [List.foldr_cons]
    rcases List.mem_cons.mp h with rfl | h
    · have := Nat.le_max_left l.toNat (r.foldr (fun l b => max l.toNat b) 0)
      omega
    · have z := bnd_lt h
      unfold bnd at z
      have := Nat.le_max_right k.toNat (r.foldr (fun l b => max l.toNat b) 0)
      omega
def clL (ls : List Int) : List Int := (((List.range (bnd ls)).map fun (l : Nat) => (l : Int)).filter fun l => decide (l ∈ ls ∧ 1 < l)).map sgn
theorem isCl_clL {ls : List Int} (h0 : ∀ l ∈ ls, 0 ≤ l) (hb : bad ls = false) : IsCl ls (clL ls) := by
  refine isCl_map h0 hb (List.Pairwise.filter _ ?_) fun l => ?_
  · rw [List.pairwise_map]
    exact (List.pairwise_lt_range).imp fun h => by omega
  · rw [List.mem_filter, List.mem_map, decide_eq_true_eq]
    refine ⟨fun h => h.2, fun h => ⟨⟨l.toNat, List.mem_range.mpr (bnd_lt h.1), ?_⟩, h⟩⟩
    have := h0 l h.1
    omega
def clM (ls : List Int) : Option (List Int) := if bad ls then none else some (clL ls)
/-! ### what they say -/
def satB (as cl : List Int) : Bool := cl.any fun z => decide (as.getD (z.natAbs - 1) 0 = if z > 0 then 1 else 0)
def litv (as : List Int) (l : Int) : Int := lit (0 :: as) l
theorem litv_01 {as : List Int} (h : B01 as) (l : Int) : litv as l = 0 ∨ litv as l = 1 := lit_01 (fun z hz => by
  rcases List.mem_cons.mp hz with rfl | hz
  · exact .inl rfl
  · exact h z hz) l
theorem getD_tail (as : List Int) {k : Nat} (h : 0 < k) : (0 :: as).getD k 0 = as.getD (k - 1) 0 := by
  obtain ⟨j, rfl⟩ := Nat.exists_eq_succ_of_ne_zero (Nat.pos_iff_ne_zero.mp h)
  rw [List.getD_eq_getElem?_getD, List.getD_eq_getElem?_getD]
  rfl
theorem sgn_lit {as : List Int} (h : B01 as) {l : Int} (h1 : 1 < l) : (as.getD ((sgn l).natAbs - 1) 0 = if sgn l > 0 then 1 else 0) ↔ litv as l = 1 := by
  have g := getD_tail as (k := (l / 2).toNat) (by omega)
  have b := getD_01 h ((l / 2).toNat - 1)
  rw [sgn_abs (by omega)]
  unfold litv lit ab
  rw [g]
  generalize as.getD ((l / 2).toNat - 1) 0 = x at b
  unfold sgn
  by_cases e : l % 2 = 1
  · rw [if_pos e, if_neg (by omega), e]
    rcases b with rfl | rfl <;> decide
  · have e0 : l % 2 = 0 := by omega
    rw [if_neg e, if_pos (by omega), e0]
    rcases b with rfl | rfl <;> decide
theorem litv_zero (as : List Int) : litv as 0 = 0 := rfl
theorem litv_one (as : List Int) : litv as 1 = 1 := rfl
theorem litv_fl {as : List Int} (h : B01 as) {l : Int} (h0 : 0 ≤ l) : litv as (fl l) = 1 - litv as l := by
  have e : fl l / 2 = l / 2 := by
    unfold fl
    omega
  have b : (0 :: as).getD (l / 2).toNat 0 = 0 ∨ (0 :: as).getD (l / 2).toNat 0 = 1 := getD_01 (fun z hz => by
    rcases List.mem_cons.mp hz with rfl | hz
    · exact .inl rfl
    · exact h z hz) _
  unfold litv lit ab
  rw [e]
  have m : l % 2 = 0 ∨ l % 2 = 1 := by omega
  have m2 : fl l % 2 = 1 - l % 2 := by
    unfold fl
    omega
  rw [m2]
  rcases b with b | b <;> rcases m with m | m <;> rw [b, m] <;> decide
theorem sat_cl {as ls cl : List Int} (h : B01 as) (h0 : ∀ l ∈ ls, 0 ≤ l) (h1 : ¬ (1 : Int) ∈ ls) (hc : IsCl ls cl) : satB as cl = true ↔ ∃ l ∈ ls, litv as l = 1 := by
  unfold satB
  rw [List.any_eq_true]
  constructor
  · rintro ⟨z, hz, e⟩
    obtain ⟨l, ml, hl, rfl⟩ := (hc.2 z).mp hz
    exact ⟨l, ml, (sgn_lit h hl).mp (of_decide_eq_true e)⟩
  · rintro ⟨l, ml, e⟩
    have l0 := h0 l ml
    have l1 : 1 < l := by
      rcases Int.lt_trichotomy l 1 with q | q | q
      · have : l = 0 := by omega
        rw [this, litv_zero] at e
        cases e
      · rw [q] at ml
        exact absurd ml h1
      · exact q
    exact ⟨sgn l, (hc.2 _).mpr ⟨l, ml, l1, rfl⟩, decide_eq_true ((sgn_lit h l1).mpr e)⟩
theorem sat_bad {as ls : List Int} (h : B01 as) (h0 : ∀ l ∈ ls, 0 ≤ l) (hb : bad ls = true) : ∃ l ∈ ls, litv as l = 1 := by
  rcases is_bad hb with m | ⟨l, m, m2⟩
  · exact ⟨1, m, litv_one as⟩
  · rcases litv_01 h l with e | e
    · refine ⟨fl l, m2, ?_⟩
      rw [litv_fl h (h0 l m), e]
      rfl
    · exact ⟨l, m, e⟩
/-- a row of literals, as the clause of it says -/
def holds (as ls : List Int) : Prop := match clM ls with
  | none => True
  | some cl => satB as cl = true
theorem holds_iff {as ls : List Int} (h : B01 as) (h0 : ∀ l ∈ ls, 0 ≤ l) : holds as ls ↔ ∃ l ∈ ls, litv as l = 1 := by
  unfold holds clM
  cases e : bad ls with
  | true => exact ⟨fun _ => sat_bad h h0 e, fun _ => trivial⟩
  | false => exact sat_cl h h0 (not_bad e).1 (isCl_clL h0 e)
def three (g : Int) (p : Int × Int) : List (List Int) := [[p.1, g + 1], [p.2, g + 1], [fl p.1, fl p.2, g]]
def clauses (n : Nat) : List (Int × Int) → List (List Int)
  | [] => []
  | p :: r => (three (2 * ((n : Int) + 1)) p).filterMap clM ++ clauses (n + 1) r
theorem gate_iff {as : List Int} {g : Int} {p : Int × Int} (h : B01 as) (h1 : 0 ≤ p.1) (h2 : 0 ≤ p.2) (hg : 0 ≤ g) (he : g % 2 = 0) :
    (∀ cl ∈ (three g p).filterMap clM, satB as cl = true) ↔ litv as g = litv as p.1 * litv as p.2 := by
  have tr : (∀ cl ∈ (three g p).filterMap clM, satB as cl = true) ↔ ∀ ls ∈ three g p, holds as ls := by
    constructor
    · intro q ls m
      unfold holds
      cases e : clM ls with
      | none => exact trivial
      | some cl => exact q cl (List.mem_filterMap.mpr ⟨ls, m, e⟩)
    · intro q cl m
      obtain ⟨ls, m1, e⟩ := List.mem_filterMap.mp m
      have z := q ls m1
      unfold holds at z
      rw [e] at z
      exact z
  have f1 : 0 ≤ fl p.1 := by
    unfold fl
    omega
  have f2 : 0 ≤ fl p.2 := by
    unfold fl
    omega
  have eg : g + 1 = fl g := by
    unfold fl
    omega
  have nn1 : ∀ l ∈ [p.1, g + 1], 0 ≤ l := fun l m => by
    rcases List.mem_cons.mp m with rfl | m
    · exact h1
    · rw [List.mem_singleton.mp m]
      omega
  have nn2 : ∀ l ∈ [p.2, g + 1], 0 ≤ l := fun l m => by
    rcases List.mem_cons.mp m with rfl | m
    · exact h2
    · rw [List.mem_singleton.mp m]
      omega
  have nn3 : ∀ l ∈ [fl p.1, fl p.2, g], 0 ≤ l := fun l m => by
    rcases List.mem_cons.mp m with rfl | m
    · exact f1
    · rcases List.mem_cons.mp m with rfl | m
      · exact f2
      · rw [List.mem_singleton.mp m]
        exact hg
  have k1 := holds_iff h nn1
  have k2 := holds_iff h nn2
  have k3 := holds_iff h nn3
  simp only [List.mem_cons, List.not_mem_nil, or_false, exists_eq_or_imp, exists_eq_left] at k1 k2 k3
  rw [tr]
  simp only [three, List.mem_cons, List.not_mem_nil, or_false, forall_eq_or_imp, forall_eq]
  rw [k1, k2, k3, eg, litv_fl h hg, litv_fl h h1, litv_fl h h2]
  rcases litv_01 h p.1 with a | a <;> rcases litv_01 h p.2 with b | b <;> rcases litv_01 h g with c | c <;> rw [a, b, c] <;> decide
end Cm
namespace Cn
open PySem PySem.Spec PyProof.Rows L2 Fi Gr No Lf Cm
/-! ## Just one assignment, and all rows of bits -/
def fits (as : List Int) (n : Nat) (gs : List (Int × Int)) : Prop := ∀ cl ∈ clauses n gs, satB as cl = true
theorem foldl_pre : ∀ (gs : List (Int × Int)) (f : List Int), (gs.foldl No.step f).take f.length = f
  | [], f => List.take_length
  | p :: r, f => by
    show (r.foldl No.step (No.step f p)).take f.length = f
    have e := foldl_pre r (No.step f p)
    have hl : f.length ≤ (No.step f p).length := by
      unfold No.step
      rw [List.length_append]
      exact Nat.le_add_right _ _
    have e2 : ((r.foldl No.step (No.step f p)).take (No.step f p).length).take f.length = (No.step f p).take f.length := by rw [e]
    rw [List.take_take, Nat.min_eq_left hl] at e2
    rw [e2]
    unfold No.step
    exact List.take_left
theorem getD_take {f : List Int} {j k : Nat} (h : j < k) : (f.take k).getD j 0 = f.getD j 0 := by
  rw [List.getD_eq_getElem?_getD, List.getD_eq_getElem?_getD, List.getElem?_take_of_lt h]
theorem lit_take {f : List Int} {a : Int} {k : Nat} (h0 : 0 ≤ a) (h : (a / 2).toNat < k) : lit (f.take k) a = lit f a := by
  unfold lit
  rw [getD_take h]
theorem take_snoc {as : List Int} {n : Nat} (h : n < as.length) : as.take (n + 1) = as.take n ++ [as.getD n 0] := by
  rw [List.take_succ, List.getD_eq_getElem?_getD, List.getElem?_eq_getElem h]
  rfl
theorem fits_iff : ∀ (gs : List (Int × Int)) (n : Nat) (as : List Int), B01 as → as.length = n + gs.length → okG (2 * (n : Int) + 1) gs = true → (fits as n gs ↔ 0 :: as = gs.foldl No.step (0 :: as.take n))
  | [], n, as, _, hl, _ => by
    have e : as.take n = as := List.take_of_length_le (by simp at hl; omega)
    refine ⟨fun _ => ?_, fun _ cl m => by cases m⟩
    show 0 :: as = 0 :: as.take n
    rw [e]
  | p :: r, n, as, hb, hl, hok => by
    have hl' : as.length = n + 1 + r.length := by
      rw [hl, List.length_cons]
      omega
    have hn : n < as.length := by omega
    obtain ⟨⟨a0, a1⟩, b0, b1⟩ := okG_at (i := 0) (p := p) hok rfl
    have hok2 : okG (2 * ((n + 1 : Nat) : Int) + 1) r = true := by
      unfold okG at hok
      rw [Bool.and_eq_true] at hok
      rw [show 2 * ((n + 1 : Nat) : Int) + 1 = 2 * (n : Int) + 1 + 2 by omega]
      exact hok.2
    have ih := fits_iff r (n + 1) as hb hl' hok2
    have gate := gate_iff (as := as) (g := 2 * ((n : Int) + 1)) (p := p) hb a0 b0 (by omega) (by omega)
    have split : fits as n (p :: r) ↔ litv as (2 * ((n : Int) + 1)) = litv as p.1 * litv as p.2 ∧ fits as (n + 1) r := by
      rw [← gate]
      have ec : clauses n (p :: r) = (three (2 * ((n : Int) + 1)) p).filterMap clM ++ clauses (n + 1) r := rfl
      unfold fits
      rw [ec]
      constructor
      · exact fun h => ⟨fun cl m => h cl (List.mem_append_left _ m), fun cl m => h cl (List.mem_append_right _ m)⟩
      · rintro ⟨h1, h2⟩ cl m
        rcases List.mem_append.mp m with m | m
        · exact h1 cl m
        · exact h2 cl m
    have lg : litv as (2 * ((n : Int) + 1)) = as.getD n 0 := by
      unfold litv lit
      have e1 : (2 * ((n : Int) + 1) / 2).toNat = n + 1 := by omega
      have e2 : 2 * ((n : Int) + 1) % 2 = 0 := by omega
      rw [e1, e2, getD_tail as (by omega : 0 < n + 1)]
      show ab (as.getD n 0 - 0) = _
      rcases getD_01 hb n with q | q <;> rw [q] <;> rfl
    have st : No.step (0 :: as.take n) p = 0 :: as.take n ++ [litv as p.1 * litv as p.2] := by
      unfold No.step
      have e : (0 :: as.take n) = (0 :: as).take (n + 1) := rfl
      rw [e, lit_take a0 (by omega), lit_take b0 (by omega)]
      rfl
    have goal : (p :: r).foldl No.step (0 :: as.take n) = r.foldl No.step (0 :: as.take n ++ [litv as p.1 * litv as p.2]) := by
      show r.foldl No.step (No.step (0 :: as.take n) p) = _
      rw [st]
    have tk := take_snoc hn
    rw [split, goal, lg, ih, tk]
    constructor
    · rintro ⟨e1, e2⟩
      rw [e1] at e2
      exact e2
    · intro e2
      have pre := foldl_pre r (0 :: as.take n ++ [litv as p.1 * litv as p.2])
      rw [← e2] at pre
      have ln : (0 :: as.take n ++ [litv as p.1 * litv as p.2]).length = n + 2 := by
        rw [List.length_append, List.length_cons, List.length_take, Nat.min_eq_left (Nat.le_of_lt hn)]
        rfl
      rw [ln] at pre
      have pre2 : (0 :: as).take (n + 2) = 0 :: as.take n ++ [as.getD n 0] := by
        show 0 :: as.take (n + 1) = _
        rw [tk]
        rfl
      rw [pre2] at pre
      have e1 : as.getD n 0 = litv as p.1 * litv as p.2 := by
        have z := List.append_inj_right' pre rfl
        exact List.head_eq_of_cons_eq z
      refine ⟨e1, ?_⟩
      rw [e1]
      exact e2
/-- the one assignment that has these bits -/
def whole (bs : List Int) (gs : List (Int × Int)) : List Int := (vals bs gs).drop 1
theorem vals_head (bs : List Int) (gs : List (Int × Int)) : vals bs gs = 0 :: whole bs gs := by
  have e := foldl_pre gs (0 :: bs)
  unfold whole
  cases h : vals bs gs with
  | nil =>
    have z := vals_len bs gs
    rw [h] at z
    have z2 : 0 = bs.length + 1 + gs.length := z
    omega
  | cons x r =>
    unfold vals at h
    rw [h] at e
    have : x = 0 := List.head_eq_of_cons_eq e
    rw [this]
    rfl
theorem whole_len (bs : List Int) (gs : List (Int × Int)) : (whole bs gs).length = bs.length + gs.length := by
  unfold whole
  rw [List.length_drop, vals_len]
  omega
theorem whole_01 {bs : List Int} (gs : List (Int × Int)) (h : B01 bs) : B01 (whole bs gs) := fun z hz => vals_01 gs h z (List.mem_of_mem_drop hz)
theorem whole_take (bs : List Int) (gs : List (Int × Int)) : (whole bs gs).take bs.length = bs := by
  have e := foldl_pre gs (0 :: bs)
  have v := vals_head bs gs
  unfold vals at v
  rw [v] at e
  exact List.tail_eq_of_cons_eq e
theorem fits_whole {as bs : List Int} {gs : List (Int × Int)} (hb : B01 as) (hl : as.length = bs.length + gs.length) (hok : okG (2 * (bs.length : Int) + 1) gs = true) : (fits as bs.length gs ∧ as.take bs.length = bs) ↔ as = whole bs gs := by
  rw [fits_iff gs bs.length as hb hl hok]
  constructor
  · rintro ⟨e1, e2⟩
    rw [e2] at e1
    have v := vals_head bs gs
    unfold vals at v
    rw [v] at e1
    exact List.tail_eq_of_cons_eq e1
  · intro e
    have t : as.take bs.length = bs := by
      rw [e]
      exact whole_take bs gs
    refine ⟨?_, t⟩
    rw [t]
    have v := vals_head bs gs
    unfold vals at v
    rw [v, e]
/-! ### all rows of so many bits -/
theorem longer_in : ∀ {rs : List (List Int)} {t : List Int}, t ∈ longer rs ↔ ∃ r ∈ rs, t = r ++ [0] ∨ t = r ++ [1]
  | [], t => ⟨fun h => absurd h List.not_mem_nil, fun ⟨_, h, _⟩ => absurd h List.not_mem_nil⟩
  | r :: rs, t => by
    rw [longer_cons, List.mem_cons, List.mem_cons, longer_in]
    constructor
    · rintro (h | h | ⟨s, m, h⟩)
      · exact ⟨r, List.mem_cons_self, .inl h⟩
      · exact ⟨r, List.mem_cons_self, .inr h⟩
      · exact ⟨s, List.mem_cons_of_mem _ m, h⟩
    · rintro ⟨s, m, h⟩
      rcases List.mem_cons.mp m with rfl | m
      · rcases h with h | h
        · exact .inl h
        · exact .inr (.inl h)
      · exact .inr (.inr ⟨s, m, h⟩)
theorem longer_nd : ∀ {rs : List (List Int)}, rs.Nodup → (longer rs).Nodup
  | [], _ => List.nodup_nil
  | r :: rs, h => by
    rw [List.nodup_cons] at h
    rw [longer_cons, List.nodup_cons, List.nodup_cons, List.mem_cons, longer_in, longer_in]
    have no : ∀ z : Int, ¬ ∃ s ∈ rs, r ++ [z] = s ++ [0] ∨ r ++ [z] = s ++ [1] := fun z ⟨s, m, e⟩ => by
      have : r = s := by
        rcases e with e | e <;> exact List.append_inj_left' e rfl
      rw [this] at h
      exact h.1 m
    refine ⟨fun e => ?_, no 1, longer_nd h.2⟩
    rcases e with e | e
    · have z := List.append_inj_right' e rfl
      cases z
    · exact no 0 e
theorem rowsM_nd : ∀ n : Nat, (rowsM n).Nodup
  | 0 => by
    show [([] : List Int)].Nodup
    rw [List.nodup_cons]
    exact ⟨List.not_mem_nil, List.nodup_nil⟩
  | n + 1 => longer_nd (rowsM_nd n)
theorem rowsM_all : ∀ (n : Nat) (r : List Int), r.length = n → B01 r → r ∈ rowsM n
  | 0, r, h, _ => by
    rw [List.length_eq_zero_iff.mp h]
    exact List.mem_cons_self
  | n + 1, r, h, hb => by
    show r ∈ longer (rowsM n)
    have hne : r ≠ [] := fun e => by
      rw [e] at h
      cases h
    have e := List.dropLast_concat_getLast hne
    have hd : B01 r.dropLast := fun z hz => hb z (List.dropLast_subset r hz)
    have hl := hb _ (List.getLast_mem hne)
    have hm := rowsM_all n r.dropLast (by rw [List.length_dropLast, h]; rfl) hd
    rw [longer_in]
    refine ⟨r.dropLast, hm, ?_⟩
    rcases hl with q | q
    · rw [q] at e
      exact .inl e.symm
    · rw [q] at e
      exact .inr e.symm
theorem filter_one {p : List Int → Bool} {w : List Int} : ∀ {l : List (List Int)}, l.Nodup → w ∈ l → (∀ r ∈ l, p r = true ↔ r = w) → l.filter p = [w]
  | [], _, h, _ => by cases h
  | r :: l, nd, h, hp => by
    rw [List.nodup_cons] at nd
    by_cases e : r = w
    · rw [List.filter_cons_of_pos ((hp r List.mem_cons_self).mpr e), e]
      have none : l.filter p = [] := by
        rw [List.filter_eq_nil_iff]
        intro s m q
        have := (hp s (List.mem_cons_of_mem _ m)).mp q
        rw [this, ← e] at m
        exact nd.1 m
      rw [none]
    · have hr : ¬ p r = true := fun q => e ((hp r List.mem_cons_self).mp q)
      rw [List.filter_cons_of_neg hr]
      rcases List.mem_cons.mp h with q | q
      · exact absurd q.symm e
      · exact filter_one nd.2 q fun s m => hp s (List.mem_cons_of_mem _ m)
end Cn
namespace Bd
open PySem PySem.Spec PyProof.Rows L2 Pen Dat Ki Fi Gr
/-! ## Builders -/
def flp (l : Int) : Int := l + 1 - 2 * (l % 2)
def ix (p : Int × Int) (gs : List (Int × Int)) : Nat := gs.findIdx (fun q => decide (q = p))
def ordP (a b : Int) : Int × Int := if a > b then (a, b) else (b, a)
def gated (n : Int) (gs : List (Int × Int)) (p : Int × Int) : List (Int × Int) × Int := if p ∈ gs then (gs, 2 * (n + ix p gs + 1)) else (gs ++ [p], 2 * (n + gs.length + 1))
theorem xor_one {l : Int} (h : 0 ≤ l) : Builtin.bitXor l 1 = flp l := by
  obtain ⟨n, rfl⟩ := Int.eq_ofNat_of_zero_le h
  rw [Bits.bitXor_pp h (by decide)]
  have z := Bits.nat_xor_add_and n 1
  rw [Nat.and_one_is_mod] at z
  unfold flp
  have e : ((n : Int)).toNat = n := Int.toNat_natCast n
  have e1 : (1 : Int).toNat = 1 := rfl
  rw [e, e1]
  omega
/-- what and_of does -/
def andM (n : Int) (gs : List (Int × Int)) (a b : Int) : List (Int × Int) × Int :=
  if a = 0 ∨ b = 0 ∨ a = flp b then (gs, 0) else if a = 1 then (gs, b) else if b = 1 ∨ a = b then (gs, a) else gated n gs (ordP a b)
def kP (p : Int × Int) : List Key := [.inl p.1, .inl p.2]
/-- a table of pairs' literals -/
def StandM (n : Int) (gs : List (Int × Int)) (kvs : List (List Key × V)) : Prop := kvs.length = gs.length ∧ ∀ p : Int × Int, valV kvs (kP p) = if p ∈ gs then some (.int (2 * (n + ix p gs + 1))) else none
theorem kP_inj {p q : Int × Int} (h : kP p = kP q) : p = q := by
  unfold kP at h
  injection h with a b
  injection b with b _
  exact Prod.ext (Sum.inl.inj a) (Sum.inl.inj b)
theorem ix_mem {p : Int × Int} {gs : List (Int × Int)} {t : List (Int × Int)} (h : p ∈ gs) : ix p (gs ++ t) = ix p gs := by
  unfold ix
  rw [List.findIdx_append]
  have : gs.findIdx (fun q => decide (q = p)) < gs.length := List.findIdx_lt_length_of_exists ⟨p, h, decide_eq_true rfl⟩
  rw [if_pos this]
theorem ix_new {p : Int × Int} {gs : List (Int × Int)} (h : ¬ p ∈ gs) : ix p (gs ++ [p]) = gs.length := by
  unfold ix
  rw [List.findIdx_append]
  have e : gs.findIdx (fun q => decide (q = p)) = gs.length := List.findIdx_eq_length.mpr fun q hq => decide_eq_false fun e => h (e ▸ hq)
  rw [e, if_neg (Nat.lt_irrefl _)]
  have : [p].findIdx (fun q => decide (q = p)) = 0 := by
    rw [List.findIdx_cons, decide_eq_true rfl]
    rfl
  rw [this]
  exact Nat.zero_add _
theorem StandM.put {n : Int} {gs : List (Int × Int)} {kvs : List (List Key × V)} {p : Int × Int} (h : StandM n gs kvs) (hp : ¬ p ∈ gs) : StandM n (gs ++ [p]) (putK kvs (kP p) (.int (2 * (n + gs.length + 1)))) := by
  obtain ⟨h1, h2⟩ := h
  have hv : valV kvs (kP p) = none := by
    rw [h2 p, if_neg hp]
  refine ⟨?_, fun q => ?_⟩
  · rw [putK_new _ hv, List.length_append, List.length_append, h1]
    rfl
  · rw [valV_put]
    by_cases e : q = p
    · subst e
      rw [if_pos rfl, if_pos (List.mem_append_right _ List.mem_cons_self), ix_new hp]
    · rw [if_neg fun z => e (kP_inj z), h2 q]
      by_cases m : q ∈ gs
      · rw [if_pos m, if_pos (List.mem_append_left _ m), ix_mem m]
      · rw [if_neg m, if_neg fun z => (List.mem_append.mp z).elim m fun z => e (List.mem_singleton.mp z)]
structure Tx (K : PySem.W.Frag) (mg : Str → Option Value) (B : Addr) : Prop where
  ki : Ki.Tx mg
  cl : Cls K B
  nL : NoAttr K B "leaves"
  nG : NoAttr K B "gates"
  nS : NoAttr K B "standing"
def fB (n : Int) (gl sd : Addr) : List (Str × V) := putF "standing" (.ref sd) (putF "gates" (.ref gl) (putF "leaves" (.int n) []))
theorem fB_L (n : Int) (gl sd : Addr) : (fB n gl sd).lookup ("leaves" : Str) = some (.int n) := by
  have a : ¬ (("leaves" : Str) = "standing") := by decide +kernel
  have b : ¬ (("leaves" : Str) = "gates") := by decide +kernel
  unfold fB
  rw [lookup_putF, if_neg a, lookup_putF, if_neg b, lookup_putF, if_pos rfl]
theorem fB_G (n : Int) (gl sd : Addr) : (fB n gl sd).lookup ("gates" : Str) = some (.ref gl) := by
  have a : ¬ (("gates" : Str) = "standing") := by decide +kernel
  unfold fB
  rw [lookup_putF, if_neg a, lookup_putF, if_pos rfl]
theorem fB_S (n : Int) (gl sd : Addr) : (fB n gl sd).lookup ("standing" : Str) = some (.ref sd) := by
  unfold fB
  rw [lookup_putF, if_pos rfl]
/-- a builder stands at b, its gates at gl, its table at sd -/
def BAt (K : PySem.W.Frag) (B : Addr) (H : Hp) (b gl sd : Addr) (n : Int) (gs : List (Int × Int)) : Prop :=
  ∃ dx ws kvs, H b = some (.ins B dx (fB n gl sd)) ∧ H gl = some (.lst ws) ∧ All2 (Pt K H) ws gs ∧ H sd = some (.dT kvs) ∧ StandM n gs kvs
/-- all but two objects stand as they stood -/
def But2 (p q : Addr) (H H' : Hp) : Prop := ∀ b o, H b = some o → b ≠ p → b ≠ q → H' b = some o
abbrev sAnd : Stmt := inClass cBuild 2
def spAnd (K : PySem.W.Frag) (B : Addr) : Sp := fun vs H Q _ => ∃ (b gl sd : Addr) (n x y : Int) (gs : List (Int × Int)), vs = [.ref b, .int x, .int y] ∧ BAt K B H b gl sd n gs ∧ gs.length ≤ 5000 ∧ 0 ≤ x ∧ 0 ≤ y ∧
  ∀ H', But2 gl sd H H' → Firm H H' → BAt K B H' b gl sd n (andM n gs x y).1 → Q (.int (andM n gs x y).2) H'
section
variable {P : Program} {w : World} {K : PySem.W.Frag} {mg : Str → Option Value} {base : Heap} {f B : Addr} {fd : FuncData}
theorem scAnd : FnScope ["self", "one", "other", "pair"] ["self", "one", "other"] (defScope sAnd) := ⟨rfl, rfl, rfl, by decide +kernel, rfl, by decide +kernel, by decide +kernel⟩
abbrev FnA (K : PySem.W.Frag) (f : Addr) (fd : FuncData) : Prop := FunD K "and_of" "Builder.and_of" (defArgs sAnd) (defBody sAnd) (defScope sAnd) [] [] f fd
theorem ok_and (F : FnA K f fd) (T : Tx K mg B) : FnOk P w K mg base CX0 1 f fd ["self", "one", "other"] (spAnd K B) := by
  refine F.ok scAnd (fun vs H Q E h => ?_) (fun cdv A outer s H vs Q E hr h => ?_)
  · obtain ⟨b, gl, sd, n, x, y, gs, rfl, _⟩ := h
    rfl
  · obtain ⟨b, gl, sd, n, x, y, gs, rfl, hB, hz, x0, y0, q⟩ := h
    have hu := hu_of hr
    refine ⟨_, PSs.nox (pss_cons (ps_if (PW.pt (pw_or (pt_cmpR op_eq (pv 1) pe_int (nomark _)) (pw_or (pt_cmpR op_eq (pv 2) pe_int (nomark _)) (pw_or1 (pt_cmpR op_eq (pv 1) (pe_op op_xor (pv 2) pe_int) (nomark _)))))) (pss_one (ps_ret pe_int)) pss_nil)
      (pss_cons (ps_if (pt_cmpR op_eq (pv 1) pe_int (nomark _)) (pss_one (ps_ret (pv 2))) pss_nil)
      (pss_cons (ps_if (PW.pt (pw_or (pt_cmpR op_eq (pv 2) pe_int (nomark _)) (pw_or1 (pt_cmpR op_eq (pv 1) (pv 2) (nomark _))))) (pss_one (ps_ret (pv 1))) pss_nil)
      (C8.pss_cut (ps_set (i := 3) scAnd.nd rfl (Or.inl rfl) (pe_ifExp (pt_cmpR op_gt (pv 1) (pv 2) (nomark _)) (pe_tup (pa_cons (pv 1) (pa_cons (pv 2) pa_nil))) (pe_tup (pa_cons (pv 2) (pa_cons (pv 1) pa_nil)))))
      (C8.pss_cut (ps_if (pt_cmp (pc_dnotin hu (pv 3) (pe_fld (pv 0) rfl)))
        (pss_cons (ps_expr (pe_bm PySem.F.plainAttrs_list PySem.F.slot_list_append PySem.F.type_list_append mt_append (pe_fld (pv 0) rfl) (pa_cons (pv 3) pa_nil)))
        (pss_one (ps_dput hu (pe_fld (pv 0) rfl) (pv 3) (pe_op op_mul pe_int (pe_op op_add (pe_fld (pv 0) rfl) (pe_callB call_len_seq (by rfl) T.ki.len PySem.boot_len (pa_cons (pe_fld (pv 0) rfl) pa_nil)))) rfl))) pss_nil)
      (pss_one (ps_ret (pe_dget hu (pe_fld (pv 0) rfl) (pv 3) (fun _ _ => rfl))))))))), ?_⟩
    obtain ⟨dx, ws, kvs, hb, hg, ha, hs, hS⟩ := id hB
    have done : ∀ {r : Int}, andM n gs x y = (gs, r) → Q (.int r) H := fun {r} e => by
      have z := q H (fun _ _ e _ _ => e) (Firm.refl H)
      rw [e] at z
      exact z hB
    have di : ∀ {a b : Int}, decide (V.int a = V.int b) = true → a = b := fun h => V.int.inj (of_decide_eq_true h)
    have dn : ∀ {a b : Int}, ¬ decide (V.int a = V.int b) = true → ¬ a = b := fun h e => h (decide_eq_true (congrArg V.int e))
    refine ⟨_, rfl, rfl, _, rfl, ?_⟩
    refine ite2 (fun c1 => ?_) (fun c1 => ?_)
    · exact iteT (done (if_pos (.inl (di c1))))
    refine ⟨_, rfl, rfl, _, rfl, ?_⟩
    refine ite2 (fun c2 => ?_) (fun c2 => ?_)
    · exact iteT (done (if_pos (.inr (.inl (di c2)))))
    refine ⟨_, rfl, _, rfl, _, _, rfl, rfl, rfl, _, rfl, ?_⟩
    have ex := xor_one y0
    refine ite2 (fun c3 => ?_) (fun c3 => ?_)
    · exact done (if_pos (.inr (.inr ((di c3).trans ex))))
    have n1 : ¬ (x = 0 ∨ y = 0 ∨ x = flp y) := fun h => h.elim (dn c1) fun h => h.elim (dn c2) fun h => dn c3 (h.trans ex.symm)
    refine ⟨_, rfl, rfl, _, rfl, ?_⟩
    refine ite2 (fun c4 => ?_) (fun c4 => ?_)
    · exact ⟨_, rfl, done ((if_neg n1).trans (if_pos (di c4)))⟩
    have n4 := dn c4
    refine ⟨_, rfl, rfl, _, rfl, ?_⟩
    refine ite2 (fun c5 => ?_) (fun c5 => ?_)
    · exact iteT ⟨_, rfl, done ((if_neg n1).trans ((if_neg n4).trans (if_pos (.inl (di c5)))))⟩
    refine ⟨_, rfl, _, rfl, rfl, _, rfl, ?_⟩
    refine ite2 (fun c6 => ?_) (fun c6 => ?_)
    · exact ⟨_, rfl, done ((if_neg n1).trans ((if_neg n4).trans (if_pos (.inr (di c6)))))⟩
    have n5 : ¬ (y = 1 ∨ x = y) := fun h => h.elim (dn c5) (dn c6)
    have eA : andM n gs x y = gated n gs (ordP x y) := (if_neg n1).trans ((if_neg n4).trans (if_neg n5))
    rw [eA] at q
    -- the pair
    generalize ep : ordP x y = pr at q
    refine ⟨fun σ H1 => ∃ t, σ = [some (.ref b), some (.int x), some (.int y), some (.ref t)] ∧ Same H H1 ∧ H1 t = some (.tup [.int pr.1, .int pr.2]), ?_, ?_⟩
    · refine ⟨_, rfl, _, rfl, _, _, rfl, rfl, _, rfl, ?_⟩
      refine ite2 (fun c7 => ?_) (fun c7 => ?_)
      · have e : pr = (x, y) := by
          rw [← ep]
          exact if_pos (of_decide_eq_true c7)
        refine ⟨_, rfl, _, rfl, (by show 2 ≤ sizeLine; decide), fun t nt => ⟨t, rfl, same_new nt, ?_⟩⟩
        rw [e]
        exact upd_same
      · have e : pr = (y, x) := by
          rw [← ep]
          exact if_neg fun z => c7 (decide_eq_true z)
        refine ⟨_, rfl, _, rfl, (by show 2 ≤ sizeLine; decide), fun t nt => ⟨t, rfl, same_new nt, ?_⟩⟩
        rw [e]
        exact upd_same
    rintro σ H1 ⟨t, rfl, s1, ht⟩
    have hb1 := s1 _ _ hb
    have hg1 := s1 _ _ hg
    have hs1 := s1 _ _ hs
    have ha1 := ha.imp fun _ _ h => h.firm (Firm.of s1)
    have kt : H1 t = some (.tup ((kP pr).map kV)) := ht
    have ngs : gl ≠ sd := fun e => by
      rw [e, hs] at hg
      cases hg
    have ntg : t ≠ gl := fun e => by
      rw [e, hg1] at ht
      cases ht
    have nts : t ≠ sd := fun e => by
      rw [e, hs1] at ht
      cases ht
    have nbg : b ≠ gl := fun e => by
      rw [e, hg1] at hb1
      cases hb1
    have nbs : b ≠ sd := fun e => by
      rw [e, hs1] at hb1
      cases hb1
    refine ⟨fun σ H2 => σ = [some (.ref b), some (.int x), some (.int y), some (.ref t)] ∧ But2 gl sd H H2 ∧ Firm H H2 ∧ BAt K B H2 b gl sd n (gated n gs pr).1 ∧ H2 t = some (.tup ((kP pr).map kV)), ?_, ?_⟩
    · refine ⟨_, rfl, _, rfl, b, B, dx, _, _, rfl, hb1, T.cl, T.nS, fB_S _ _ _, sd, _, rfl, DGet.t (k := kP pr) hs1 kt, _, rfl, ?_⟩
      by_cases m : pr ∈ gs
      · have e : (valV kvs (kP pr)).isSome = true := by
          rw [hS.2 pr, if_pos m]
          rfl
        rw [e]
        refine iteF ⟨rfl, fun _ _ e _ _ => s1 _ _ e, Firm.of s1, ?_, kt⟩
        have eg : (gated n gs pr).1 = gs := by
          unfold gated
          rw [if_pos m]
        rw [eg]
        exact ⟨dx, ws, kvs, hb1, hg1, ha1, hs1, hS⟩
      · have e : (valV kvs (kP pr)).isSome = false := by
          rw [hS.2 pr, if_neg m]
          rfl
        rw [e]
        refine iteT ?_
        have wl := ha.len
        refine ⟨_, rfl, b, B, dx, _, _, rfl, hb1, T.cl, T.nG, fB_G _ _ _, .inl ⟨rfl, _, SqL.of hg1⟩, _, rfl, gl, _, _, rfl, rfl, hg1, ?_, ?_⟩
        · rw [wl]
          exact Nat.lt_of_le_of_lt hz (by decide)
        have fg := Firm.upd (o := .lst (ws ++ [V.ref t])) hg1 rfl
        have hb2 : (upd H1 gl (.lst (ws ++ [V.ref t]))) b = some (.ins B dx (fB n gl sd)) := by
          rw [upd_ne nbg]
          exact hb1
        have hs2 : (upd H1 gl (.lst (ws ++ [V.ref t]))) sd = some (.dT kvs) := by
          rw [upd_ne ngs.symm]
          exact hs1
        have kt2 : (upd H1 gl (.lst (ws ++ [V.ref t]))) t = some (.tup ((kP pr).map kV)) := by
          rw [upd_ne ntg]
          exact kt
        have hg2 := upd_same (H := H1) (a := gl) (o := .lst (ws ++ [V.ref t]))
        have a2 : All2 (Pt K (upd H1 gl (.lst (ws ++ [V.ref t])))) (ws ++ [V.ref t]) (gs ++ [pr]) := (ha1.imp fun _ _ h => h.firm fg).snoc ⟨t, rfl, SqT.of kt2⟩
        have o2 : ∀ a o, H1 a = some o → a ≠ gl → (upd H1 gl (.lst (ws ++ [V.ref t]))) a = some o := fun a o e ne => by
          rw [upd_ne ne]
          exact e
        generalize upd H1 gl (.lst (ws ++ [V.ref t])) = H2 at fg hb2 hs2 kt2 hg2 a2 o2 ⊢
        refine ⟨_, rfl, b, B, dx, _, _, rfl, hb2, T.cl, T.nL, fB_L _ _ _, _, rfl, b, B, dx, _, _, rfl, hb2, T.cl, T.nG, fB_G _ _ _, gl, _, rfl, .inl (SqL.of hg2), _, _, rfl, rfl, _, _, rfl, rfl, .inl ⟨by decide, by decide⟩, ?_⟩
        have el : (2 * (n + (((ws ++ [V.ref t]).length : Nat) : Int))) = 2 * (n + gs.length + 1) := by
          rw [List.length_append, wl]
          show 2 * (n + ((gs.length + 1 : Nat) : Int)) = _
          omega
        refine ⟨_, rfl, b, B, dx, _, _, rfl, hb2, T.cl, T.nS, fB_S _ _ _, _, rfl, sd, _, rfl, DPut.t (k := kP pr) hs2 kt2 (by rw [hS.1]; exact Nat.lt_of_le_of_lt hz (by decide)), ?_⟩
        show _ ∧ _
        have fs := Firm.upd (o := .dT (putK kvs (kP pr) (.int (2 * (n + (((ws ++ [V.ref t]).length : Nat) : Int)))))) hs2 rfl
        refine ⟨rfl, fun a o e ne1 ne2 => ?_, (Firm.of s1).trans (fg.trans fs), ?_, ?_⟩
        · rw [upd_ne ne2]
          exact o2 _ _ (s1 _ _ e) ne1
        · have eg : (gated n gs pr).1 = gs ++ [pr] := by
            unfold gated
            rw [if_neg m]
          rw [eg]
          refine ⟨dx, _, _, ?_, ?_, a2.imp fun _ _ h => h.firm fs, upd_same, ?_⟩
          · rw [upd_ne nbs]
            exact hb2
          · rw [upd_ne ngs]
            exact hg2
          · show StandM n (gs ++ [pr]) (putK kvs (kP pr) (.int (2 * (n + (((ws ++ [V.ref t]).length : Nat) : Int)))))
            rw [el]
            exact hS.put m
        · rw [upd_ne nts]
          exact kt2
    · rintro σ H2 ⟨rfl, k2, f2, hB2, kt2⟩
      obtain ⟨dx2, ws2, kvs2, hb2, hg2, ha2, hs2, hS2⟩ := id hB2
      have ev : valV kvs2 (kP pr) = some (.int (gated n gs pr).2) := by
        rw [hS2.2 pr]
        unfold gated
        by_cases m : pr ∈ gs
        · rw [if_pos m, if_pos m]
        · rw [if_neg m, if_pos (List.mem_append_right _ List.mem_cons_self)]
          show some (V.int (2 * (n + ix pr (gs ++ [pr]) + 1))) = _
          rw [ix_new m]
      refine ⟨_, rfl, b, B, dx2, _, _, rfl, hb2, T.cl, T.nS, fB_S _ _ _, _, rfl, sd, _, rfl, ev ▸ DGet.t (k := kP pr) hs2 kt2, q H2 k2 f2 hB2⟩
end
end Bd
namespace Be
open PySem PySem.Spec PyProof.Rows L2 Pen Dat Ki Fi Gr Bd
/-! ## What is built of and_of -/
def orM (n : Int) (gs : List (Int × Int)) (a b : Int) : List (Int × Int) × Int := ((andM n gs (flp a) (flp b)).1, flp (andM n gs (flp a) (flp b)).2)
def xorM (n : Int) (gs : List (Int × Int)) (a b : Int) : List (Int × Int) × Int :=
  andM n (andM n (andM n gs a b).1 (flp a) (flp b)).1 (flp (andM n gs a b).2) (flp (andM n (andM n gs a b).1 (flp a) (flp b)).2)
def choiceM (n : Int) (gs : List (Int × Int)) (c a b : Int) : List (Int × Int) × Int :=
  orM n (andM n (andM n gs c a).1 (flp c) b).1 (andM n gs c a).2 (andM n (andM n gs c a).1 (flp c) b).2
theorem flp_nn {l : Int} (h : 0 ≤ l) : 0 ≤ flp l := by
  unfold flp
  omega
theorem andM_len (n : Int) (gs : List (Int × Int)) (a b : Int) : (andM n gs a b).1.length ≤ gs.length + 1 := by
  unfold Bd.andM gated
  split
  · exact Nat.le_succ _
  split
  · exact Nat.le_succ _
  split
  · exact Nat.le_succ _
  split
  · exact Nat.le_succ _
  · rw [List.length_append]
    exact Nat.le_refl _
theorem andM_nn {n : Int} (gs : List (Int × Int)) {a b : Int} (n0 : 0 ≤ n) (a0 : 0 ≤ a) (b0 : 0 ≤ b) : 0 ≤ (andM n gs a b).2 := by
  unfold Bd.andM gated
  split
  · exact Int.le_refl _
  split
  · exact b0
  split
  · exact a0
  split
  · show 0 ≤ 2 * (n + (ix (ordP a b) gs : Int) + 1)
    omega
  · show 0 ≤ 2 * (n + (gs.length : Int) + 1)
    omega
theorem But2.trans {p q : Addr} {H H1 H2 : Hp} (a : But2 p q H H1) (b : But2 p q H1 H2) : But2 p q H H2 := fun c o e h k => b c o (a c o e h k) h k
structure Ty (K : PySem.W.Frag) (mg : Str → Option Value) (B : Addr) (fA : Addr) : Prop where
  t : Bd.Tx K mg B
  me : Meth K B "and_of" fA
section
variable {P : Program} {w : World} {K : PySem.W.Frag} {mg : Str → Option Value} {base : Heap} {f B fA : Addr} {fd dA : FuncData}
theorem lk (n : Int) (gl sd : Addr) : (fB n gl sd).lookup ("and_of" : Str) = none := by
  have a : ¬ (("and_of" : Str) = "standing") := by decide +kernel
  have b : ¬ (("and_of" : Str) = "gates") := by decide +kernel
  have c : ¬ (("and_of" : Str) = "leaves") := by decide +kernel
  unfold fB
  rw [lookup_putF, if_neg a, lookup_putF, if_neg b, lookup_putF, if_neg c]
  rfl
end
end Be
namespace Bf
open PySem PySem.Spec PyProof.Rows L2 Pen Dat Ki Fi Gr No Bd Be
def ledL (xs : List Int) (a : Int) : Int := if a % 2 = 1 then flp (xs.getD (a / 2).toNat 0) else xs.getD (a / 2).toNat 0
theorem xor_nil {l : Int} (h : 0 ≤ l) : Builtin.bitXor l 0 = l := by
  obtain ⟨n, rfl⟩ := Int.eq_ofNat_of_zero_le h
  rw [Bits.bitXor_pp h (by decide)]
  show ((n ^^^ 0 : Nat) : Int) = n
  rw [Nat.xor_zero]
abbrev sBInit : Stmt := inClass cBuild 0
abbrev sBGraph : Stmt := inClass cBuild 1
def spBInit (K : PySem.W.Frag) (B : Addr) : Sp := fun vs H Q _ => ∃ (p dx : Addr) (n : Int), vs = [.ref p, .int n] ∧ H p = some (.ins B dx []) ∧ 0 ≤ n ∧ ∀ H' gl sd, (∀ b o, H b = some o → b ≠ p → H' b = some o) → BAt K B H' p gl sd n [] → H gl = none → H sd = none → Q .non H'
def spBGraph (K : PySem.W.Frag) (C B : Addr) : Sp := fun vs H Q _ => ∃ (p gl sd : Addr) (n : Int) (gs : List (Int × Int)), vs = [.ref p] ∧ BAt K B H p gl sd n gs ∧ 0 ≤ n ∧ gs.length ≤ 1000 ∧ okG (2 * n + 1) gs = true ∧ ∀ H' x, Same H H' → GraphAt K C H' x n gs → Q (.ref x) H'
def spLitIn (K : PySem.W.Frag) : Sp := fun vs H Q _ => ∃ (l : Addr) (xs : List Int) (a : Int), vs = [.ref l, .int a] ∧ SqL K H l (xs.map V.int) ∧ 0 ≤ a ∧ (a / 2).toNat < xs.length ∧ (∀ z ∈ xs, 0 ≤ z) ∧ Q (.int (ledL xs a)) H
section
variable {P : Program} {w : World} {K : PySem.W.Frag} {mg : Str → Option Value} {base : Heap} {f B C fA : Addr} {fd dA : FuncData}
theorem scBInit : FnScope ["self", "leaves"] ["self", "leaves"] (defScope sBInit) := ⟨rfl, rfl, rfl, by decide +kernel, rfl, by decide +kernel, by decide +kernel⟩
theorem scBGraph : FnScope ["self"] ["self"] (defScope sBGraph) := ⟨rfl, rfl, rfl, by decide +kernel, rfl, by decide +kernel, by decide +kernel⟩
theorem scLitIn : FnScope ["places", "literal"] ["places", "literal"] (defScope sLitIn) := ⟨rfl, rfl, rfl, by decide +kernel, rfl, by decide +kernel, by decide +kernel⟩
abbrev FnBI (K : PySem.W.Frag) (f : Addr) (fd : FuncData) : Prop := FunD K "__init__" "Builder.__init__" (defArgs sBInit) (defBody sBInit) (defScope sBInit) [] [] f fd
abbrev FnBG (K : PySem.W.Frag) (f : Addr) (fd : FuncData) : Prop := FunD K "graph" "Builder.graph" (defArgs sBGraph) (defBody sBGraph) (defScope sBGraph) [] [] f fd
theorem ok_litin (F : FnP K "literal_in" sLitIn f fd) : FnOk P w K mg base CX0 1 f fd ["places", "literal"] (spLitIn K) := by
  refine F.ok scLitIn (fun vs H Q E h => ?_) (fun cdv A outer s H vs Q E hr h => ?_)
  · obtain ⟨l, xs, a, rfl, _⟩ := h
    rfl
  · obtain ⟨l, xs, a, rfl, hl, a0, a1, x0, q⟩ := h
    refine ⟨_, PSs.nox (pss_one (ps_ret (pe_op op_xor (pe_ix ix_list (pv 0) (pe_op op_shr (pv 1) pe_int) (fun _ _ => rfl)) (pe_op op_and (pv 1) pe_int)))), ?_⟩
    have e : a / 2 ^ (1 : Int).toNat = (((a / 2).toNat : Nat) : Int) := by
      show a / 2 = _
      omega
    have g0 : 0 ≤ xs.getD (a / 2).toNat 0 := by
      rw [List.getD_eq_getElem?_getD, List.getElem?_eq_getElem a1]
      exact x0 _ (List.getElem_mem a1)
    refine ⟨_, rfl, _, rfl, _, _, rfl, rfl, (by show (0 : Int) ≤ 1; decide), l, _, _, _, rfl, rfl, hl, at_of e (getD_of a1), _, rfl, _, _, rfl, rfl, _, _, rfl, rfl, ?_⟩
    have z : Builtin.bitXor (xs.getD (a / 2).toNat 0) (Builtin.bitAnd a 1) = ledL xs a := by
      rw [bitAnd_m1]
      unfold ledL
      by_cases c : a % 2 = 1
      · rw [if_pos c, c, xor_one g0]
      · rw [if_neg c, show a % 2 = 0 by omega, xor_nil g0]
    show Q (V.int (Builtin.bitXor (xs.getD (a / 2).toNat 0) (Builtin.bitAnd a 1))) H
    rw [z]
    exact q
theorem ok_bgraph {fI : Addr} {dI : FuncData} (F : FnBG K f fd) (T : Bd.Tx K mg B) (G : Gr.Tx K mg C) (MG : Mk K C fI) (GI : FnOk P w K mg base CX0 4 fI dI ["self", "leaves", "gates"] (spInit K C)) (bI : Binds K dI ["self", "leaves", "gates"] []) : FnOk P w K mg base CX0 6 f fd ["self"] (spBGraph K C B) := by
  refine F.ok scBGraph (fun vs H Q E h => ?_) (fun cdv A outer s H vs Q E hr h => ?_)
  · obtain ⟨p, gl, sd, n, gs, rfl, _⟩ := h
    rfl
  · obtain ⟨p, gl, sd, n, gs, rfl, hB, n0, hz, hok, q⟩ := h
    refine ⟨_, PSs.nox (pss_one (ps_ret (pe_make MG GI (hr.mono (by decide)) (by rfl) G.mgC bI .nil pass0 (pa_cons (pe_fld (pv 0) rfl) (pa_cons (pe_fld (pv 0) rfl) pa_nil))))), ?_⟩
    obtain ⟨dx, ws, kvs, hb, hg, ha, hs, hS⟩ := hB
    refine ⟨_, rfl, p, B, dx, _, _, rfl, hb, T.cl, T.nL, fB_L _ _ _, _, rfl, p, B, dx, _, _, rfl, hb, T.cl, T.nG, fB_G _ _ _, fun x dy nx nd _ => ?_⟩
    have s1 : Same H (upd (upd H dy (.own x)) x (.ins C dy [])) := fun b o e => by
      rw [upd_ne (ne_of_none e nx), upd_ne (ne_of_none e nd)]
      exact e
    exact ⟨x, dy, n, .ref gl, gs, rfl, upd_same, n0, ⟨gl, ws, rfl, .inl (SqL.of (s1 _ _ hg)), ha.imp fun _ _ h => (h.firm (Firm.of s1)).pr⟩, hz, hok, fun H2 k2 g2 => ⟨rfl, q H2 x (Same.made nx nd k2) g2⟩⟩
theorem ok_binit {fN : Addr} {dN : FuncData} (F : FnBI K f fd) (T : Bd.Tx K mg B) (GN : FnOk P w K mg base CX0 2 fN dN ["leaves"] spNeed) (gN : mg "need_leaves" = some (.ref fN)) (kN : PySem.W.keepIn K (.ref fN) = true) (bN : Binds K dN ["leaves"] []) : FnOk P w K mg base CX0 3 f fd ["self", "leaves"] (spBInit K B) := by
  refine F.ok scBInit (fun vs H Q E h => ?_) (fun cdv A outer s H vs Q E hr h => ?_)
  · obtain ⟨p, dx, n, rfl, _⟩ := h
    rfl
  · obtain ⟨p, dx, n, rfl, hp, n0, q⟩ := h
    refine ⟨_, PSs.nox (pss_cons (ps_expr (pe_call GN hr (by rfl) gN kN bN .nil pass0 (pa_cons (pv 1) pa_nil)))
      (pss_cons (ps_fld (pv 0) (pv 1) rfl) (pss_cons (ps_fld (pv 0) (pe_lst pa_nil) rfl) (pss_one (ps_fld (pv 0) pe_dnewT rfl))))), ?_⟩
    refine ⟨_, rfl, n, rfl, n0, ?_⟩
    refine ⟨_, rfl, _, rfl, p, B, dx, _, rfl, hp, T.cl, T.nL, (by show 0 < 1000; decide), ?_⟩
    refine ⟨(by show 0 ≤ sizeLine; decide), fun gl ngl => ?_⟩
    have npg : gl ≠ p := fun e => by
      rw [e, upd_same] at ngl
      cases ngl
    refine ⟨_, rfl, p, B, dx, _, rfl, (by rw [upd_ne npg.symm, upd_same]), T.cl, T.nG, (by show 1 < 1000; decide), ?_⟩
    intro sd nsd
    have nps : sd ≠ p := fun e => by
      rw [e, upd_same] at nsd
      cases nsd
    have ngs : gl ≠ sd := fun e => by
      rw [← e, upd_ne npg, upd_same] at nsd
      cases nsd
    refine ⟨_, rfl, p, B, dx, _, rfl, (by rw [upd_ne nps.symm, upd_same]), T.cl, T.nS, (by show 2 < 1000; decide), ?_⟩
    have hgl : H gl = none := by
      rw [upd_ne npg] at ngl
      exact ngl
    have hsd : H sd = none := by
      rw [upd_ne nps, upd_ne ngs.symm, upd_ne nps] at nsd
      exact nsd
    refine q _ gl sd (fun b o e ne => ?_) ⟨dx, [], [], upd_same, ?_, .nil, ?_, rfl, fun _ => rfl⟩ hgl hsd
    · rw [upd_ne ne, upd_ne (fun z => by rw [z, hsd] at e; cases e), upd_ne ne, upd_ne (fun z => by rw [z, hgl] at e; cases e), upd_ne ne]
      exact e
    · rw [upd_ne npg, upd_ne ngs, upd_ne npg, upd_same]
    · rw [upd_ne nps, upd_same]
end
end Bf
namespace Bg
open PySem PySem.Spec PyProof.Rows L2 Pen Dat Ki Fi Gr No Bd Be Bf
/-! ## A graph put into a builder -/
def putStep (n : Int) (s : List (Int × Int) × List Int) (p : Int × Int) : List (Int × Int) × List Int :=
  ((Bd.andM n s.1 (ledL s.2 p.1) (ledL s.2 p.2)).1, s.2 ++ [(Bd.andM n s.1 (ledL s.2 p.1) (ledL s.2 p.2)).2])
def putM (n : Int) (gs : List (Int × Int)) (ls : List Int) (hs : List (Int × Int)) : List (Int × Int) × List Int := hs.foldl (putStep n) (gs, 0 :: ls)
theorem ledL_nn {xs : List Int} (h : ∀ z ∈ xs, 0 ≤ z) (a : Int) : 0 ≤ ledL xs a := by
  have g0 : 0 ≤ xs.getD (a / 2).toNat 0 := by
    rw [List.getD_eq_getElem?_getD]
    cases e : xs[(a / 2).toNat]? with
    | none => exact Int.le_refl _
    | some u => exact h _ (List.mem_of_getElem? e)
  unfold ledL
  split
  · exact flp_nn g0
  · exact g0
def spPut (K : PySem.W.Frag) (C B : Addr) : Sp := fun vs H Q _ => ∃ (b gl sd x t : Addr) (v : V) (n : Int) (m : Nat) (gs hs : List (Int × Int)) (ls as : List Int), vs = [.ref b, .ref x, v, .ref t] ∧ BAt K B H b gl sd n gs ∧ GraphAt K C H x m hs ∧ SeqI K H v ls ∧ ((SqL K H t (as.map V.int) ∧ ∀ H', But2 gl sd H H' → SqL K H' t (as.map V.int)) ∨ SqT K H t (as.map V.int)) ∧
  0 ≤ n ∧ ls.length = m ∧ m ≤ 500 ∧ gs.length + hs.length ≤ 3900 ∧ (∀ z ∈ ls, 0 ≤ z) ∧ okG (2 * (m : Int) + 1) hs = true ∧ (∀ a ∈ as, 0 ≤ a ∧ (a / 2).toNat < 1 + m + hs.length) ∧ as.length ≤ 1000 ∧
  ∀ H' t', But2 gl sd H H' → Firm H H' → BAt K B H' b gl sd n (putM n gs ls hs).1 → H' t' = some (.tup ((as.map (ledL (putM n gs ls hs).2)).map V.int)) → Q (.ref t') H'
section
variable {P : Program} {w : World} {K : PySem.W.Frag} {mg : Str → Option Value} {base : Heap} {f B C fA : Addr} {fd dA : FuncData}
abbrev puN : List Str := ["builder", "graph", "leaves", "literals", "places", "one", "other", "literal"]
theorem scPut : FnScope puN ["builder", "graph", "leaves", "literals"] (defScope sPut) := ⟨rfl, rfl, rfl, by decide +kernel, rfl, by decide +kernel, by decide +kernel⟩
theorem BAt.fresh {H : Hp} {b gl sd l : Addr} {n : Int} {gs : List (Int × Int)} {o : HO} (h : BAt K B H b gl sd n gs) (nb : b ≠ l) (n1 : gl ≠ l) (n2 : sd ≠ l) (f : Firm H (upd H l o)) : BAt K B (upd H l o) b gl sd n gs := by
  obtain ⟨dx, ws, kvs, h1, h2, h3, h4, h5⟩ := h
  exact ⟨dx, ws, kvs, by rw [upd_ne nb]; exact h1, by rw [upd_ne n1]; exact h2, h3.imp fun _ _ h => h.firm f, by rw [upd_ne n2]; exact h4, h5⟩
theorem ok_put {fL : Addr} {dL : FuncData} (F : FnP K "put_into" sPut f fd) (T : Ty K mg B fA) (G : Gr.Tx K mg C) (GA : FnOk P w K mg base CX0 1 fA dA ["self", "one", "other"] (spAnd K B)) (bA : Binds K dA ["self", "one", "other"] []) (FL : FnP K "literal_in" sLitIn fL dL) (gL : mg "literal_in" = some (.ref fL)) :
    FnOk P w K mg base CX0 2 f fd ["builder", "graph", "leaves", "literals"] (spPut K C B) := by
  have GL : FnOk P w K mg base CX0 1 fL dL ["places", "literal"] (spLitIn K) := ok_litin FL
  have bL : Binds K dL ["places", "literal"] [] := FL.bindsN fun _ _ _ _ _ _ us hl => match us, hl with | [_, _], _ => rfl
  refine F.ok scPut (fun vs H Q E h => ?_) (fun cdv A outer s H vs Q E hr h => ?_)
  · obtain ⟨b, gl, sd, x, t, v, n, m, gs, hs, ls, as, rfl, _⟩ := h
    rfl
  · obtain ⟨b, gl, sd, x, t, v, n, m, gs, hs, ls, as, rfl, hB, hG, hv, ht, n0, lm, m5, hz, l0, hok, has, asl, q⟩ := h
    rcases ht with ht | ht
    · refine ⟨_, PSs.nox (pss_cons (ps_set (i := 4) scPut.nd rfl (Or.inr rfl) (pe_lst (pa_cons pe_int (StX.pa_star (pv 2) pa_nil))))
        (pss_cons (ps_for PassesOwn.never rfl (pi_tup (pe_fld (pv 1) rfl)) (pg_tup rfl (pgs_cons (pg_name (i := 5) scPut.nd rfl (Or.inl rfl)) (pgs_cons (pg_name (i := 6) scPut.nd rfl (Or.inl rfl)) pgs_nil)))
          (pss_one (ps_expr (pe_bm PySem.F.plainAttrs_list PySem.F.slot_list_append PySem.F.type_list_append mt_append (pv 4) (pa_cons (pe_meth (pv 0) T.t.cl T.me GA hr bA .nil pass0 (pa_cons
            (pe_call GL hr (by rfl) gL FL.kp bL .nil pass0 (pa_cons (pv 4) (pa_cons (pv 5) pa_nil))) (pa_cons
            (pe_call GL hr (by rfl) gL FL.kp bL .nil pass0 (pa_cons (pv 4) (pa_cons (pv 6) pa_nil))) pa_nil))) pa_nil)))))
        (pss_one (ps_ret (pe_callTy call_tuple_of (by rfl) T.t.ki.tuple (by decide +kernel) (pa_cons
          (pe_lc (own := [("literal", 7)]) (g := gName 7) (tt := tYes) rfl scPut.nd (pi_list (pv 3)) (blkOk_by (N := puN) (sc := defScope sPut) (by decide +kernel)) (fun _ _ _ _ _ => pg_name (i := 7) scPut.nd rfl (Or.inl rfl)) (fun _ _ _ _ _ => pts_nil)
            (fun _ _ _ _ _ => pe_call GL hr (by rfl) gL FL.kp bL .nil pass0 (pa_cons (pv 4) (pa_cons (pv 7) pa_nil)))) pa_nil)))))), ?_⟩
      obtain ⟨r, rfl, hr2⟩ := hv
      obtain ⟨dg, g, x1, ps, hg, ha⟩ := id hG
      obtain ⟨dx, ws, kvs, hb, hgl, hws, hsd, hS⟩ := id hB
      refine ⟨_, rfl, r, _, rfl, hr2.symm, ?_, fun l nl => ?_⟩
      · show (V.int 0 :: (ls.map V.int ++ [])).length ≤ sizeLine
        rw [List.append_nil, List.length_cons, List.length_map]
        exact Nat.le_trans (Nat.succ_le_succ (by omega : ls.length ≤ 500)) (by decide)
      have sl : Same H (upd H l (.lst (V.int 0 :: (ls.map V.int ++ [])))) := same_new nl
      have nbl : b ≠ l := ne_of_none hb nl
      have ngl : gl ≠ l := ne_of_none hgl nl
      have nsl : sd ≠ l := ne_of_none hsd nl
      have fl0 := Firm.of sl
      refine ⟨_, rfl, x, C, dg, _, _, rfl, sl _ _ x1, G.cl, G.nG, flds_G _ _, g, rfl, ⟨_, seqT_same sl hg⟩, for_tup (K := K) (a := g) (xs := ps)
        (fun i σ H2 => ∃ (u w : Option V), σ = [some (.ref b), some (.ref x), some (.ref r), some (.ref t), some (.ref l), u, w, none] ∧ But2 gl sd H H2 ∧ Firm H H2 ∧ BAt K B H2 b gl sd n (putM n gs ls (hs.take i)).1 ∧
          H2 l = some (.lst ((putM n gs ls (hs.take i)).2.map V.int)) ∧ (putM n gs ls (hs.take i)).2.length = 1 + m + i ∧ (∀ z ∈ (putM n gs ls (hs.take i)).2, 0 ≤ z) ∧ (putM n gs ls (hs.take i)).1.length ≤ gs.length + i)
        ⟨none, none, rfl, fun b o e _ _ => sl _ _ e, fl0, BAt.fresh hB nbl ngl nsl fl0, ?_, ?_, ?_, Nat.le_refl _⟩ (fun i σ H2 _ ⟨_, _, _, _, f2, _⟩ => firm_seq f2 hg) ?_ ?_⟩
      · rw [upd_same, List.append_nil]
        rfl
      · show (0 :: ls).length = _
        rw [List.length_cons, lm]
        omega
      · intro z hz
        rcases List.mem_cons.mp hz with rfl | hz
        · exact Int.le_refl _
        · exact l0 z hz
      · rintro i y σ H2 hi ⟨u, w, rfl, k2, f2, B2, h2, len2, nn2, gl2⟩
        obtain ⟨z, hz1, hz2⟩ := ha.get hi
        obtain ⟨q0, rfl, hq⟩ := hz2
        obtain ⟨⟨a0, a1⟩, b0, b1⟩ := okG_at hok hz1
        have hil : i < hs.length := (List.getElem?_eq_some_iff.mp hz1).1
        obtain ⟨dx2, ws2, kvs2, hb2, _⟩ := id B2
        have st : putM n gs ls (hs.take (i + 1)) = putStep n (putM n gs ls (hs.take i)) z := by
          unfold putM
          rw [take_more hz1, List.foldl_append]
          rfl
        generalize putM n gs ls (hs.take i) = S at B2 h2 len2 nn2 gl2 st
        refine ⟨q0, _, rfl, firm_seq f2 hq, rfl, _, _, rfl, _, _, rfl, rfl, ?_⟩
        refine ⟨_, rfl, .inl ⟨rfl, _, SqL.of h2⟩, _, rfl, b, dx2, _, rfl, hb2, lk _ _ _, _, rfl, _, rfl, l, S.2, z.1, rfl, SqL.of h2, a0, by omega, nn2, _, rfl, _, rfl, l, S.2, z.2, rfl, SqL.of h2, b0, by omega, nn2, ?_⟩
        have e1 := ledL_nn nn2 z.1
        have e2 := ledL_nn nn2 z.2
        have al := andM_len n S.1 (ledL S.2 z.1) (ledL S.2 z.2)
        have an := andM_nn S.1 n0 e1 e2
        refine ⟨b, gl, sd, n, ledL S.2 z.1, ledL S.2 z.2, S.1, rfl, B2, by omega, e1, e2, fun H3 k3 f3 B3 => ?_⟩
        have h3 := k3 _ _ h2 ngl.symm nsl.symm
        have f4 := Firm.upd (o := .lst (S.2.map V.int ++ [V.int (Bd.andM n S.1 (ledL S.2 z.1) (ledL S.2 z.2)).2])) h3 rfl
        refine ⟨l, _, _, rfl, rfl, h3, ?_, ?_⟩
        · rw [List.length_map, len2]
          exact Nat.lt_of_lt_of_le (by omega : 1 + m + i < 5000) (by decide)
        · rw [st]
          refine ⟨_, _, rfl, fun c o e n1 n2 => ?_, f2.trans (f3.trans f4), BAt.fresh B3 nbl ngl nsl f4, ?_, ?_, ?_, ?_⟩
          · rw [upd_ne (ne_of_none e nl)]
            exact k3 _ _ (k2 _ _ e n1 n2) n1 n2
          · rw [upd_same]
            show _ = some (HO.lst ((S.2 ++ [_]).map V.int))
            rw [List.map_append]
            rfl
          · show (S.2 ++ [_]).length = _
            rw [List.length_append, len2]
            rfl
          · intro c hc
            rcases List.mem_append.mp hc with hc | hc
            · exact nn2 c hc
            · rw [List.mem_singleton.mp hc]
              exact an
          · show (Bd.andM n S.1 (ledL S.2 z.1) (ledL S.2 z.2)).1.length ≤ _
            omega
      · rintro σ H2 ⟨u, w, rfl, k2, f2, B2, h2, len2, nn2, gl2⟩
        rw [ha.len, List.take_length] at B2 h2 len2 nn2 gl2
        have ht2 := ht.2 H2 k2
        refine ⟨_, rfl, t, rfl, ⟨_, ht2⟩, fun D nD => ?_⟩
        refine lc_list (K := K) (a := t) (xs := as.map V.int) (fun j H3 => Same H2 H3 ∧ H3 D = some (.lst (((as.take j).map (ledL (putM n gs ls hs).2)).map V.int))) ⟨same_new nD, upd_same⟩ (fun j H3 _ ⟨s3, _⟩ => s3.seq ht2) ?_ ?_
        · rintro j y H3 hj ⟨s3, h3⟩
          rw [List.getElem?_map] at hj
          cases ej : as[j]? with
          | none =>
            rw [ej] at hj
            cases hj
          | some a =>
            rw [ej] at hj
            have hj : V.int a = y := Option.some.inj hj
            subst hj
            obtain ⟨p1, p2⟩ := has a (List.mem_of_getElem? ej)
            refine ⟨rfl, yes_of ?_⟩
            refine ⟨_, rfl, _, rfl, l, _, a, rfl, SqL.of (s3 _ _ h2), p1, by omega, nn2, _, h3, ?_, fun c o e => ?_, ?_⟩
            · rw [List.length_map, List.length_map]
              exact Nat.lt_of_le_of_lt (List.length_take_le' _ _) (Nat.lt_of_le_of_lt asl (by decide))
            · rw [upd_ne (ne_of_none e nD)]
              exact s3 _ _ e
            · rw [upd_same, take_more ej, List.map_append, List.map_append]
              rfl
        · rintro H3 ⟨s3, h3⟩
          rw [List.length_map, List.take_length] at h3
          refine ⟨D, _, rfl, .inl ⟨SqL.of h3, fun t9 nt9 => ?_⟩⟩
          have s9 := same_new (u := .tup ((as.map (ledL (putM n gs ls hs).2)).map V.int)) nt9
          have s39 := s3.trans s9
          obtain ⟨dx2, ws2, kvs2, p1, p2, p3, p4, p5⟩ := B2
          exact q _ t9 (fun c o e n1 n2 => s39 _ _ (k2 _ _ e n1 n2)) (f2.trans (Firm.of s39)) ⟨dx2, ws2, kvs2, s39 _ _ p1, s39 _ _ p2, p3.imp fun _ _ h => h.firm (Firm.of s39), s39 _ _ p4, p5⟩ upd_same
    · refine ⟨_, PSs.nox (pss_cons (ps_set (i := 4) scPut.nd rfl (Or.inr rfl) (pe_lst (pa_cons pe_int (StX.pa_star (pv 2) pa_nil))))
        (pss_cons (ps_for PassesOwn.never rfl (pi_tup (pe_fld (pv 1) rfl)) (pg_tup rfl (pgs_cons (pg_name (i := 5) scPut.nd rfl (Or.inl rfl)) (pgs_cons (pg_name (i := 6) scPut.nd rfl (Or.inl rfl)) pgs_nil)))
          (pss_one (ps_expr (pe_bm PySem.F.plainAttrs_list PySem.F.slot_list_append PySem.F.type_list_append mt_append (pv 4) (pa_cons (pe_meth (pv 0) T.t.cl T.me GA hr bA .nil pass0 (pa_cons
            (pe_call GL hr (by rfl) gL FL.kp bL .nil pass0 (pa_cons (pv 4) (pa_cons (pv 5) pa_nil))) (pa_cons
            (pe_call GL hr (by rfl) gL FL.kp bL .nil pass0 (pa_cons (pv 4) (pa_cons (pv 6) pa_nil))) pa_nil))) pa_nil)))))
        (pss_one (ps_ret (pe_callTy call_tuple_of (by rfl) T.t.ki.tuple (by decide +kernel) (pa_cons
          (pe_lc (own := [("literal", 7)]) (g := gName 7) (tt := tYes) rfl scPut.nd (pi_tup (pv 3)) (blkOk_by (N := puN) (sc := defScope sPut) (by decide +kernel)) (fun _ _ _ _ _ => pg_name (i := 7) scPut.nd rfl (Or.inl rfl)) (fun _ _ _ _ _ => pts_nil)
            (fun _ _ _ _ _ => pe_call GL hr (by rfl) gL FL.kp bL .nil pass0 (pa_cons (pv 4) (pa_cons (pv 7) pa_nil)))) pa_nil)))))), ?_⟩
      obtain ⟨r, rfl, hr2⟩ := hv
      obtain ⟨dg, g, x1, ps, hg, ha⟩ := id hG
      obtain ⟨dx, ws, kvs, hb, hgl, hws, hsd, hS⟩ := id hB
      refine ⟨_, rfl, r, _, rfl, hr2.symm, ?_, fun l nl => ?_⟩
      · show (V.int 0 :: (ls.map V.int ++ [])).length ≤ sizeLine
        rw [List.append_nil, List.length_cons, List.length_map]
        exact Nat.le_trans (Nat.succ_le_succ (by omega : ls.length ≤ 500)) (by decide)
      have sl : Same H (upd H l (.lst (V.int 0 :: (ls.map V.int ++ [])))) := same_new nl
      have nbl : b ≠ l := ne_of_none hb nl
      have ngl : gl ≠ l := ne_of_none hgl nl
      have nsl : sd ≠ l := ne_of_none hsd nl
      have fl0 := Firm.of sl
      refine ⟨_, rfl, x, C, dg, _, _, rfl, sl _ _ x1, G.cl, G.nG, flds_G _ _, g, rfl, ⟨_, seqT_same sl hg⟩, for_tup (K := K) (a := g) (xs := ps)
        (fun i σ H2 => ∃ (u w : Option V), σ = [some (.ref b), some (.ref x), some (.ref r), some (.ref t), some (.ref l), u, w, none] ∧ But2 gl sd H H2 ∧ Firm H H2 ∧ BAt K B H2 b gl sd n (putM n gs ls (hs.take i)).1 ∧
          H2 l = some (.lst ((putM n gs ls (hs.take i)).2.map V.int)) ∧ (putM n gs ls (hs.take i)).2.length = 1 + m + i ∧ (∀ z ∈ (putM n gs ls (hs.take i)).2, 0 ≤ z) ∧ (putM n gs ls (hs.take i)).1.length ≤ gs.length + i)
        ⟨none, none, rfl, fun b o e _ _ => sl _ _ e, fl0, BAt.fresh hB nbl ngl nsl fl0, ?_, ?_, ?_, Nat.le_refl _⟩ (fun i σ H2 _ ⟨_, _, _, _, f2, _⟩ => firm_seq f2 hg) ?_ ?_⟩
      · rw [upd_same, List.append_nil]
        rfl
      · show (0 :: ls).length = _
        rw [List.length_cons, lm]
        omega
      · intro z hz
        rcases List.mem_cons.mp hz with rfl | hz
        · exact Int.le_refl _
        · exact l0 z hz
      · rintro i y σ H2 hi ⟨u, w, rfl, k2, f2, B2, h2, len2, nn2, gl2⟩
        obtain ⟨z, hz1, hz2⟩ := ha.get hi
        obtain ⟨q0, rfl, hq⟩ := hz2
        obtain ⟨⟨a0, a1⟩, b0, b1⟩ := okG_at hok hz1
        have hil : i < hs.length := (List.getElem?_eq_some_iff.mp hz1).1
        obtain ⟨dx2, ws2, kvs2, hb2, _⟩ := id B2
        have st : putM n gs ls (hs.take (i + 1)) = putStep n (putM n gs ls (hs.take i)) z := by
          unfold putM
          rw [take_more hz1, List.foldl_append]
          rfl
        generalize putM n gs ls (hs.take i) = S at B2 h2 len2 nn2 gl2 st
        refine ⟨q0, _, rfl, firm_seq f2 hq, rfl, _, _, rfl, _, _, rfl, rfl, ?_⟩
        refine ⟨_, rfl, .inl ⟨rfl, _, SqL.of h2⟩, _, rfl, b, dx2, _, rfl, hb2, lk _ _ _, _, rfl, _, rfl, l, S.2, z.1, rfl, SqL.of h2, a0, by omega, nn2, _, rfl, _, rfl, l, S.2, z.2, rfl, SqL.of h2, b0, by omega, nn2, ?_⟩
        have e1 := ledL_nn nn2 z.1
        have e2 := ledL_nn nn2 z.2
        have al := andM_len n S.1 (ledL S.2 z.1) (ledL S.2 z.2)
        have an := andM_nn S.1 n0 e1 e2
        refine ⟨b, gl, sd, n, ledL S.2 z.1, ledL S.2 z.2, S.1, rfl, B2, by omega, e1, e2, fun H3 k3 f3 B3 => ?_⟩
        have h3 := k3 _ _ h2 ngl.symm nsl.symm
        have f4 := Firm.upd (o := .lst (S.2.map V.int ++ [V.int (Bd.andM n S.1 (ledL S.2 z.1) (ledL S.2 z.2)).2])) h3 rfl
        refine ⟨l, _, _, rfl, rfl, h3, ?_, ?_⟩
        · rw [List.length_map, len2]
          exact Nat.lt_of_lt_of_le (by omega : 1 + m + i < 5000) (by decide)
        · rw [st]
          refine ⟨_, _, rfl, fun c o e n1 n2 => ?_, f2.trans (f3.trans f4), BAt.fresh B3 nbl ngl nsl f4, ?_, ?_, ?_, ?_⟩
          · rw [upd_ne (ne_of_none e nl)]
            exact k3 _ _ (k2 _ _ e n1 n2) n1 n2
          · rw [upd_same]
            show _ = some (HO.lst ((S.2 ++ [_]).map V.int))
            rw [List.map_append]
            rfl
          · show (S.2 ++ [_]).length = _
            rw [List.length_append, len2]
            rfl
          · intro c hc
            rcases List.mem_append.mp hc with hc | hc
            · exact nn2 c hc
            · rw [List.mem_singleton.mp hc]
              exact an
          · show (Bd.andM n S.1 (ledL S.2 z.1) (ledL S.2 z.2)).1.length ≤ _
            omega
      · rintro σ H2 ⟨u, w, rfl, k2, f2, B2, h2, len2, nn2, gl2⟩
        rw [ha.len, List.take_length] at B2 h2 len2 nn2 gl2
        have ht2 := firm_seq f2 ht
        refine ⟨_, rfl, t, rfl, ⟨_, ht2⟩, fun D nD => ?_⟩
        refine lc_tup (K := K) (a := t) (xs := as.map V.int) (fun j H3 => Same H2 H3 ∧ H3 D = some (.lst (((as.take j).map (ledL (putM n gs ls hs).2)).map V.int))) ⟨same_new nD, upd_same⟩ (fun j H3 _ ⟨s3, _⟩ => seqT_same s3 ht2) ?_ ?_
        · rintro j y H3 hj ⟨s3, h3⟩
          rw [List.getElem?_map] at hj
          cases ej : as[j]? with
          | none =>
            rw [ej] at hj
            cases hj
          | some a =>
            rw [ej] at hj
            have hj : V.int a = y := Option.some.inj hj
            subst hj
            obtain ⟨p1, p2⟩ := has a (List.mem_of_getElem? ej)
            refine ⟨rfl, yes_of ?_⟩
            refine ⟨_, rfl, _, rfl, l, _, a, rfl, SqL.of (s3 _ _ h2), p1, by omega, nn2, _, h3, ?_, fun c o e => ?_, ?_⟩
            · rw [List.length_map, List.length_map]
              exact Nat.lt_of_le_of_lt (List.length_take_le' _ _) (Nat.lt_of_le_of_lt asl (by decide))
            · rw [upd_ne (ne_of_none e nD)]
              exact s3 _ _ e
            · rw [upd_same, take_more ej, List.map_append, List.map_append]
              rfl
        · rintro H3 ⟨s3, h3⟩
          rw [List.length_map, List.take_length] at h3
          refine ⟨D, _, rfl, .inl ⟨SqL.of h3, fun t9 nt9 => ?_⟩⟩
          have s9 := same_new (u := .tup ((as.map (ledL (putM n gs ls hs).2)).map V.int)) nt9
          have s39 := s3.trans s9
          obtain ⟨dx2, ws2, kvs2, p1, p2, p3, p4, p5⟩ := B2
          exact q _ t9 (fun c o e n1 n2 => s39 _ _ (k2 _ _ e n1 n2)) (f2.trans (Firm.of s39)) ⟨dx2, ws2, kvs2, s39 _ _ p1, s39 _ _ p2, p3.imp fun _ _ h => h.firm (Firm.of s39), s39 _ _ p4, p5⟩ upd_same
end
end Bg
namespace Bo
open PySem PySem.Spec PyProof.Rows L2 Pen Dat Ki Fi Gr Bd Be
/-! ## The law's own and -/
def ownF (n : Int) (gs : List (Int × Int)) (lo hi : Int) : List (Int × Int) × Int := if lo = 0 ∨ flp lo = hi then (gs, 0) else if lo = 1 ∨ lo = hi then (gs, hi) else gated n gs (hi, lo)
theorem own_eq {n : Int} {gs : List (Int × Int)} {x y lo hi : Int} (x0 : 0 ≤ x) (y0 : 0 ≤ y) (hm : (lo = x ∧ hi = y ∧ x ≤ y) ∨ (lo = y ∧ hi = x ∧ y ≤ x)) : ownF n gs lo hi = Bd.andM n gs x y := by
  have h1 : (x = 0 ∨ y = 0 ∨ x = flp y) ↔ (lo = 0 ∨ flp lo = hi) := by
    unfold flp
    omega
  unfold ownF Bd.andM
  by_cases c1 : lo = 0 ∨ flp lo = hi
  · rw [if_pos c1, if_pos (h1.mpr c1)]
  · rw [if_neg c1, if_neg fun z => c1 (h1.mp z)]
    have c0 : ¬ (x = 0 ∨ y = 0 ∨ x = flp y) := fun z => c1 (h1.mp z)
    by_cases c2 : lo = 1 ∨ lo = hi
    · rw [if_pos c2]
      by_cases c3 : x = 1
      · rw [if_pos c3]
        have : hi = y := by omega
        rw [this]
      · rw [if_neg c3, if_pos (by omega)]
        have : hi = x := by omega
        rw [this]
    · rw [if_neg c2, if_neg (by omega), if_neg (by omega)]
      have : ordP x y = (hi, lo) := by
        unfold ordP
        by_cases c : x > y
        · rw [if_pos c]
          have a : hi = x := by omega
          have b : lo = y := by omega
          rw [a, b]
        · rw [if_neg c]
          have a : hi = y := by omega
          have b : lo = x := by omega
          rw [a, b]
      rw [this]
theorem eqv_pD (p q : Int × Int) : PyData.eqv (pD p) (pD q) = decide (p = q) := by
  have e : PyData.eqv (pD p) (pD q) = (decide (p.1 = q.1) && decide (p.2 = q.2)) := by
    simp [pD, PyData.eqv, PyData.eqvAll]
    rfl
  rw [e]
  by_cases c : p = q
  · subst c
    simp
  · rw [decide_eq_false c]
    cases h : decide (p.1 = q.1) with
    | false => rfl
    | true =>
      rw [Bool.true_and]
      exact decide_eq_false fun z => c (Prod.ext (of_decide_eq_true h) z)
theorem any_pD (p : Int × Int) (gs : List (Int × Int)) : ((gs.map pD).any fun z => PyData.eqv z (pD p)) = decide (p ∈ gs) := by
  rw [List.any_map]
  have : ((fun z => PyData.eqv z (pD p)) ∘ pD) = fun q => decide (q = p) := by
    funext q
    exact eqv_pD q p
  rw [this]
  by_cases m : p ∈ gs
  · rw [decide_eq_true m]
    exact List.any_eq_true.mpr ⟨p, m, decide_eq_true rfl⟩
  · rw [decide_eq_false m]
    exact List.any_eq_false.mpr fun q hq e => m (of_decide_eq_true e ▸ hq)
theorem shaped_lD (gs : List (Int × Int)) : SeqAt.shaped (.list (gs.map pD)) = true := by
  have h1 := can_pD gs
  have h2 := deep_pD gs
  show (PyData.canLayAll0 (gs.map pD) && decide (PyData.depthAll (gs.map pD) + 1 ≤ 64)) = true
  rw [h1, decide_eq_true (by omega)]
  rfl
def oD (n : Int) (gl : Addr) : List (Key × V) := [(.inr "leaves", .int n), (.inr "gates", .ref gl)]
def OwnB (K : PySem.W.Frag) (H : Hp) (o gl : Addr) (n : Int) (gs : List (Int × Int)) : Prop := ∃ ws, H o = some (.dK (oD n gl)) ∧ H gl = some (.lst ws) ∧ All2 (Pt K H) ws gs
theorem od_leaves {H : Hp} {o gl : Addr} {n : Int} (h : H o = some (.dK (oD n gl))) : DGet H o (.str "leaves") (some (.int n)) := DGet.k (k := .inr "leaves") h
theorem od_gates {H : Hp} {o gl : Addr} {n : Int} (h : H o = some (.dK (oD n gl))) : DGet H o (.str "gates") (some (.ref gl)) := DGet.k (k := .inr "gates") h
structure Tz (mg : Str → Option Value) : Prop where
  min : mg "min" = none
  max : mg "max" = none
  int : mg "int" = none
def spFlip : Sp := fun vs H Q _ => ∃ l : Int, vs = [.int l] ∧ Q (.int (flp l)) H
def spOwnAnd (K : PySem.W.Frag) : Sp := fun vs H Q _ => ∃ (o gl : Addr) (n x y : Int) (gs : List (Int × Int)), vs = [.ref o, .int x, .int y] ∧ OwnB K H o gl n gs ∧ gs.length ≤ 4000 ∧ 0 ≤ x ∧ 0 ≤ y ∧
  ∀ H', (∀ b u, H b = some u → b ≠ gl → H' b = some u) → Firm H H' → OwnB K H' o gl n (Bd.andM n gs x y).1 → Q (.int (Bd.andM n gs x y).2) H'
section
variable {P : Program} {w : World} {K : PySem.W.Frag} {mg : Str → Option Value} {base : Heap} {f : Addr} {fd : FuncData}
abbrev oaN : List Str := ["_law_own", "_law_one", "_law_other", "_law_low", "_law_high"]
end
end Bo
namespace Bm
open PySem PySem.Spec PyProof.Rows L2 Pen Dat Ki Fi Gr No Lf Cn Bd Be
/-! ## What and_of means -/
theorem ordP_or (a b : Int) : ordP a b = (a, b) ∨ ordP a b = (b, a) := by
  unfold ordP
  split
  · exact .inl rfl
  · exact .inr rfl
theorem step_vals {bs : List Int} {gs : List (Int × Int)} (p : Int × Int) : vals bs (gs ++ [p]) = vals bs gs ++ [lit (vals bs gs) p.1 * lit (vals bs gs) p.2] := by
  unfold vals
  rw [List.foldl_append]
  rfl
theorem vals_pre {bs : List Int} (gs ts : List (Int × Int)) : (vals bs (gs ++ ts)).take (vals bs gs).length = vals bs gs := by
  have e := foldl_pre ts (vals bs gs)
  unfold vals at e ⊢
  rw [List.foldl_append]
  exact e
theorem lit_pre {bs : List Int} (gs ts : List (Int × Int)) {a : Int} (h0 : 0 ≤ a) (h : (a / 2).toNat < 1 + bs.length + gs.length) : lit (vals bs (gs ++ ts)) a = lit (vals bs gs) a := by
  have l := vals_len bs gs
  rw [← vals_pre gs ts, lit_take h0 (by omega)]
theorem lit_new {f : List Int} {w a : Int} (ha : a = 2 * (f.length : Int)) (w0 : 0 ≤ w) : lit (f ++ [w]) a = w := by
  have e1 : (a / 2).toNat = f.length := by omega
  have e2 : a % 2 = 0 := by omega
  unfold lit ab
  rw [e1, e2, List.getD_eq_getElem?_getD, List.getElem?_append_right (Nat.le_refl _), Nat.sub_self]
  show (if w - 0 < 0 then -(w - 0) else w - 0) = w
  rw [if_neg (by omega)]
  omega
/-- the value of a gate that stands -/
theorem gate_val {bs : List Int} {gs : List (Int × Int)} {j : Nat} {p : Int × Int} (h01 : B01 bs) (hok : okG (2 * (bs.length : Int) + 1) gs = true) (h : gs[j]? = some p) :
    lit (vals bs gs) (2 * ((bs.length : Int) + j + 1)) = lit (vals bs gs) p.1 * lit (vals bs gs) p.2 := by
  obtain ⟨hj, ej⟩ := List.getElem?_eq_some_iff.mp h
  obtain ⟨⟨a0, a1⟩, b0, b1⟩ := okG_at hok h
  have sp : gs = (gs.take j ++ [p]) ++ gs.drop (j + 1) := by
    rw [← take_more h, List.take_append_drop]
  have tl : (gs.take j).length = j := by
    rw [List.length_take]
    omega
  have l1 : lit (vals bs gs) p.1 = lit (vals bs (gs.take j)) p.1 := by
    have z := lit_pre (bs := bs) (gs.take j) ([p] ++ gs.drop (j + 1)) a0 (by omega)
    rw [← List.append_assoc, ← sp] at z
    exact z
  have l2 : lit (vals bs gs) p.2 = lit (vals bs (gs.take j)) p.2 := by
    have z := lit_pre (bs := bs) (gs.take j) ([p] ++ gs.drop (j + 1)) b0 (by omega)
    rw [← List.append_assoc, ← sp] at z
    exact z
  have l3 : lit (vals bs gs) (2 * ((bs.length : Int) + j + 1)) = lit (vals bs (gs.take j ++ [p])) (2 * ((bs.length : Int) + j + 1)) := by
    have z := lit_pre (bs := bs) (gs.take j ++ [p]) (gs.drop (j + 1)) (a := 2 * ((bs.length : Int) + j + 1)) (by omega) (by rw [List.length_append, tl]; show _ < 1 + bs.length + (j + 1); omega)
    rw [← sp] at z
    exact z
  rw [l3, l1, l2, step_vals]
  have vl := vals_len bs (gs.take j)
  have v01 := vals_01 (gs.take j) h01
  have x1 := lit_01 v01 p.1
  have x2 := lit_01 v01 p.2
  have w0 : 0 ≤ lit (vals bs (gs.take j)) p.1 * lit (vals bs (gs.take j)) p.2 := by
    rcases x1 with e | e <;> rcases x2 with e2 | e2 <;> rw [e, e2] <;> decide
  exact lit_new (by rw [vl, tl]; omega) w0
/-- the literals of a builder over its leaves -/
theorem fl_val {f : List Int} (h : B01 f) {l : Int} (h0 : 0 ≤ l) : lit f (flp l) = 1 - lit f l := by
  have b := getD_01 h (l / 2).toNat
  have e : flp l / 2 = l / 2 := by
    unfold flp
    omega
  unfold lit ab
  rw [e]
  unfold flp
  split <;> split <;> omega
theorem and_val {bs : List Int} {gs : List (Int × Int)} {a b : Int} (h01 : B01 bs) (hok : okG (2 * (bs.length : Int) + 1) gs = true) (a0 : 0 ≤ a) (a1 : a ≤ 2 * ((bs.length : Int) + gs.length) + 1) (b0 : 0 ≤ b) (b1 : b ≤ 2 * ((bs.length : Int) + gs.length) + 1) :
    okG (2 * (bs.length : Int) + 1) (Bd.andM bs.length gs a b).1 = true ∧ (∃ ts, (Bd.andM bs.length gs a b).1 = gs ++ ts) ∧ 0 ≤ (Bd.andM bs.length gs a b).2 ∧ (Bd.andM bs.length gs a b).2 ≤ 2 * ((bs.length : Int) + (Bd.andM bs.length gs a b).1.length) + 1 ∧
    lit (vals bs (Bd.andM bs.length gs a b).1) (Bd.andM bs.length gs a b).2 = lit (vals bs gs) a * lit (vals bs gs) b := by
  have v01 := vals_01 gs h01
  have z0 : lit (vals bs gs) 0 = 0 := by
    have e : (vals bs gs).getD 0 0 = 0 := by
      have z := vals_head bs gs
      rw [z]
      rfl
    show ab ((vals bs gs).getD 0 0 - 0) = 0
    rw [e]
    rfl
  have z1 : lit (vals bs gs) 1 = 1 := by
    have e := fl_val v01 (l := 0) (by decide)
    rw [z0] at e
    exact e
  have x1 := lit_01 v01 a
  have x2 := lit_01 v01 b
  unfold Bd.andM
  split
  · rename_i c
    refine ⟨hok, ⟨[], (List.append_nil _).symm⟩, Int.le_refl _, by show (0 : Int) ≤ _; omega, ?_⟩
    show lit (vals bs gs) 0 = _
    rw [z0]
    rcases c with rfl | rfl | rfl
    · rw [z0, Int.zero_mul]
    · rw [z0, Int.mul_zero]
    · rw [fl_val v01 b0]
      rcases x2 with e | e <;> rw [e] <;> decide
  split
  · rename_i c
    subst c
    refine ⟨hok, ⟨[], (List.append_nil _).symm⟩, b0, b1, ?_⟩
    rw [z1, Int.one_mul]
  split
  · rename_i c
    refine ⟨hok, ⟨[], (List.append_nil _).symm⟩, a0, a1, ?_⟩
    rcases c with rfl | rfl
    · rw [z1, Int.mul_one]
    · rcases x1 with e | e <;> rw [e] <;> decide
  · have op := ordP_or a b
    generalize ordP a b = p at op
    have pb : (0 ≤ p.1 ∧ p.1 ≤ 2 * ((bs.length : Int) + gs.length) + 1) ∧ 0 ≤ p.2 ∧ p.2 ≤ 2 * ((bs.length : Int) + gs.length) + 1 := by
      rcases op with rfl | rfl
      · exact ⟨⟨a0, a1⟩, b0, b1⟩
      · exact ⟨⟨b0, b1⟩, a0, a1⟩
    have pv : lit (vals bs gs) p.1 * lit (vals bs gs) p.2 = lit (vals bs gs) a * lit (vals bs gs) b := by
      rcases op with rfl | rfl
      · rfl
      · exact Int.mul_comm _ _
    unfold gated
    split
    · rename_i m
      have lt : ix p gs < gs.length := List.findIdx_lt_length_of_exists ⟨p, m, decide_eq_true rfl⟩
      have at_ : gs[ix p gs]? = some p := by
        rw [List.getElem?_eq_getElem lt]
        exact congrArg some (of_decide_eq_true (List.findIdx_getElem (w := lt)))
      refine ⟨hok, ⟨[], (List.append_nil _).symm⟩, by show (0 : Int) ≤ 2 * ((bs.length : Int) + (ix p gs : Int) + 1); omega, by show 2 * ((bs.length : Int) + (ix p gs : Int) + 1) ≤ 2 * ((bs.length : Int) + (gs.length : Int)) + 1; omega, ?_⟩
      exact (gate_val h01 hok at_).trans pv
    · have okn := okG_snoc hok pb.1.1 (by have := pb.1.2; omega) pb.2.1 (by have := pb.2.2; omega)
      refine ⟨okn, ⟨[p], rfl⟩, by show (0 : Int) ≤ 2 * ((bs.length : Int) + (gs.length : Int) + 1); omega, by rw [List.length_append]; show 2 * ((bs.length : Int) + (gs.length : Int) + 1) ≤ 2 * ((bs.length : Int) + ((gs.length + 1 : Nat) : Int)) + 1; omega, ?_⟩
      have at_ : (gs ++ [p])[gs.length]? = some p := by
        rw [List.getElem?_append_right (Nat.le_refl _), Nat.sub_self]
        rfl
      refine (gate_val h01 okn at_).trans ?_
      rw [lit_pre gs [p] pb.1.1 (by have := pb.1.2; omega), lit_pre gs [p] pb.2.1 (by have := pb.2.2; omega)]
      exact pv
def Inb (bs : List Int) (gs : List (Int × Int)) (a : Int) : Prop := 0 ≤ a ∧ a ≤ 2 * ((bs.length : Int) + gs.length) + 1
/-- what is told of more gates and a literal -/
structure Gd (bs : List Int) (gs : List (Int × Int)) (r : List (Int × Int) × Int) (z : Int) : Prop where
  ok : okG (2 * (bs.length : Int) + 1) r.1 = true
  ext : ∃ ts, r.1 = gs ++ ts
  inb : Inb bs r.1 r.2
  val : lit (vals bs r.1) r.2 = z
theorem and_gd {bs : List Int} {gs : List (Int × Int)} {a b : Int} (h01 : B01 bs) (hok : okG (2 * (bs.length : Int) + 1) gs = true) (ha : Inb bs gs a) (hb : Inb bs gs b) : Gd bs gs (Bd.andM bs.length gs a b) (lit (vals bs gs) a * lit (vals bs gs) b) := by
  obtain ⟨x1, x2, x3, x4, x5⟩ := and_val h01 hok ha.1 ha.2 hb.1 hb.2
  exact ⟨x1, x2, ⟨x3, x4⟩, x5⟩
theorem inb_flp {bs : List Int} {gs : List (Int × Int)} {a : Int} (h : Inb bs gs a) : Inb bs gs (flp a) := by
  obtain ⟨a0, a1⟩ := h
  unfold Inb flp
  omega
theorem inb_ext {bs : List Int} {gs gs' : List (Int × Int)} {a : Int} (e : ∃ ts, gs' = gs ++ ts) (h : Inb bs gs a) : Inb bs gs' a ∧ lit (vals bs gs') a = lit (vals bs gs) a := by
  obtain ⟨ts, rfl⟩ := e
  obtain ⟨a0, a1⟩ := h
  refine ⟨⟨a0, ?_⟩, lit_pre gs ts a0 (by omega)⟩
  rw [List.length_append]
  omega
theorem ext_trans {g1 g2 g3 : List (Int × Int)} (a : ∃ ts, g2 = g1 ++ ts) (b : ∃ ts, g3 = g2 ++ ts) : ∃ ts, g3 = g1 ++ ts := by
  obtain ⟨t, rfl⟩ := a
  obtain ⟨u, rfl⟩ := b
  exact ⟨t ++ u, List.append_assoc ..⟩
theorem or_gd {bs : List Int} {gs : List (Int × Int)} {a b : Int} (h01 : B01 bs) (hok : okG (2 * (bs.length : Int) + 1) gs = true) (ha : Inb bs gs a) (hb : Inb bs gs b) : Gd bs gs (orM bs.length gs a b) (1 - (1 - lit (vals bs gs) a) * (1 - lit (vals bs gs) b)) := by
  have v01 := vals_01 gs h01
  obtain ⟨o, e, i, v⟩ := and_gd h01 hok (inb_flp ha) (inb_flp hb)
  rw [fl_val v01 ha.1, fl_val v01 hb.1] at v
  refine ⟨o, e, inb_flp i, ?_⟩
  show lit (vals bs (Bd.andM bs.length gs (flp a) (flp b)).1) (flp (Bd.andM bs.length gs (flp a) (flp b)).2) = _
  rw [fl_val (vals_01 _ h01) i.1, v]
theorem xor_gd {bs : List Int} {gs : List (Int × Int)} {a b : Int} (h01 : B01 bs) (hok : okG (2 * (bs.length : Int) + 1) gs = true) (ha : Inb bs gs a) (hb : Inb bs gs b) :
    Gd bs gs (xorM bs.length gs a b) ((1 - lit (vals bs gs) a * lit (vals bs gs) b) * (1 - (1 - lit (vals bs gs) a) * (1 - lit (vals bs gs) b))) := by
  have v01 := vals_01 gs h01
  obtain ⟨o1, e1, i1, w1⟩ := and_gd h01 hok ha hb
  obtain ⟨ja, la⟩ := inb_ext e1 ha
  obtain ⟨jb, lb⟩ := inb_ext e1 hb
  obtain ⟨o2, e2, i2, w2⟩ := and_gd h01 o1 (inb_flp ja) (inb_flp jb)
  rw [fl_val (vals_01 _ h01) ha.1, fl_val (vals_01 _ h01) hb.1, la, lb] at w2
  obtain ⟨j1, l1⟩ := inb_ext e2 i1
  obtain ⟨o3, e3, i3, w3⟩ := and_gd h01 o2 (inb_flp j1) (inb_flp i2)
  rw [fl_val (vals_01 _ h01) i1.1, fl_val (vals_01 _ h01) i2.1, l1, w1, w2] at w3
  exact ⟨o3, ext_trans e1 (ext_trans e2 e3), i3, w3⟩
theorem choice_gd {bs : List Int} {gs : List (Int × Int)} {c a b : Int} (h01 : B01 bs) (hok : okG (2 * (bs.length : Int) + 1) gs = true) (hc : Inb bs gs c) (ha : Inb bs gs a) (hb : Inb bs gs b) :
    Gd bs gs (choiceM bs.length gs c a b) (if lit (vals bs gs) c = 1 then lit (vals bs gs) a else lit (vals bs gs) b) := by
  have v01 := vals_01 gs h01
  obtain ⟨o1, e1, i1, w1⟩ := and_gd h01 hok hc ha
  obtain ⟨jc, lc⟩ := inb_ext e1 hc
  obtain ⟨jb, lb⟩ := inb_ext e1 hb
  obtain ⟨o2, e2, i2, w2⟩ := and_gd h01 o1 (inb_flp jc) jb
  rw [fl_val (vals_01 _ h01) hc.1, lc, lb] at w2
  obtain ⟨j1, l1⟩ := inb_ext e2 i1
  obtain ⟨o3, e3, i3, w3⟩ := or_gd h01 o2 j1 i2
  rw [l1, w1, w2] at w3
  refine ⟨o3, ext_trans e1 (ext_trans e2 e3), i3, ?_⟩
  refine w3.trans ?_
  have xa := lit_01 v01 a
  have xb := lit_01 v01 b
  rcases lit_01 v01 c with e | e
  · rw [e, if_neg (by decide)]
    rcases xa with u | u <;> rcases xb with v | v <;> rw [u, v] <;> decide
  · rw [e, if_pos rfl]
    rcases xa with u | u <;> rcases xb with v | v <;> rw [u, v] <;> decide
end Bm
namespace Bw
open PySem PySem.Spec PyProof.Rows L2 Pen Dat Ki Fi Gr No Lf Bd Be Bf Bo
/-! ## k16: the law's looks at a builder -/
theorem ifT {b : Bool} {A B : Prop} (e : b = true) (h : A) : if b = true then A else B := by
  rw [if_pos e]
  exact h
theorem ifF {b : Bool} {A B : Prop} (e : b = false) (h : B) : if b = true then A else B := by
  rw [e]
  exact iteF h
def rLen (K : PySem.W.Frag) : List V → Hp → VK → Prop := fun xs H Q => ∃ p ys, xs = [V.ref p] ∧ (SqL K H p ys ∨ SqT K H p ys) ∧ Q (.int ys.length) H
theorem int_at {xs : List Int} {i : Nat} {y : V} (h : (xs.map V.int)[i]? = some y) : ∃ z, y = V.int z ∧ xs[i]? = some z := by
  rw [List.getElem?_map] at h
  cases e : xs[i]? with
  | none =>
    rw [e] at h
    cases h
  | some u =>
    rw [e] at h
    exact ⟨u, (Option.some.inj h).symm, rfl⟩
structure Tw (K : PySem.W.Frag) (mg : Str → Option Value) (C B fA fG : Addr) : Prop where
  gr : Gr.Tx K mg C
  lf : Lf.Tx mg
  ty : Be.Ty K mg B fA
  mG : Meth K B "graph" fG
  tz : Bo.Tz mg
def spGatesOf (K : PySem.W.Frag) (C : Addr) : Sp := fun vs H Q _ => ∃ (x : Addr) (n : Int) (gs : List (Int × Int)), vs = [.ref x] ∧ GraphAt K C H x n gs ∧ gs.length ≤ 1000 ∧
  ∀ (H' : Hp) (l : Addr) (ws : List V), Same H H' → H' l = some (.lst ws) → All2 (Pt K H') ws gs → Q (.ref l) H'
def spLed (K : PySem.W.Frag) : Sp := fun vs H Q _ => ∃ (l : Addr) (xs : List Int) (a : Int), vs = [.ref l, .int a] ∧ SqL K H l (xs.map V.int) ∧ 0 ≤ a ∧ (a / 2).toNat < xs.length ∧ Q (.int (ledL xs a)) H
section
variable {P : Program} {w : World} {K : PySem.W.Frag} {mg : Str → Option Value} {base : Heap} {f B C fA fG : Addr} {fd dA : FuncData}
theorem lkG (n : Int) (gl sd : Addr) : (fB n gl sd).lookup ("graph" : Str) = none := by
  have a : ¬ (("graph" : Str) = "standing") := by decide +kernel
  have b : ¬ (("graph" : Str) = "gates") := by decide +kernel
  have c : ¬ (("graph" : Str) = "leaves") := by decide +kernel
  unfold fB
  rw [lookup_putF, if_neg a, lookup_putF, if_neg b, lookup_putF, if_neg c]
  rfl
abbrev nGatesOf : List Str := ["_law_graph", "_law_gate"]
abbrev nLed : List Str := ["_law_table", "_law_literal", "_law_there"]
end
end Bw
namespace Bx
open PySem PySem.Spec PyProof.Rows L2 Pen Dat Ki Fi Gr No Lf Cn Bd Be Bf Bg Bm Bo Bw
/-! ## k16: puts, looks, and what is built further -/
def spLits : Sp := fun vs H Q _ => ∃ (p c : Addr) (k : Nat) (n m : Int), vs = [.ref p, .int n, .int m] ∧ PenC H p c k ∧ k ≤ 100000000000 ∧ 0 < n ∧ n ≤ 1000 ∧ 0 ≤ m ∧ m ≤ 100 ∧
  ∀ (H' : Hp) (t : Addr) (ls : List Int), PenC H' p c (k + m.toNat) → But p H H' → ls.length = m.toNat → (∀ l ∈ ls, 0 ≤ l ∧ l < 2 * n) → H' t = some (.tup (ls.map V.int)) → Q (.ref t) H'
theorem cut_any {K : PySem.W.Frag} {H : Hp} {q0 : Addr} {xs : List V} {m : Nat} {j : Int} {R : VK} (hj : (m : Int) = j) (hq : SqT K H q0 xs) (hn : m ≤ xs.length) (k : ∀ t H', Same H H' → SqT K H' t (xs.take m) → R (.ref t) H') :
    L2.rSlA K (.ref q0) none (some j) H R := by
  subst hj
  have ix : HT.sIx xs.length xs.length (some (m : Int)) = m := by
    show (if ((m : Int)) < 0 then ((m : Int) + (xs.length : Int)).toNat else min (m : Int).toNat xs.length) = _
    rw [if_neg (by omega)]
    omega
  refine ⟨q0, _, rfl, hq, fun hw => ?_, fun _ p np => ?_⟩
  · have e := hw.2
    rw [ix] at e
    refine k q0 H (fun _ _ e => e) ?_
    rw [e, List.take_length]
    exact hq
  · refine k p _ (same_new np) (SqT.of ?_)
    rw [upd_same]
    unfold cutV
    rw [ix]
    rfl
/-- a literal of a node of n leaves and the gates -/
def InN (n : Nat) (gs : List (Int × Int)) (a : Int) : Prop := 0 ≤ a ∧ a ≤ 2 * ((n : Int) + gs.length) + 1
def zeros (n : Nat) : List Int := List.replicate n 0
theorem zeros_01 (n : Nat) : B01 (zeros n) := fun z hz => .inl (List.eq_of_mem_replicate hz)
theorem zeros_len (n : Nat) : (zeros n).length = n := List.length_replicate ..
structure Gd0 (n : Nat) (gs : List (Int × Int)) (r : List (Int × Int) × Int) : Prop where
  ok : okG (2 * (n : Int) + 1) r.1 = true
  ext : ∃ ts, r.1 = gs ++ ts
  inb : InN n r.1 r.2
theorem and_g0 {n : Nat} {gs : List (Int × Int)} {a b : Int} (hok : okG (2 * (n : Int) + 1) gs = true) (ha : InN n gs a) (hb : InN n gs b) : Gd0 n gs (Bd.andM n gs a b) := by
  have z := zeros_len n
  have g := and_gd (bs := zeros n) (gs := gs) (a := a) (b := b) (zeros_01 n) (by rw [z]; exact hok) (by unfold Inb; rw [z]; exact ha) (by unfold Inb; rw [z]; exact hb)
  obtain ⟨x1, x2, x3, _⟩ := g
  unfold Inb at x3
  rw [z] at x1 x2 x3
  exact ⟨x1, x2, x3⟩
/-- what a put keeps -/
theorem put_ok {n : Nat} : ∀ (hs : List (Int × Int)) {gs : List (Int × Int)} {ls : List Int}, okG (2 * (n : Int) + 1) gs = true → (∀ z ∈ ls, InN n gs z) →
    okG (2 * (n : Int) + 1) (hs.foldl (putStep n) (gs, ls)).1 = true ∧ (∃ ts, (hs.foldl (putStep n) (gs, ls)).1 = gs ++ ts) ∧ (∀ z ∈ (hs.foldl (putStep n) (gs, ls)).2, InN n (hs.foldl (putStep n) (gs, ls)).1 z) ∧ (hs.foldl (putStep n) (gs, ls)).1.length ≤ gs.length + hs.length
  | [], gs, ls, h, hl => ⟨h, ⟨[], (List.append_nil _).symm⟩, hl, Nat.le_refl _⟩
  | p :: r, gs, ls, h, hl => by
    have bd : ∀ a, InN n gs (ledL ls a) := fun a => by
      have g0 : InN n gs (ls.getD (a / 2).toNat 0) := by
        rw [List.getD_eq_getElem?_getD]
        cases e : ls[(a / 2).toNat]? with
        | none => exact ⟨Int.le_refl _, by show (0 : Int) ≤ _; omega⟩
        | some u => exact hl _ (List.mem_of_getElem? e)
      unfold ledL
      split
      · obtain ⟨x, y⟩ := g0
        unfold InN flp
        omega
      · exact g0
    obtain ⟨o, e, i⟩ := and_g0 h (bd p.1) (bd p.2)
    have al := andM_len n gs (ledL ls p.1) (ledL ls p.2)
    obtain ⟨y1, y2, y3, y4⟩ := put_ok r (gs := (Bd.andM n gs (ledL ls p.1) (ledL ls p.2)).1) (ls := ls ++ [(Bd.andM n gs (ledL ls p.1) (ledL ls p.2)).2]) o (fun z hz => by
      rcases List.mem_append.mp hz with q | q
      · obtain ⟨x, y⟩ := hl z q
        obtain ⟨ts, e⟩ := e
        refine ⟨x, ?_⟩
        rw [e, List.length_append]
        omega
      · rw [List.mem_singleton.mp q]
        exact i)
    refine ⟨y1, ext_trans e y2, y3, ?_⟩
    rw [List.length_cons]
    exact Nat.le_trans y4 (by omega)
def spOwnPut (K : PySem.W.Frag) : Sp := fun vs H Q _ => ∃ (o gl g t : Addr) (v : V) (n : Int) (m : Nat) (gs hs : List (Int × Int)) (ls as : List Int), vs = [.ref o, .ref g, v, .ref t] ∧ OwnB K H o gl n gs ∧ GT K H g hs ∧ SeqI K H v ls ∧ SqT K H t (as.map V.int) ∧
  0 ≤ n ∧ ls.length = m ∧ m ≤ 500 ∧ gs.length + hs.length ≤ 3900 ∧ (∀ z ∈ ls, 0 ≤ z) ∧ okG (2 * (m : Int) + 1) hs = true ∧ (∀ a ∈ as, 0 ≤ a ∧ (a / 2).toNat < 1 + m + hs.length) ∧ as.length ≤ 1000 ∧
  ∀ H' t', (∀ b u, H b = some u → b ≠ gl → H' b = some u) → Firm H H' → OwnB K H' o gl n (putM n gs ls hs).1 → H' t' = some (.tup ((as.map (ledL (putM n gs ls hs).2)).map V.int)) → Q (.ref t') H'
theorem PenC.but2 {H H' : Hp} {p c x y : Addr} {m : Nat} (h : PenC H p c m) (k : But2 x y H H') (n1 : p ≠ x) (n2 : p ≠ y) (n3 : c ≠ x) (n4 : c ≠ y) : PenC H' p c m := by
  obtain ⟨ns, a, d, n, f, h1, h2, r⟩ := h
  exact ⟨ns, a, d, n, f, k _ _ h1 n1 n2, k _ _ h2 n3 n4, r⟩
theorem bat_pen {K : PySem.W.Frag} {B : Addr} {H : Hp} {b gl sd p c : Addr} {n : Int} {gs : List (Int × Int)} {m : Nat} (h : BAt K B H b gl sd n gs) (P : PenC H p c m) : b ≠ p ∧ gl ≠ p ∧ sd ≠ p ∧ sd ≠ c ∧ b ≠ gl ∧ b ≠ sd ∧ gl ≠ sd := by
  obtain ⟨dx, ws, kvs, h1, h2, _, h4, _⟩ := h
  obtain ⟨ns, a, d, n, f, p1, p2, _⟩ := P
  refine ⟨?_, ?_, ?_, ?_, ?_, ?_, ?_⟩ <;> intro e <;> subst e
  · rw [h1] at p1; cases p1
  · rw [h2] at p1; cases p1
  · rw [h4] at p1; cases p1
  · rw [h4] at p2; cases p2
  · rw [h1] at h2; cases h2
  · rw [h1] at h4; cases h4
  · rw [h2] at h4; cases h4
theorem BAt.but {K : PySem.W.Frag} {B : Addr} {H H' : Hp} {b gl sd p c : Addr} {n : Int} {gs : List (Int × Int)} {m : Nat} (h : BAt K B H b gl sd n gs) (P : PenC H p c m) (k : But p H H') : BAt K B H' b gl sd n gs := by
  obtain ⟨n1, n2, n3, _⟩ := bat_pen h P
  obtain ⟨dx, ws, kvs, h1, h2, h3, h4, h5⟩ := h
  exact ⟨dx, ws, kvs, k _ _ h1 n1, k _ _ h2 n2, h3.imp fun _ _ h => h.firm (Firm.pen k P), k _ _ h4 n3, h5⟩
theorem BAt.same {K : PySem.W.Frag} {B : Addr} {H H' : Hp} {b gl sd : Addr} {n : Int} {gs : List (Int × Int)} (h : BAt K B H b gl sd n gs) (s : Same H H') : BAt K B H' b gl sd n gs := by
  obtain ⟨dx, ws, kvs, h1, h2, h3, h4, h5⟩ := h
  exact ⟨dx, ws, kvs, s _ _ h1, s _ _ h2, h3.imp fun _ _ h => h.firm (Firm.of s), s _ _ h4, h5⟩
theorem OwnB.same {K : PySem.W.Frag} {H H' : Hp} {o gl : Addr} {n : Int} {gs : List (Int × Int)} (h : OwnB K H o gl n gs) (s : Same H H') : OwnB K H' o gl n gs := by
  obtain ⟨ws, h1, h2, h3⟩ := h
  exact ⟨ws, s _ _ h1, s _ _ h2, h3.imp fun _ _ h => h.firm (Firm.of s)⟩
section
variable {P : Program} {w : World} {K : PySem.W.Frag} {mg : Str → Option Value} {base : Heap} {f B C fA fG : Addr} {fd dA : FuncData}
abbrev nLits : List Str := ["_law_pen_here", "_law_nodes", "_law_many", "_law_k"]
abbrev liN : List Str := nLits
abbrev nOwnPut : List Str := ["_law_own", "_law_gates", "_law_leaves", "_law_literals_here", "_law_table", "_law_one", "_law_other", "_law_literal"]
end
end Bx
namespace Ca
open PySem PySem.Spec PyProof.Rows L2 Pen Dat Ki Fi Gr No Lf Cn Bd Be Bf Bg Bm Bx
/-! ## k17: what puts and cones mean -/
def ownL (n : Nat) : List Int := (List.range n).map fun (k : Nat) => 2 * ((k : Int) + 1)
theorem ownL_len (n : Nat) : (ownL n).length = n := by
  unfold ownL
  rw [List.length_map, List.length_range]
theorem ownL_in {n : Nat} {gs : List (Int × Int)} : ∀ z ∈ ownL n, InN n gs z := fun z hz => by
  obtain ⟨k, hk, rfl⟩ := List.mem_map.mp hz
  have := List.mem_range.mp hk
  unfold InN
  omega
theorem led_val {bs : List Int} {gs : List (Int × Int)} {ls : List Int} (h01 : B01 bs) (hl : ∀ z ∈ ls, Inb bs gs z) {a : Int} (ha : (a / 2).toNat < ls.length) : lit (vals bs gs) (ledL ls a) = lit (ls.map fun l => lit (vals bs gs) l) a := by
  have v01 := vals_01 gs h01
  have e : (ls.map fun l => lit (vals bs gs) l).getD (a / 2).toNat 0 = lit (vals bs gs) (ls.getD (a / 2).toNat 0) := by
    rw [List.getD_eq_getElem?_getD, List.getElem?_map, List.getD_eq_getElem?_getD, List.getElem?_eq_getElem ha]
    rfl
  have m : ls.getD (a / 2).toNat 0 ∈ ls := by
    rw [List.getD_eq_getElem?_getD, List.getElem?_eq_getElem ha]
    exact List.getElem_mem ha
  have x := lit_01 v01 (ls.getD (a / 2).toNat 0)
  have r : lit (ls.map fun l => lit (vals bs gs) l) a = ab (lit (vals bs gs) (ls.getD (a / 2).toNat 0) - a % 2) := by
    show ab ((ls.map fun l => lit (vals bs gs) l).getD (a / 2).toNat 0 - a % 2) = _
    rw [e]
  rw [r]
  unfold ledL
  split
  · rename_i c
    rw [fl_val v01 (hl _ m).1, c]
    unfold ab
    split <;> omega
  · rename_i c
    have c : a % 2 = 0 := by omega
    rw [c]
    unfold ab
    split <;> omega
theorem put_val {bs : List Int} (h01 : B01 bs) : ∀ (hs : List (Int × Int)) {gs : List (Int × Int)} {ls : List Int}, okG (2 * (bs.length : Int) + 1) gs = true → (∀ z ∈ ls, Inb bs gs z) → okG (2 * (ls.length : Int) - 1) hs = true →
    ((hs.foldl (putStep bs.length) (gs, ls)).2.map fun l => lit (vals bs (hs.foldl (putStep bs.length) (gs, ls)).1) l) = hs.foldl No.step (ls.map fun l => lit (vals bs gs) l)
  | [], _, _, _, _, _ => rfl
  | p :: r, gs, ls, h, hl, hk => by
    unfold okG within at hk
    simp only [Bool.and_eq_true, decide_eq_true_eq] at hk
    obtain ⟨⟨⟨a0, a1⟩, b0, b1⟩, hr⟩ := hk
    have la : (p.1 / 2).toNat < ls.length := by omega
    have lb : (p.2 / 2).toNat < ls.length := by omega
    have inb : ∀ a, (a / 2).toNat < ls.length → Inb bs gs (ledL ls a) := fun a ha => by
      have m : ls.getD (a / 2).toNat 0 ∈ ls := by
        rw [List.getD_eq_getElem?_getD, List.getElem?_eq_getElem ha]
        exact List.getElem_mem ha
      unfold ledL
      split
      · exact inb_flp (hl _ m)
      · exact hl _ m
    obtain ⟨o, e, i, v⟩ := and_gd h01 h (inb _ la) (inb _ lb)
    rw [led_val h01 hl la, led_val h01 hl lb] at v
    have st : (p :: r).foldl (putStep bs.length) (gs, ls) = r.foldl (putStep bs.length) ((Bd.andM bs.length gs (ledL ls p.1) (ledL ls p.2)).1, ls ++ [(Bd.andM bs.length gs (ledL ls p.1) (ledL ls p.2)).2]) := rfl
    have sv : (p :: r).foldl No.step (ls.map fun l => lit (vals bs gs) l) = r.foldl No.step (No.step (ls.map fun l => lit (vals bs gs) l) p) := rfl
    rw [st, sv]
    generalize Bd.andM bs.length gs (ledL ls p.1) (ledL ls p.2) = R at o e i v ⊢
    have ih := put_val h01 r (gs := R.1) (ls := ls ++ [R.2]) o (fun z hz => by
      rcases List.mem_append.mp hz with q | q
      · exact (inb_ext e (hl z q)).1
      · rw [List.mem_singleton.mp q]
        exact i) (by
      rw [List.length_append]
      have e2 : 2 * ((ls.length + [R.2].length : Nat) : Int) - 1 = 2 * (ls.length : Int) - 1 + 2 := by
        show 2 * ((ls.length + 1 : Nat) : Int) - 1 = _
        omega
      rw [e2]
      exact hr)
    rw [ih, List.map_append]
    have m1 : (ls.map fun l => lit (vals bs R.1) l) = ls.map fun l => lit (vals bs gs) l := List.map_congr_left fun a ha => (inb_ext e (hl a ha)).2
    rw [m1]
    show r.foldl No.step (_ ++ [lit (vals bs R.1) R.2]) = r.foldl No.step (_ ++ [_])
    rw [v]
/-- a put into a builder without gates, literal by literal -/
theorem put_lit {bs : List Int} {hs : List (Int × Int)} {ls : List Int} (h01 : B01 bs) (hl : ∀ z ∈ ls, Inb bs [] z) (hk : okG (2 * (ls.length : Int) + 1) hs = true) {a : Int} (ha : (a / 2).toNat < 1 + ls.length + hs.length) :
    lit (vals bs (putM bs.length [] ls hs).1) (ledL (putM bs.length [] ls hs).2 a) = lit (vals (ls.map fun l => lit (0 :: bs) l) hs) a := by
  have hl' : ∀ z ∈ 0 :: ls, Inb bs [] z := fun z hz => by
    rcases List.mem_cons.mp hz with rfl | hz
    · exact ⟨Int.le_refl _, by show (0 : Int) ≤ 2 * ((bs.length : Int) + ((0 : Nat) : Int)) + 1; omega⟩
    · exact hl z hz
  have z := zeros_len bs.length
  have P := put_val h01 hs (gs := []) (ls := 0 :: ls) rfl hl' (by
    have e : 2 * ((0 :: ls).length : Int) - 1 = 2 * (ls.length : Int) + 1 := by
      rw [List.length_cons]
      omega
    rw [e]
    exact hk)
  have U := put_ok (n := bs.length) hs (gs := []) (ls := 0 :: ls) rfl hl'
  have e0 : ((0 :: ls).map fun l => lit (vals bs []) l) = 0 :: ls.map fun l => lit (0 :: bs) l := rfl
  rw [e0] at P
  have ll : (hs.foldl (putStep bs.length) ([], 0 :: ls)).2.length = 1 + ls.length + hs.length := by
    have e := congrArg List.length P
    rw [List.length_map, foldl_len, List.length_cons, List.length_map] at e
    omega
  show lit (vals bs (hs.foldl (putStep bs.length) ([], 0 :: ls)).1) (ledL (hs.foldl (putStep bs.length) ([], 0 :: ls)).2 a) = _
  rw [led_val h01 U.2.2.1 (by rw [ll]; exact ha), P]
  rfl
theorem own_vals (bs : List Int) (h01 : B01 bs) : ((ownL bs.length).map fun l => lit (0 :: bs) l) = bs := by
  refine List.ext_getElem (by rw [List.length_map, ownL_len]) fun k h1 h2 => ?_
  have e : (ownL bs.length)[k]? = some (2 * ((k : Int) + 1)) := by
    unfold ownL
    rw [List.getElem?_map, List.getElem?_range h2]
    rfl
  rw [List.getElem_map]
  obtain ⟨h3, e3⟩ := List.getElem?_eq_some_iff.mp e
  rw [e3]
  have e4 : ((2 * ((k : Int) + 1)) / 2).toNat = k + 1 := by omega
  have e5 : (2 * ((k : Int) + 1)) % 2 = 0 := by omega
  show ab ((0 :: bs).getD ((2 * ((k : Int) + 1)) / 2).toNat 0 - (2 * ((k : Int) + 1)) % 2) = _
  rw [e4, e5]
  have e6 : (0 :: bs).getD (k + 1) 0 = bs[k] := by
    rw [List.getD_eq_getElem?_getD, List.getElem?_cons_succ, List.getElem?_eq_getElem h2]
    rfl
  rw [e6]
  rcases h01 _ (List.getElem_mem h2) with z | z <;> rw [z] <;> rfl
/-! ### what is wanted of a graph -/
def wantB (n : Nat) (gs : List (Int × Int)) : Nat → List Int → List Int
  | 0, W => W
  | k + 1, W => wantB n gs k (if (1 + (n : Int) + k) ∈ W then W ++ [(gs.getD k (0, 0)).1 / 2, (gs.getD k (0, 0)).2 / 2] else W)
def want (n : Nat) (gs : List (Int × Int)) (as : List Int) : List Int := wantB n gs gs.length (as.map fun a => a / 2)
theorem wantB_more (n : Nat) (gs : List (Int × Int)) : ∀ (k : Nat) (W : List Int) (j : Int), j ∈ W → j ∈ wantB n gs k W
  | 0, _, _, h => h
  | k + 1, W, j, h => wantB_more n gs k _ j (by
    split
    · exact List.mem_append_left _ h
    · exact h)
/-- what comes in later is of gates ahead -/
theorem wantB_new {n : Nat} {gs : List (Int × Int)} (hok : okG (2 * (n : Int) + 1) gs = true) : ∀ (k : Nat) (W : List Int) (j : Int), k ≤ gs.length → j ∈ wantB n gs k W → 1 + (n : Int) + k ≤ j → j ∈ W
  | 0, _, _, _, h, _ => h
  | k + 1, W, j, hk, h, hj => by
    have z := wantB_new hok k _ j (by omega) h (by omega)
    revert z
    split
    · intro z
      rcases List.mem_append.mp z with q | q
      · exact q
      · have e : gs[k]? = some (gs.getD k (0, 0)) := by
          rw [List.getD_eq_getElem?_getD, List.getElem?_eq_getElem (by omega)]
          rfl
        obtain ⟨⟨a0, a1⟩, b0, b1⟩ := okG_at hok e
        rcases List.mem_cons.mp q with rfl | q
        · exact absurd hj (by omega)
        · rw [List.mem_singleton.mp q] at hj
          exact absurd hj (by omega)
    · exact id
theorem wantB_closed {n : Nat} {gs : List (Int × Int)} (hok : okG (2 * (n : Int) + 1) gs = true) : ∀ (K : Nat) (W : List Int), K ≤ gs.length → ∀ (k : Nat) (p : Int × Int), k < K → gs[k]? = some p → (1 + (n : Int) + k) ∈ wantB n gs K W → p.1 / 2 ∈ wantB n gs K W ∧ p.2 / 2 ∈ wantB n gs K W
  | 0, _, _, _, _, h, _, _ => absurd h (Nat.not_lt_zero _)
  | K + 1, W, hK, k, p, hk, hp, h => by
    by_cases c : k = K
    · subst c
      have z := wantB_new hok k _ _ (by omega) h (Int.le_refl _)
      have e : gs.getD k (0, 0) = p := by
        rw [List.getD_eq_getElem?_getD, hp]
        rfl
      have m : (1 + (n : Int) + k) ∈ W := by
        revert z
        split
        · rename_i c
          exact fun _ => c
        · exact id
      have st : wantB n gs (k + 1) W = wantB n gs k (W ++ [p.1 / 2, p.2 / 2]) := by
        show wantB n gs k (if _ then _ else _) = _
        rw [if_pos m, e]
      rw [st]
      exact ⟨wantB_more _ _ _ _ _ (List.mem_append_right _ List.mem_cons_self), wantB_more _ _ _ _ _ (List.mem_append_right _ (List.mem_cons_of_mem _ List.mem_cons_self))⟩
    · exact wantB_closed hok K _ (by omega) k p (by omega) hp h
theorem wantB_why {n : Nat} {gs : List (Int × Int)} : ∀ (K : Nat) (W : List Int), K ≤ gs.length → ∀ j, j ∈ wantB n gs K W → j ∈ W ∨ ∃ (k : Nat) (p : Int × Int), k < K ∧ gs[k]? = some p ∧ (1 + (n : Int) + k) ∈ wantB n gs K W ∧ (p.1 / 2 = j ∨ p.2 / 2 = j)
  | 0, _, _, _, h => .inl h
  | K + 1, W, hK, j, h => by
    rcases wantB_why K _ (by omega) j h with z | ⟨k, p, k1, k2, k3, k4⟩
    · have e : gs[K]? = some (gs.getD K (0, 0)) := by
        rw [List.getD_eq_getElem?_getD, List.getElem?_eq_getElem (by omega)]
        rfl
      by_cases c : (1 + (n : Int) + K) ∈ W
      · rw [if_pos c] at z
        rcases List.mem_append.mp z with q | q
        · exact .inl q
        · refine .inr ⟨K, _, Nat.lt_succ_self _, e, wantB_more _ _ _ _ _ c, ?_⟩
          rcases List.mem_cons.mp q with q | q
          · exact .inl q.symm
          · exact .inr (List.mem_singleton.mp q).symm
      · rw [if_neg c] at z
        exact .inl z
    · exact .inr ⟨k, p, by omega, k2, k3, k4⟩
/-! ### a cone -/
def coneStep (n : Nat) (W : List Int) (s : List (Int × Int) × List Int) (p : Int × Int) : List (Int × Int) × List Int :=
  if (s.2.length : Int) ∈ W then (s.1 ++ [(ledL s.2 p.1, ledL s.2 p.2)], s.2 ++ [2 * ((n : Int) + s.1.length + 1)]) else (s.1, s.2 ++ [0])
def coneM (n : Nat) (W : List Int) (gs : List (Int × Int)) : List (Int × Int) × List Int := gs.foldl (coneStep n W) ([], 0 :: ownL n)
def ownStep (n : Nat) (W : List Int) (s : List (Int × Int) × List Int) (p : Int × Int) : List (Int × Int) × List Int :=
  (if (s.2.length : Int) ∈ W then s.1 ++ [(ledL (s.2 ++ [2 * (1 + (n : Int) + s.1.length)]) p.1, ledL (s.2 ++ [2 * (1 + (n : Int) + s.1.length)]) p.2)] else s.1, s.2 ++ [2 * (1 + (n : Int) + s.1.length)])
def ownC (n : Nat) (W : List Int) (gs : List (Int × Int)) : List (Int × Int) × List Int := gs.foldl (ownStep n W) ([], 0 :: ownL n)
theorem getD_app {α : Type} {xs ys : List α} {j : Nat} {d : α} (h : j < xs.length) : (xs ++ ys).getD j d = xs.getD j d := by
  rw [List.getD_eq_getElem?_getD, List.getD_eq_getElem?_getD, List.getElem?_append_left h]
theorem getD_end {α : Type} {xs : List α} {y d : α} : (xs ++ [y]).getD xs.length d = y := by
  rw [List.getD_eq_getElem?_getD, List.getElem?_append_right (Nat.le_refl _), Nat.sub_self]
  rfl
theorem led_app {xs ys : List Int} {a : Int} (h : (a / 2).toNat < xs.length) : ledL (xs ++ ys) a = ledL xs a := by
  unfold ledL
  rw [getD_app h]
theorem led_eq {xs ys : List Int} {a : Int} (h : xs.getD (a / 2).toNat 0 = ys.getD (a / 2).toNat 0) : ledL xs a = ledL ys a := by
  unfold ledL
  rw [h]
structure Wok (n : Nat) (gs : List (Int × Int)) (as W : List Int) : Prop where
  ok : okG (2 * (n : Int) + 1) gs = true
  cl : ∀ (k : Nat) (p : Int × Int), gs[k]? = some p → (1 + (n : Int) + k) ∈ W → p.1 / 2 ∈ W ∧ p.2 / 2 ∈ W
  al : ∀ a ∈ as, a / 2 ∈ W
  why : ∀ j, j ∈ W → (∃ a ∈ as, a / 2 = j) ∨ ∃ (k : Nat) (p : Int × Int), gs[k]? = some p ∧ (1 + (n : Int) + k) ∈ W ∧ (p.1 / 2 = j ∨ p.2 / 2 = j)
theorem want_ok {n : Nat} {gs : List (Int × Int)} {as : List Int} (h : okG (2 * (n : Int) + 1) gs = true) : Wok n gs as (want n gs as) := by
  refine ⟨h, fun k p hp hk => wantB_closed h _ _ (Nat.le_refl _) k p (List.getElem?_eq_some_iff.mp hp).1 hp hk, fun a ha => wantB_more _ _ _ _ _ (List.mem_map.mpr ⟨a, ha, rfl⟩), fun j hj => ?_⟩
  rcases wantB_why _ _ (Nat.le_refl _) j hj with z | ⟨k, p, _, k2, k3, k4⟩
  · obtain ⟨a, ha, e⟩ := List.mem_map.mp z
    exact .inl ⟨a, ha, e⟩
  · exact .inr ⟨k, p, k2, k3, k4⟩
theorem cone_len {n : Nat} {W : List Int} : ∀ (gs : List (Int × Int)) (s : List (Int × Int) × List Int), (gs.foldl (coneStep n W) s).2.length = s.2.length + gs.length ∧ (gs.foldl (coneStep n W) s).1.length ≤ s.1.length + gs.length
  | [], s => ⟨rfl, Nat.le_refl _⟩
  | p :: r, s => by
    obtain ⟨a, b⟩ := cone_len r (coneStep n W s p)
    have e1 : (coneStep n W s p).2.length = s.2.length + 1 := by
      unfold coneStep
      split <;> exact List.length_append ..
    have e2 : (coneStep n W s p).1.length ≤ s.1.length + 1 := by
      unfold coneStep
      split
      · rw [List.length_append]
        exact Nat.le_refl _
      · exact Nat.le_succ _
    refine ⟨a.trans ?_, Nat.le_trans b ?_⟩
    · rw [e1, List.length_cons]
      omega
    · rw [List.length_cons]
      omega
theorem base_len (n : Nat) : (0 :: ownL n).length = 1 + n := by
  rw [List.length_cons, ownL_len]
  omega
theorem base_at {n j : Nat} (h : j < 1 + n) : (0 :: ownL n).getD j 0 = 2 * (j : Int) := by
  cases j with
  | zero => rfl
  | succ j =>
    rw [List.getD_eq_getElem?_getD, List.getElem?_cons_succ]
    unfold ownL
    rw [List.getElem?_map, List.getElem?_range (by omega)]
    show 2 * ((j : Int) + 1) = _
    omega
/-- the state of a cone after i gates -/
theorem cone_take {n : Nat} {W : List Int} {gs : List (Int × Int)} {i : Nat} {p : Int × Int} (h : gs[i]? = some p) : coneM n W (gs.take (i + 1)) = coneStep n W (coneM n W (gs.take i)) p := by
  unfold coneM
  rw [take_more h, List.foldl_append]
  rfl
theorem own_take {n : Nat} {W : List Int} {gs : List (Int × Int)} {i : Nat} {p : Int × Int} (h : gs[i]? = some p) : ownC n W (gs.take (i + 1)) = ownStep n W (ownC n W (gs.take i)) p := by
  unfold ownC
  rw [take_more h, List.foldl_append]
  rfl
theorem cone_plen (n : Nat) (W : List Int) (gs : List (Int × Int)) : (coneM n W gs).2.length = 1 + n + gs.length := by
  have z := (cone_len (n := n) (W := W) gs ([], 0 :: ownL n)).1
  rw [base_len] at z
  exact z
theorem cone_klen (n : Nat) (W : List Int) (gs : List (Int × Int)) : (coneM n W gs).1.length ≤ gs.length := by
  have z := (cone_len (n := n) (W := W) gs ([], 0 :: ownL n)).2
  exact Nat.le_trans z (by show 0 + gs.length ≤ gs.length; omega)
theorem own_plen (n : Nat) (W : List Int) : ∀ (gs : List (Int × Int)) (s : List (Int × Int) × List Int), (gs.foldl (ownStep n W) s).2.length = s.2.length + gs.length
  | [], s => rfl
  | p :: r, s => by
    show (r.foldl (ownStep n W) (ownStep n W s p)).2.length = _
    rw [own_plen n W r]
    show (s.2 ++ [_]).length + r.length = _
    rw [List.length_append, List.length_cons]
    show s.2.length + 1 + r.length = s.2.length + (r.length + 1)
    omega
/-- the cone is the law's own -/
theorem cone_own {n : Nat} {gs : List (Int × Int)} {as W : List Int} (h : Wok n gs as W) : ∀ i, i ≤ gs.length → (coneM n W (gs.take i)).1 = (ownC n W (gs.take i)).1 ∧ ∀ j : Nat, j < 1 + n + i → (j < 1 + n ∨ (j : Int) ∈ W) → (coneM n W (gs.take i)).2.getD j 0 = (ownC n W (gs.take i)).2.getD j 0
  | 0, _ => ⟨rfl, fun _ _ _ => rfl⟩
  | i + 1, hi => by
    obtain ⟨a, b⟩ := cone_own h i (by omega)
    have hp : gs[i]? = some gs[i] := List.getElem?_eq_getElem (by omega)
    generalize gs[i] = p at hp
    rw [cone_take hp, own_take hp]
    have l1 := cone_plen n W (gs.take i)
    have l2 := own_plen n W (gs.take i) ([], 0 :: ownL n)
    rw [base_len] at l2
    have tl : (gs.take i).length = i := by
      rw [List.length_take]
      omega
    rw [tl] at l1 l2
    have l2 : (ownC n W (gs.take i)).2.length = 1 + n + i := l2
    generalize coneM n W (gs.take i) = S at a b l1 ⊢
    generalize ownC n W (gs.take i) = O at a b l2 ⊢
    have nl : 2 * ((n : Int) + S.1.length + 1) = 2 * (1 + (n : Int) + O.1.length) := by
      rw [a]
      omega
    unfold coneStep ownStep
    by_cases c : (S.2.length : Int) ∈ W
    · have c' : (O.2.length : Int) ∈ W := by
        rw [l2, ← l1]
        exact c
      have e : (1 + (n : Int) + i) ∈ W := by
        have : ((S.2.length : Nat) : Int) = 1 + (n : Int) + i := by omega
        rw [← this]
        exact c
      obtain ⟨w1, w2⟩ := h.cl i p hp e
      obtain ⟨⟨a0, a1⟩, b0, b1⟩ := okG_at h.ok hp
      rw [if_pos c, if_pos c']
      have g : ∀ q : Int, 0 ≤ q → q ≤ 2 * (n : Int) + 1 + 2 * i → q / 2 ∈ W → ledL S.2 q = ledL (O.2 ++ [2 * (1 + (n : Int) + O.1.length)]) q := fun q q0 q1 qw => by
        rw [led_app (by omega)]
        exact led_eq (b _ (by omega) (.inr (by rw [show (((q / 2).toNat : Nat) : Int) = q / 2 by omega]; exact qw)))
      refine ⟨by rw [a, g _ a0 (by omega) w1, g _ b0 (by omega) w2], fun j hj hw => ?_⟩
      by_cases cj : j < 1 + n + i
      · rw [getD_app (by omega), getD_app (by omega)]
        exact b j cj hw
      · have ej : j = 1 + n + i := by omega
        subst ej
        rw [← l1, getD_end, l1, ← l2, getD_end, nl]
    · have c' : ¬ (O.2.length : Int) ∈ W := by
        rw [l2, ← l1]
        exact c
      rw [if_neg c, if_neg c']
      refine ⟨a, fun j hj hw => ?_⟩
      by_cases cj : j < 1 + n + i
      · rw [getD_app (by omega), getD_app (by omega)]
        exact b j cj hw
      · have ej : j = 1 + n + i := by omega
        subst ej
        rcases hw with hw | hw
        · omega
        · exact absurd hw (by rw [← l1]; exact c)
/-- what a cone keeps, and the values of its nodes -/
structure Cst (n : Nat) (W : List Int) (gs : List (Int × Int)) (i : Nat) (S : List (Int × Int) × List Int) : Prop where
  ok : okG (2 * (n : Int) + 1) S.1 = true
  inb : ∀ j : Nat, j < 1 + n + i → InN n S.1 (S.2.getD j 0)
  val : ∀ bs : List Int, B01 bs → bs.length = n → ∀ j : Nat, j < 1 + n + i → (j < 1 + n ∨ (j : Int) ∈ W) → lit (vals bs S.1) (S.2.getD j 0) = (vals bs (gs.take i)).getD j 0
theorem inN_more {n : Nat} {gs : List (Int × Int)} {a : Int} (q : Int × Int) (h : InN n gs a) : InN n (gs ++ [q]) a := by
  obtain ⟨a0, a1⟩ := h
  refine ⟨a0, ?_⟩
  rw [List.length_append]
  show a ≤ 2 * ((n : Int) + ((gs.length + 1 : Nat) : Int)) + 1
  omega
theorem led_inN {n : Nat} {gs : List (Int × Int)} {ls : List Int} {a : Int} (h : InN n gs (ls.getD (a / 2).toNat 0)) : InN n gs (ledL ls a) := by
  unfold ledL
  split
  · obtain ⟨x, y⟩ := h
    unfold InN flp
    omega
  · exact h
theorem led_lit {bs : List Int} {gs hs : List (Int × Int)} {ls : List Int} {a : Int} (h01 : B01 bs) (h : InN bs.length gs (ls.getD (a / 2).toNat 0)) (e : lit (vals bs gs) (ls.getD (a / 2).toNat 0) = (vals bs hs).getD (a / 2).toNat 0) : lit (vals bs gs) (ledL ls a) = lit (vals bs hs) a := by
  have v01 := vals_01 gs h01
  have x := lit_01 v01 (ls.getD (a / 2).toNat 0)
  show _ = ab ((vals bs hs).getD (a / 2).toNat 0 - a % 2)
  rw [← e]
  unfold ledL
  split
  · rename_i c
    rw [fl_val v01 h.1, c]
    unfold ab
    split <;> omega
  · rename_i c
    have c : a % 2 = 0 := by omega
    rw [c]
    unfold ab
    split <;> omega
theorem cone_st {n : Nat} {gs : List (Int × Int)} {as W : List Int} (h : Wok n gs as W) : ∀ i, i ≤ gs.length → Cst n W gs i (coneM n W (gs.take i))
  | 0, _ => by
    refine ⟨rfl, fun j hj => ?_, fun bs hb hl j hj _ => ?_⟩
    · show InN n [] ((0 :: ownL n).getD j 0)
      rw [base_at (by omega)]
      refine ⟨by omega, ?_⟩
      show _ ≤ 2 * ((n : Int) + ((0 : Nat) : Int)) + 1
      omega
    · show lit (0 :: bs) ((0 :: ownL n).getD j 0) = (0 :: bs).getD j 0
      rw [base_at (by omega)]
      have e4 : ((2 * (j : Int)) / 2).toNat = j := by omega
      have e5 : (2 * (j : Int)) % 2 = 0 := by omega
      unfold lit
      rw [e4, e5]
      have b01 : B01 (0 :: bs) := fun z hz => by
        rcases List.mem_cons.mp hz with rfl | hz
        · exact .inl rfl
        · exact hb z hz
      rcases getD_01 b01 j with z | z <;> rw [z] <;> rfl
  | i + 1, hi => by
    obtain ⟨ok, inb, val⟩ := cone_st h i (by omega)
    have hp : gs[i]? = some gs[i] := List.getElem?_eq_getElem (by omega)
    generalize gs[i] = p at hp
    rw [cone_take hp]
    have l1 := cone_plen n W (gs.take i)
    have tl : (gs.take i).length = i := by
      rw [List.length_take]
      omega
    rw [tl] at l1
    generalize coneM n W (gs.take i) = S at ok inb val l1 ⊢
    obtain ⟨⟨a0, a1⟩, b0, b1⟩ := okG_at h.ok hp
    have ja : (p.1 / 2).toNat < 1 + n + i := by omega
    have jb : (p.2 / 2).toNat < 1 + n + i := by omega
    have ia := led_inN (inb _ ja)
    have ib := led_inN (inb _ jb)
    unfold coneStep
    by_cases c : (S.2.length : Int) ∈ W
    · rw [if_pos c]
      have e : (1 + (n : Int) + i) ∈ W := by
        have : ((S.2.length : Nat) : Int) = 1 + (n : Int) + i := by omega
        rw [← this]
        exact c
      obtain ⟨w1, w2⟩ := h.cl i p hp e
      have okn : okG (2 * (n : Int) + 1) (S.1 ++ [(ledL S.2 p.1, ledL S.2 p.2)]) = true := okG_snoc ok ia.1 (by have := ia.2; show ledL S.2 p.1 ≤ _; omega) ib.1 (by have := ib.2; show ledL S.2 p.2 ≤ _; omega)
      refine ⟨okn, fun j hj => ?_, fun bs hb hl j hj hw => ?_⟩
      · show InN n (S.1 ++ [_]) ((S.2 ++ [_]).getD j 0)
        by_cases cj : j < 1 + n + i
        · rw [getD_app (by omega)]
          exact inN_more _ (inb j cj)
        · have ej : j = S.2.length := by omega
          rw [ej, getD_end]
          refine ⟨by omega, ?_⟩
          rw [List.length_append]
          show _ ≤ 2 * ((n : Int) + ((S.1.length + 1 : Nat) : Int)) + 1
          omega
      · subst hl
        show lit (vals bs (S.1 ++ [_])) ((S.2 ++ [_]).getD j 0) = _
        rw [vals_take bs hp]
        have vl := vals_len bs (gs.take i)
        rw [tl] at vl
        by_cases cj : j < 1 + bs.length + i
        · rw [getD_app (by omega)]
          unfold No.step
          rw [getD_app (by omega), ← val bs hb rfl j cj hw]
          exact (inb_ext ⟨_, rfl⟩ (inb j cj)).2
        · have ej : j = S.2.length := by omega
          rw [ej, getD_end]
          unfold No.step
          have e2 : S.2.length = (vals bs (gs.take i)).length := by omega
          rw [e2, getD_end, step_vals]
          have v01 := vals_01 S.1 hb
          have x1 := lit_01 v01 (ledL S.2 p.1)
          have x2 := lit_01 v01 (ledL S.2 p.2)
          have wn : 0 ≤ lit (vals bs S.1) (ledL S.2 p.1) * lit (vals bs S.1) (ledL S.2 p.2) := by
            rcases x1 with e | e <;> rcases x2 with e2 | e2 <;> rw [e, e2] <;> decide
          rw [lit_new (by rw [vals_len]; omega) wn]
          rw [led_lit hb (inb _ ja) (val bs hb rfl _ ja (.inr (by rw [show (((p.1 / 2).toNat : Nat) : Int) = p.1 / 2 by omega]; exact w1))), led_lit hb (inb _ jb) (val bs hb rfl _ jb (.inr (by rw [show (((p.2 / 2).toNat : Nat) : Int) = p.2 / 2 by omega]; exact w2)))]
    · rw [if_neg c]
      refine ⟨ok, fun j hj => ?_, fun bs hb hl j hj hw => ?_⟩
      · show InN n S.1 ((S.2 ++ [0]).getD j 0)
        by_cases cj : j < 1 + n + i
        · rw [getD_app (by omega)]
          exact inb j cj
        · have ej : j = S.2.length := by omega
          rw [ej, getD_end]
          exact ⟨Int.le_refl _, by omega⟩
      · subst hl
        show lit (vals bs S.1) ((S.2 ++ [0]).getD j 0) = _
        rw [vals_take bs hp]
        have vl := vals_len bs (gs.take i)
        rw [tl] at vl
        by_cases cj : j < 1 + bs.length + i
        · rw [getD_app (by omega)]
          unfold No.step
          rw [getD_app (by omega)]
          exact val bs hb rfl j cj hw
        · have ej : j = S.2.length := by omega
          rcases hw with hw | hw
          · omega
          · exact absurd hw (by rw [ej]; exact c)
theorem cone_lit {n : Nat} {gs : List (Int × Int)} {as W : List Int} (h : Wok n gs as W) {bs : List Int} (hb : B01 bs) (hl : bs.length = n) {a : Int} (ha : a ∈ as) (a0 : 0 ≤ a) (a1 : (a / 2).toNat < 1 + n + gs.length) :
    lit (vals bs (coneM n W gs).1) (ledL (coneM n W gs).2 a) = lit (vals bs gs) a := by
  obtain ⟨ok, inb, val⟩ := cone_st h gs.length (Nat.le_refl _)
  rw [List.take_length] at ok inb val
  subst hl
  exact led_lit hb (inb _ a1) (val bs hb rfl _ a1 (.inr (by rw [show (((a / 2).toNat : Nat) : Int) = a / 2 by omega]; exact h.al a ha)))
/-! ### the cone of a cone -/
theorem led_half (ls : List Int) (a : Int) : ledL ls a / 2 = ls.getD (a / 2).toNat 0 / 2 := by
  unfold ledL
  split
  · unfold flp
    omega
  · rfl
/-- where the gates that are kept stand -/
theorem cone_where {n : Nat} {gs : List (Int × Int)} {as W : List Int} (h : Wok n gs as W) : ∀ i, i ≤ gs.length →
    (∀ k p, k < i → gs[k]? = some p → (1 + (n : Int) + k) ∈ W → ∃ q : Nat, (coneM n W (gs.take i)).1[q]? = some (ledL (coneM n W (gs.take i)).2 p.1, ledL (coneM n W (gs.take i)).2 p.2) ∧ (coneM n W (gs.take i)).2.getD (1 + n + k) 0 = 2 * (1 + (n : Int) + q)) ∧
    ∀ q : Nat, q < (coneM n W (gs.take i)).1.length → ∃ k : Nat, k < i ∧ (1 + (n : Int) + k) ∈ W ∧ (coneM n W (gs.take i)).2.getD (1 + n + k) 0 = 2 * (1 + (n : Int) + q)
  | 0, _ => ⟨fun k p hk => absurd hk (Nat.not_lt_zero _), fun q hq => absurd hq (Nat.not_lt_zero _)⟩
  | i + 1, hi => by
    obtain ⟨A, B⟩ := cone_where h i (by omega)
    have hp : gs[i]? = some gs[i] := List.getElem?_eq_getElem (by omega)
    generalize gs[i] = p at hp
    rw [cone_take hp]
    have l1 := cone_plen n W (gs.take i)
    have tl : (gs.take i).length = i := by
      rw [List.length_take]
      omega
    rw [tl] at l1
    generalize coneM n W (gs.take i) = S at A B l1 ⊢
    have st : ∀ {k : Nat} {r : Int × Int} {ys : List Int}, k ≤ i → gs[k]? = some r → ledL (S.2 ++ ys) r.1 = ledL S.2 r.1 ∧ ledL (S.2 ++ ys) r.2 = ledL S.2 r.2 := fun {k r ys} hk hr => by
      obtain ⟨⟨a0, a1⟩, b0, b1⟩ := okG_at h.ok hr
      exact ⟨led_app (by omega), led_app (by omega)⟩
    unfold coneStep
    by_cases c : (S.2.length : Int) ∈ W
    · rw [if_pos c]
      refine ⟨fun k r hk hr hw => ?_, fun q hq => ?_⟩
      · obtain ⟨e1, e2⟩ := st (ys := [2 * ((n : Int) + S.1.length + 1)]) (by omega : k ≤ i) hr
        dsimp only
        rw [e1, e2]
        by_cases ck : k < i
        · obtain ⟨q, q1, q2⟩ := A k r ck hr hw
          refine ⟨q, ?_, ?_⟩
          · rw [List.getElem?_append_left (List.getElem?_eq_some_iff.mp q1).1]
            exact q1
          · rw [getD_app (by omega)]
            exact q2
        · have ek : k = i := by omega
          subst ek
          rw [hp] at hr
          cases hr
          refine ⟨S.1.length, ?_, ?_⟩
          · rw [List.getElem?_append_right (Nat.le_refl _), Nat.sub_self]
            rfl
          · rw [← l1, getD_end]
            omega
      · have hq : q < (S.1 ++ [(ledL S.2 p.1, ledL S.2 p.2)]).length := hq
        rw [List.length_append] at hq
        dsimp only
        by_cases cq : q < S.1.length
        · obtain ⟨k, k1, k2, k3⟩ := B q cq
          refine ⟨k, by omega, k2, ?_⟩
          rw [getD_app (by omega)]
          exact k3
        · have eq : q = S.1.length := by
            have : [(ledL S.2 p.1, ledL S.2 p.2)].length = 1 := rfl
            omega
          refine ⟨i, by omega, ?_, ?_⟩
          · have : ((S.2.length : Nat) : Int) = 1 + (n : Int) + i := by omega
            rw [← this]
            exact c
          · rw [← l1, getD_end]
            omega
    · rw [if_neg c]
      refine ⟨fun k r hk hr hw => ?_, fun q hq => ?_⟩
      · obtain ⟨e1, e2⟩ := st (ys := [0]) (by omega : k ≤ i) hr
        show ∃ q : Nat, S.1[q]? = some (ledL (S.2 ++ [0]) r.1, ledL (S.2 ++ [0]) r.2) ∧ (S.2 ++ [0]).getD (1 + n + k) 0 = _
        rw [e1, e2]
        by_cases ck : k < i
        · obtain ⟨q, q1, q2⟩ := A k r ck hr hw
          refine ⟨q, q1, ?_⟩
          rw [getD_app (by omega)]
          exact q2
        · have ek : k = i := by omega
          subst ek
          exact absurd hw (by rw [show (1 + (n : Int) + k) = ((S.2.length : Nat) : Int) by omega]; exact c)
      · obtain ⟨k, k1, k2, k3⟩ := B q hq
        refine ⟨k, by omega, k2, ?_⟩
        show (S.2 ++ [0]).getD (1 + n + k) 0 = _
        rw [getD_app (by omega)]
        exact k3
/-- all gates of a cone are needed -/
theorem cone_all {n : Nat} {gs : List (Int × Int)} {as : List Int} (hok : okG (2 * (n : Int) + 1) gs = true) {W' : List Int} (h : Wok n gs as W')
    {W2 : List Int} (h2 : Wok n (coneM n W' gs).1 (as.map (ledL (coneM n W' gs).2)) W2) : ∀ q : Nat, q < (coneM n W' gs).1.length → (1 + (n : Int) + q) ∈ W2 := by
  obtain ⟨A, B⟩ := cone_where h gs.length (Nat.le_refl _)
  rw [List.take_length] at A B
  generalize coneM n W' gs = S at A B h2
  have up : ∀ (d k : Nat), gs.length ≤ k + d → k < gs.length → (1 + (n : Int) + k) ∈ W' → S.2.getD (1 + n + k) 0 / 2 ∈ W2 := by
    intro d
    induction d with
    | zero => exact fun k hd hk _ => absurd hk (by omega)
    | succ d ih =>
      intro k hd hk hw
      rcases h.why _ hw with ⟨a, ha, e⟩ | ⟨k2, p, hp, hw2, e⟩
      · have z := h2.al _ (List.mem_map.mpr ⟨a, ha, rfl⟩)
        rw [led_half, show (a / 2).toNat = 1 + n + k by omega] at z
        exact z
      · obtain ⟨⟨a0, a1⟩, b0, b1⟩ := okG_at h.ok hp
        have lt : k < k2 := by
          rcases e with e | e <;> omega
        have k2l : k2 < gs.length := (List.getElem?_eq_some_iff.mp hp).1
        have i2 := ih k2 (by omega) k2l hw2
        obtain ⟨q, q1, q2⟩ := A k2 p k2l hp hw2
        rw [q2] at i2
        obtain ⟨c1, c2⟩ := h2.cl q _ q1 (by rw [show (1 + (n : Int) + q) = 2 * (1 + (n : Int) + q) / 2 by omega]; exact i2)
        rcases e with e | e
        · rw [led_half, show (p.1 / 2).toNat = 1 + n + k by omega] at c1
          exact c1
        · rw [led_half, show (p.2 / 2).toNat = 1 + n + k by omega] at c2
          exact c2
  intro q hq
  obtain ⟨k, k1, k2, k3⟩ := B q hq
  have z := up gs.length k (by omega) k1 k2
  rw [k3] at z
  rw [show (1 + (n : Int) + q) = 2 * (1 + (n : Int) + q) / 2 by omega]
  exact z
def idL (m : Nat) : List Int := (List.range m).map fun (j : Nat) => 2 * (j : Int)
theorem idL_at {m j : Nat} (h : j < m) : (idL m).getD j 0 = 2 * (j : Int) := by
  unfold idL
  rw [List.getD_eq_getElem?_getD, List.getElem?_map, List.getElem?_range h]
  rfl
theorem idL_led {m : Nat} {a : Int} (a0 : 0 ≤ a) (h : (a / 2).toNat < m) : ledL (idL m) a = a := by
  unfold ledL
  rw [idL_at h]
  split
  · unfold flp
    omega
  · omega
theorem idL_snoc (m : Nat) : idL m ++ [2 * (m : Int)] = idL (m + 1) := by
  unfold idL
  rw [List.range_succ, List.map_append]
  rfl
theorem idL_base (n : Nat) : 0 :: ownL n = idL (1 + n) := by
  unfold idL ownL
  rw [Nat.add_comm, List.range_succ_eq_map, List.map_cons, List.map_map]
  rfl
theorem cone_id {n : Nat} {gs : List (Int × Int)} {W : List Int} (hok : okG (2 * (n : Int) + 1) gs = true) (hw : ∀ q : Nat, q < gs.length → (1 + (n : Int) + q) ∈ W) : ∀ i, i ≤ gs.length → coneM n W (gs.take i) = (gs.take i, idL (1 + n + i))
  | 0, _ => by
    show ([], 0 :: ownL n) = _
    rw [idL_base]
    rfl
  | i + 1, hi => by
    have ih := cone_id hok hw i (by omega)
    have hp : gs[i]? = some gs[i] := List.getElem?_eq_getElem (by omega)
    generalize gs[i] = p at hp
    rw [cone_take hp, ih]
    obtain ⟨⟨a0, a1⟩, b0, b1⟩ := okG_at hok hp
    have ll : (idL (1 + n + i)).length = 1 + n + i := by
      unfold idL
      rw [List.length_map, List.length_range]
    unfold coneStep
    rw [if_pos (by show ((idL (1 + n + i)).length : Int) ∈ W; rw [ll, show (((1 + n + i : Nat)) : Int) = 1 + (n : Int) + i by omega]; exact hw i (by omega))]
    refine Prod.ext ?_ ?_
    · show gs.take i ++ [(ledL (idL (1 + n + i)) p.1, ledL (idL (1 + n + i)) p.2)] = _
      rw [idL_led a0 (by omega), idL_led b0 (by omega), take_more hp]
    · show idL (1 + n + i) ++ [2 * ((n : Int) + ((gs.take i).length : Int) + 1)] = _
      have e : 2 * ((n : Int) + ((gs.take i).length : Int) + 1) = 2 * ((1 + n + i : Nat) : Int) := by
        rw [List.length_take]
        omega
      rw [e, idL_snoc]
      rfl
theorem cone_again {n : Nat} {gs : List (Int × Int)} {as : List Int} (hok : okG (2 * (n : Int) + 1) gs = true) (ha : ∀ a ∈ as, 0 ≤ a ∧ (a / 2).toNat < 1 + n + gs.length) {S : List (Int × Int) × List Int} (hS : coneM n (want n gs as) gs = S) :
    coneM n (want n S.1 (as.map (ledL S.2))) S.1 = (S.1, idL (1 + n + S.1.length)) ∧ (as.map (ledL S.2)).map (ledL (idL (1 + n + S.1.length))) = as.map (ledL S.2) := by
  subst hS
  have h := want_ok (as := as) hok
  obtain ⟨ok, inb, _⟩ := cone_st h gs.length (Nat.le_refl _)
  rw [List.take_length] at ok inb
  have h2 := want_ok (as := as.map (ledL (coneM n (want n gs as) gs).2)) ok
  have z := cone_id ok (cone_all hok h h2) _ (Nat.le_refl _)
  rw [List.take_length] at z
  refine ⟨z, ?_⟩
  rw [List.map_map]
  refine List.map_congr_left fun a m => ?_
  obtain ⟨a0, a1⟩ := ha a m
  obtain ⟨l0, l1⟩ := led_inN (a := a) (inb _ a1)
  exact idL_led l0 (by omega)
end Ca
namespace Cb
open PySem PySem.Spec PyProof.Rows L2 Pen Dat Ki Fi Gr No Lf Cn Bd Be Bf Bg Bm Bo Bw Bx Ca Us
/-! ## k17: the parts of graphs, by the program -/
theorem mk_use {K : PySem.W.Frag} {C x dx : Addr} {H : Hp} {n : Int} {v : V} {gs : List (Int × Int)} {E : XK} {R : VK} (nx : H x = none) (nd : H dx = none) (n0 : n ≥ 0) (hv : RowG K H v gs) (hz : gs.length ≤ 1000) (hok : okG (2 * n + 1) gs = true) (k : ∀ H', Same H H' → GraphAt K C H' x n gs → R .non H') :
    spInit K C [.ref x, .int n, v] (upd (upd H dx (.own x)) x (.ins C dx [])) R E := by
  have s : Same H (upd (upd H dx (.own x)) x (.ins C dx [])) := fun b o e => by
    rw [upd_ne (ne_of_none e nx), upd_ne (ne_of_none e nd)]
    exact e
  exact ⟨x, dx, n, v, gs, rfl, upd_same, n0, hv.same s, hz, hok, fun H' k9 G => k H' (Same.made nx nd k9) G⟩
theorem ix_at {n j : Nat} {i : Int} (e : i = (j : Int)) (hj : j < n) : ixN n i = some j := by
  subst e
  unfold ixN
  rw [if_pos (by omega), if_pos (by omega)]
  rfl
def RelF (f : List Bool) (W : List Int) (L : Nat) : Prop := f.length = L ∧ ∀ j : Nat, j < L → f.getD j false = decide ((j : Int) ∈ W)
theorem RelF.set {f : List Bool} {W W' : List Int} {L k : Nat} (h : RelF f W L) (hk : k < L) (hw : ∀ j : Int, j ∈ W' ↔ j ∈ W ∨ j = k) : RelF (f.set k true) W' L := by
  obtain ⟨h1, h2⟩ := h
  refine ⟨by rw [List.length_set]; exact h1, fun j hj => ?_⟩
  rw [List.getD_eq_getElem?_getD, List.getElem?_set]
  by_cases c : k = j
  · subst c
    rw [if_pos rfl, if_pos (by omega), decide_eq_true ((hw k).mpr (.inr rfl))]
    rfl
  · rw [if_neg c, ← List.getD_eq_getElem?_getD, h2 j hj]
    have e : ((j : Int) ∈ W) ↔ ((j : Int) ∈ W') := by
      rw [hw]
      exact ⟨.inl, fun h => h.elim id fun e => absurd e (by omega)⟩
    by_cases c2 : (j : Int) ∈ W
    · rw [decide_eq_true c2, decide_eq_true (e.mp c2)]
    · rw [decide_eq_false c2, decide_eq_false fun z => c2 (e.mpr z)]
theorem set_map (f : List Bool) (k : Nat) : (f.map V.bl).set k (V.bl true) = (f.set k true).map V.bl := by
  rw [List.map_set]
structure Tc (K : PySem.W.Frag) (mg : Str → Option Value) (C B fA fG : Addr) : Prop where
  tw : Tw K mg C B fA fG
  rev : mg "reversed" = none
def spOwnL (K : PySem.W.Frag) (C : Addr) : Sp := fun vs H Q _ => ∃ (x : Addr) (n : Nat) (gs : List (Int × Int)), vs = [.ref x] ∧ GraphAt K C H x n gs ∧ n ≤ 1000 ∧ ∀ H' l, Same H H' → H l = none → H' l = some (.lst ((ownL n).map V.int)) → Q (.ref l) H'
def spAnew (K : PySem.W.Frag) (C : Addr) : Sp := fun vs H Q _ => ∃ (x : Addr) (v v2 : V) (n : Nat) (hs : List (Int × Int)) (ls as : List Int), vs = [.ref x, v, v2] ∧ GraphAt K C H x n hs ∧ SeqI K H v ls ∧ SeqI K H v2 as ∧ ls.length = n ∧ n ≤ 400 ∧ hs.length ≤ 400 ∧ okG (2 * (n : Int) + 1) hs = true ∧
  (∀ z ∈ ls, InN n [] z) ∧ (∀ a ∈ as, 0 ≤ a ∧ (a / 2).toNat < 1 + n + hs.length) ∧ as.length ≤ 1000 ∧
  ∀ (H' : Hp) (t g t2 : Addr), Same H H' → H' t = some (.tup [.ref g, .ref t2]) → GraphAt K C H' g n (putM n [] ls hs).1 → H' t2 = some (.tup ((as.map (ledL (putM n [] ls hs).2)).map V.int)) → Q (.ref t) H'
def spPlain (K : PySem.W.Frag) (C : Addr) : Sp := fun vs H Q _ => ∃ (x : Addr) (v2 : V) (n : Nat) (hs : List (Int × Int)) (as : List Int), vs = [.ref x, v2] ∧ GraphAt K C H x n hs ∧ SeqI K H v2 as ∧ n ≤ 400 ∧ hs.length ≤ 400 ∧ okG (2 * (n : Int) + 1) hs = true ∧
  (∀ a ∈ as, 0 ≤ a ∧ (a / 2).toNat < 1 + n + hs.length) ∧ as.length ≤ 1000 ∧
  ∀ (H' : Hp) (t g t2 : Addr), Same H H' → H' t = some (.tup [.ref g, .ref t2]) → GraphAt K C H' g n (putM n [] (ownL n) hs).1 → H' t2 = some (.tup ((as.map (ledL (putM n [] (ownL n) hs).2)).map V.int)) → Q (.ref t) H'
def spNeeded (K : PySem.W.Frag) (C : Addr) : Sp := fun vs H Q _ => ∃ (x : Addr) (v : V) (n : Nat) (gs : List (Int × Int)) (as : List Int), vs = [.ref x, v] ∧ GraphAt K C H x n gs ∧ SeqI K H v as ∧ n ≤ 400 ∧ gs.length ≤ 400 ∧ okG (2 * (n : Int) + 1) gs = true ∧
  (∀ a ∈ as, 0 ≤ a ∧ (a / 2).toNat < 1 + n + gs.length) ∧ ∀ (H' : Hp) (l : Addr) (f : List Bool), Same H H' → H l = none → H' l = some (.lst (f.map V.bl)) → RelF f (want n gs as) (1 + n + gs.length) → Q (.ref l) H'
def spCone (K : PySem.W.Frag) (C : Addr) : Sp := fun vs H Q _ => ∃ (x : Addr) (v : V) (n : Nat) (gs : List (Int × Int)) (as : List Int), vs = [.ref x, v] ∧ GraphAt K C H x n gs ∧ SeqI K H v as ∧ n ≤ 400 ∧ gs.length ≤ 400 ∧ okG (2 * (n : Int) + 1) gs = true ∧
  (∀ a ∈ as, 0 ≤ a ∧ (a / 2).toNat < 1 + n + gs.length) ∧ as.length ≤ 1000 ∧
  ∀ (H' : Hp) (t g t2 : Addr), Same H H' → H' t = some (.tup [.ref g, .ref t2]) → GraphAt K C H' g n (coneM n (want n gs as) gs).1 → H' t2 = some (.tup ((as.map (ledL (coneM n (want n gs as) gs).2)).map V.int)) → Q (.ref t) H'
section
variable {P : Program} {w : World} {K : PySem.W.Frag} {mg : Str → Option Value} {base : Heap} {f B C fA fG : Addr} {fd dA : FuncData}
abbrev nOwnL : List Str := ["graph", "n"]
theorem scOwnL : FnScope nOwnL ["graph"] (defScope sOwnL) := ⟨rfl, rfl, rfl, by decide +kernel, rfl, by decide +kernel, by decide +kernel⟩
abbrev nAnew : List Str := ["graph", "leaves", "literals", "builder", "told"]
theorem scAnew : FnScope nAnew ["graph", "leaves", "literals"] (defScope sAnew) := ⟨rfl, rfl, rfl, by decide +kernel, rfl, by decide +kernel, by decide +kernel⟩
abbrev nPlain : List Str := ["graph", "literals"]
theorem scPlain : FnScope nPlain ["graph", "literals"] (defScope sPlain) := ⟨rfl, rfl, rfl, by decide +kernel, rfl, by decide +kernel, by decide +kernel⟩
abbrev nNeeded : List Str := ["graph", "literals", "first", "needed", "literal", "n", "one", "other"]
theorem scNeeded : FnScope nNeeded ["graph", "literals"] (defScope sNeeded) := ⟨rfl, rfl, rfl, by decide +kernel, rfl, by decide +kernel, by decide +kernel⟩
abbrev nCone : List Str := ["graph", "literals", "needed", "places", "gates", "one", "other", "literal"]
theorem scCone : FnScope nCone ["graph", "literals"] (defScope sCone) := ⟨rfl, rfl, rfl, by decide +kernel, rfl, by decide +kernel, by decide +kernel⟩
theorem ok_ownl (F : FnP K "own_leaves" sOwnL f fd) (T : Tc K mg C B fA fG) : FnOk P w K mg base CX0 1 f fd ["graph"] (spOwnL K C) := by
  refine F.ok scOwnL (fun vs H Q E h => ?_) (fun cdv A outer s H vs Q E hr h => ?_)
  · obtain ⟨x, n, gs, rfl, _⟩ := h
    rfl
  · obtain ⟨x, n, gs, rfl, hG, hz, q⟩ := h
    refine ⟨_, PSs.nox (pss_one (ps_ret (pe_lc (own := [("n", 1)]) (g := gName 1) (tt := tYes) rfl scOwnL.nd (pi_range2 (by rfl) T.tw.lf.range (pa_cons pe_int (pa_cons (pe_op op_add (pe_fld (pv 0) rfl) pe_int) pa_nil))) (blkOk_by (N := nOwnL) (sc := defScope sOwnL) (by decide +kernel)) (fun _ _ _ _ _ => pg_name (i := 1) scOwnL.nd rfl (Or.inl rfl)) (fun _ _ _ _ _ => pts_nil) (fun _ _ _ _ _ => (pe_op op_mul pe_int (pv 1)))))), ?_⟩
    obtain ⟨dg, g, x1, _⟩ := id hG
    refine ⟨_, rfl, x, C, dg, _, _, rfl, x1, T.tw.gr.cl, T.tw.gr.nL, flds_L _ _, _, _, rfl, rfl, 1, (n : Int) + 1, rfl, ⟨by decide, by decide, by omega, by omega⟩, fun D nD => ?_⟩
    refine lc_range (lo := 1) (n := ((n : Int) + 1 - 1).toNat) (fun i H2 => Same H H2 ∧ H2 D = some (.lst (((List.range i).map fun (k : Nat) => 2 * ((k : Int) + 1)).map V.int))) ⟨same_new nD, upd_same⟩ ?_ ?_
    · rintro i H2 hi ⟨s2, h2⟩
      refine ⟨rfl, yes_of ?_⟩
      refine ⟨_, rfl, _, _, rfl, rfl, .inl ⟨by decide, by decide⟩, _, h2, ?_, fun b o e => ?_, ?_⟩
      · rw [List.length_map, List.length_map, List.length_range]
        exact Nat.lt_of_lt_of_le (by omega : i < 2000) (by decide)
      · rw [upd_ne (ne_of_none e nD)]
        exact s2 _ _ e
      · rw [upd_same, List.range_succ, List.map_append, List.map_append]
        have e : 2 * (1 + (i : Int)) = 2 * ((i : Int) + 1) := by omega
        show some (HO.lst (_ ++ [V.int (2 * (1 + (i : Int)))])) = _
        rw [e]
        rfl
    · rintro H2 ⟨s2, h2⟩
      have e : ((n : Int) + 1 - 1).toNat = n := by omega
      rw [e] at h2
      exact q H2 D s2 nD h2
theorem ok_anew {fU fB : Addr} {dG dU dB : FuncData} (F : FnP K "made_anew" sAnew f fd) (T : Tw K mg C B fA fG) (GG : FnOk P w K mg base CX0 6 fG dG ["self"] (spBGraph K C B)) (bG : Binds K dG ["self"] [])
    (GU : FnOk P w K mg base CX0 2 fU dU ["builder", "graph", "leaves", "literals"] (spPut K C B)) (gU : mg "put_into" = some (.ref fU)) (kU : PySem.W.keepIn K (.ref fU) = true) (bU : Binds K dU ["builder", "graph", "leaves", "literals"] [])
    (MB : Mk K B fB) (GB : FnOk P w K mg base CX0 3 fB dB ["self", "leaves"] (spBInit K B)) (gB : mg "Builder" = some (.ref B)) (bB : Binds K dB ["self", "leaves"] []) :
    FnOk P w K mg base CX0 7 f fd ["graph", "leaves", "literals"] (spAnew K C) := by
  refine F.ok scAnew (fun vs H Q E h => ?_) (fun cdv A outer s H vs Q E hr h => ?_)
  · obtain ⟨x, v, v2, n, hs, ls, as, rfl, _⟩ := h
    rfl
  · obtain ⟨x, v, v2, n, hs, ls, as, rfl, hG, hv, hv2, lm, n4, hz, hok, lin, has, asl, q⟩ := h
    refine ⟨_, PSs.nox (pss_cons (ps_set (i := 3) scAnew.nd rfl (Or.inl rfl) (pe_make MB GB (hr.mono (by decide)) (by rfl) gB bB .nil pass0 (pa_cons (pe_fld (pv 0) rfl) pa_nil)))
      (pss_cons (ps_set (i := 4) scAnew.nd rfl (Or.inl rfl) (pe_call GU (hr.mono (by decide)) (by rfl) gU kU bU .nil pass0 (pa_cons (pv 3) (pa_cons (pv 0) (pa_cons (pv 1) (pa_cons (pv 2) pa_nil))))))
      (pss_one (ps_ret (pe_tup (pa_cons (pe_meth0 (pv 3) T.ty.t.cl T.mG GG (hr.mono (by decide)) bG .nil pass0) (pa_cons (pv 4) pa_nil))))))), ?_⟩
    obtain ⟨dg, g, x1, _⟩ := id hG
    refine ⟨_, rfl, x, C, dg, _, _, rfl, x1, T.gr.cl, T.gr.nL, flds_L _ _, fun y dx ny nd _ => ⟨y, dx, n, rfl, upd_same, by omega, fun H1 gl sd k1 hB hgl hsd => ⟨rfl, ?_⟩⟩⟩
    have s1 : Same H H1 := fun d u e => by
      have nxd := ne_of_none e ny
      refine k1 d u ?_ nxd
      rw [upd_ne nxd, upd_ne (ne_of_none e nd)]
      exact e
    have hg0 : H gl = none := by
      cases e : H gl with
      | none => rfl
      | some u =>
        rw [upd_ne (ne_of_none e ny), upd_ne (ne_of_none e nd), e] at hgl
        cases hgl
    have hs0 : H sd = none := by
      cases e : H sd with
      | none => rfl
      | some u =>
        rw [upd_ne (ne_of_none e ny), upd_ne (ne_of_none e nd), e] at hsd
        cases hsd
    obtain ⟨t, rfl, ht⟩ := hv2
    have z := zeros_len n
    have lin0 : ∀ z ∈ 0 :: ls, InN n [] z := fun z hz => by
      rcases List.mem_cons.mp hz with rfl | hz
      · exact ⟨Int.le_refl _, by show (0 : Int) ≤ 2 * ((n : Int) + ((0 : Nat) : Int)) + 1; omega⟩
      · exact lin z hz
    obtain ⟨u1, _, u3, u4⟩ := put_ok (n := n) hs (gs := []) (ls := 0 :: ls) rfl lin0
    have l4 : (putM n [] ls hs).1.length ≤ 0 + hs.length := u4
    refine ⟨_, rfl, _, rfl, _, rfl, _, rfl, y, gl, sd, x, t, v, n, n, [], hs, ls, as, rfl, hB, hG.firm (Firm.of s1), hv.same s1, ht.imp (fun h => ⟨s1.seq h, fun H2 k2 => ?_⟩) (fun h => seqT_same s1 h), by omega, lm, by omega, by show 0 + hs.length ≤ 3900; omega, (fun z hz => (lin z hz).1), hok, has, asl, fun H2 t2 k2 f2 B2 ht2 => ?_⟩
    · rcases h with (h | ⟨o, h⟩) | h
      · exact .inl (.inl (k2 _ _ (s1 _ _ h) (ne_of_none h hg0) (ne_of_none h hs0)))
      · exact .inl (.inr ⟨o, k2 _ _ (s1 _ _ h) (ne_of_none h hg0) (ne_of_none h hs0)⟩)
      · exact .inr h
    · have s2 : Same H H2 := fun d u e => k2 _ _ (s1 _ _ e) (ne_of_none e hg0) (ne_of_none e hs0)
      obtain ⟨dx2, ws2, kvs2, hb2, _⟩ := id B2
      refine ⟨_, rfl, y, dx2, _, rfl, hb2, lkG _ _ _, y, gl, sd, n, _, rfl, B2, by omega, by omega, u1, fun H3 g3 s3 G3 => ?_⟩
      refine ⟨_, rfl, (by show 2 ≤ sizeLine; decide), fun t4 nt4 => ?_⟩
      have s4 := same_new (u := .tup [V.ref g3, V.ref t2]) nt4
      exact q _ t4 g3 t2 (s2.trans (s3.trans s4)) upd_same (G3.firm (Firm.of s4)) (s4 _ _ (s3 _ _ ht2))
theorem ok_plain {fN fL : Addr} {dN dL : FuncData} (F : FnP K "plain" sPlain f fd)
    (GN : FnOk P w K mg base CX0 7 fN dN ["graph", "leaves", "literals"] (spAnew K C)) (gN : mg "made_anew" = some (.ref fN)) (kN : PySem.W.keepIn K (.ref fN) = true) (bN : Binds K dN ["graph", "leaves", "literals"] [])
    (GL : FnOk P w K mg base CX0 1 fL dL ["graph"] (spOwnL K C)) (gL : mg "own_leaves" = some (.ref fL)) (kL : PySem.W.keepIn K (.ref fL) = true) (bL : Binds K dL ["graph"] []) :
    FnOk P w K mg base CX0 8 f fd ["graph", "literals"] (spPlain K C) := by
  refine F.ok scPlain (fun vs H Q E h => ?_) (fun cdv A outer s H vs Q E hr h => ?_)
  · obtain ⟨x, v2, n, hs, as, rfl, _⟩ := h
    rfl
  · obtain ⟨x, v2, n, hs, as, rfl, hG, hv2, n4, hz, hok, has, asl, q⟩ := h
    refine ⟨_, PSs.nox (pss_one (ps_ret (pe_call GN (hr.mono (by decide)) (by rfl) gN kN bN .nil pass0 (pa_cons (pv 0) (pa_cons (pe_call GL (hr.mono (by decide)) (by rfl) gL kL bL .nil pass0 (pa_cons (pv 0) pa_nil)) (pa_cons (pv 1) pa_nil)))))), ?_⟩
    refine ⟨_, rfl, _, rfl, x, n, hs, rfl, hG, by omega, fun H1 l s1 _ h1 => ?_⟩
    exact ⟨_, rfl, x, .ref l, v2, n, hs, ownL n, as, rfl, hG.firm (Firm.of s1), ⟨l, rfl, .inl (SqL.of h1)⟩, hv2.same s1, ownL_len n, n4, hz, hok, ownL_in, has, asl, fun H2 t g t2 s2 e1 e2 e3 => q H2 t g t2 (s1.trans s2) e1 e2 e3⟩
theorem ok_needed (F : FnP K "needed_gates" sNeeded f fd) (T : Tc K mg C B fA fG) : FnOk P w K mg base CX0 1 f fd ["graph", "literals"] (spNeeded K C) := by
  refine F.ok scNeeded (fun vs H Q E h => ?_) (fun cdv A outer s H vs Q E hr h => ?_)
  · obtain ⟨x, v, n, gs, as, rfl, _⟩ := h
    rfl
  · obtain ⟨x, v, n, gs, as, rfl, hG, ⟨t, rfl, ht⟩, n4, hz, hok, has, q⟩ := h
    obtain ⟨dg, g, x1, ps, hg, ha⟩ := id hG
    rcases ht with ht | ht
    · refine ⟨_, PSs.nox (pss_cons (ps_set (i := 2) scNeeded.nd rfl (Or.inl rfl) (pe_op op_add (pe_fld (pv 0) rfl) pe_int))
      (pss_cons (ps_set (i := 3) scNeeded.nd rfl (Or.inl rfl) (pe_op op_rep (pe_lst (pa_cons pe_bl pa_nil)) (pe_op op_add (pv 2) (pe_callB call_len_seq (by rfl) T.tw.gr.ki.len PySem.boot_len (pa_cons (pe_fld (pv 0) rfl) pa_nil)))))
      (pss_cons (ps_for PassesOwn.never rfl (pi_list (pv 1)) (pg_name (i := 4) scNeeded.nd rfl (Or.inl rfl))
        (pss_one (ps_asg pe_bl (pg_sub (pv 3) (pe_op op_shr (pv 4) pe_int) set_list))))
      (pss_cons (ps_for PassesOwn.never rfl (pi_revR (by rfl) T.rev (prg_2 (by rfl) T.tw.lf.range (pv 2) (pe_callB call_len_seq (by rfl) T.tw.gr.ki.len PySem.boot_len (pa_cons (pv 3) pa_nil)))) (pg_name (i := 5) scNeeded.nd rfl (Or.inl rfl))
        (pss_one (ps_if (pt_val (pe_ix ix_list (pv 3) (pv 5) (fun _ _ => rfl)))
          (pss_cons (ps_asg (pe_ix (r := L2.rIxT K) (by exact ix_tup) (pe_fld (pv 0) rfl) (pe_op op_sub (pv 5) (pv 2)) (fun _ _ => rfl)) (pg_tup rfl (pgs_cons (pg_name (i := 6) scNeeded.nd rfl (Or.inl rfl)) (pgs_cons (pg_name (i := 7) scNeeded.nd rfl (Or.inl rfl)) pgs_nil))))
          (pss_cons (ps_asg pe_bl (pg_sub (pv 3) (pe_op op_shr (pv 6) pe_int) set_list))
          (pss_one (ps_asg pe_bl (pg_sub (pv 3) (pe_op op_shr (pv 7) pe_int) set_list)))))
          pss_nil)))
      (pss_one (ps_ret (pv 3))))))), ?_⟩
      refine ⟨_, rfl, x, C, dg, _, _, rfl, x1, T.tw.gr.cl, T.tw.gr.nL, flds_L _ _, _, _, rfl, rfl, ?_⟩
      refine ⟨(by show 1 ≤ sizeLine; decide), fun l0 n0 => ?_⟩
      have s0 := same_new (u := .lst [V.bl false]) n0
      have h0 := upd_same (H := H) (a := l0) (o := .lst [V.bl false])
      generalize upd H l0 (.lst [V.bl false]) = H0 at s0 h0 ⊢
      refine ⟨_, rfl, _, rfl, x, C, dg, _, _, rfl, s0 _ _ x1, T.tw.gr.cl, T.tw.gr.nG, flds_G _ _, g, ps, rfl, .inr (seqT_same s0 hg), _, _, rfl, rfl, ?_⟩
      rw [ha.len]
      have eL : ((n : Int) + 1 + (gs.length : Int)).toNat = 1 + n + gs.length := by omega
      refine ⟨l0, _, _, rfl, rfl, h0, by omega, by omega, ?_, fun l nl => ?_⟩
      · rw [eL]
        exact Nat.le_trans (by show 1 * _ ≤ 5000; omega) (by decide)
      have rep : (List.replicate ((n : Int) + 1 + (gs.length : Int)).toNat [V.bl false]).flatten = (List.replicate (1 + n + gs.length) false).map V.bl := by
        rw [eL]
        generalize 1 + n + gs.length = L
        induction L with
        | zero => rfl
        | succ L ih =>
          rw [List.replicate_succ, List.flatten_cons, ih]
          rfl
      rw [rep]
      have nl0 : H l = none := s0.free nl
      have s1 := s0.trans (same_new (u := .lst ((List.replicate (1 + n + gs.length) false).map V.bl)) nl)
      have h1 := upd_same (H := H0) (a := l) (o := .lst ((List.replicate (1 + n + gs.length) false).map V.bl))
      generalize upd H0 l (.lst ((List.replicate (1 + n + gs.length) false).map V.bl)) = H1 at s1 h1 ⊢
      clear s0 h0 nl rep
      have R0 : RelF (List.replicate (1 + n + gs.length) false) ((as.take 0).map fun a => a / 2) (1 + n + gs.length) := by
        refine ⟨List.length_replicate .., fun j hj => ?_⟩
        rw [List.getD_eq_getElem?_getD, List.getElem?_replicate]
        rw [if_pos hj]
        rfl
      refine ⟨_, rfl, t, rfl, ⟨_, (s1).seq ht⟩, for_list (K := K) (a := t) (xs := as.map V.int)
        (fun i σ H2 => ∃ (x4 : Option V) (fl : List Bool), σ = [some (.ref x), some (.ref t), some (.int ((n : Int) + 1)), some (.ref l), x4, none, none, none] ∧ Same H H2 ∧ H2 l = some (.lst (fl.map V.bl)) ∧ RelF fl ((as.take i).map fun a => a / 2) (1 + n + gs.length))
        ⟨none, _, rfl, s1, h1, R0⟩ (fun i σ H2 _ ⟨_, _, _, s2, _⟩ => (s2).seq ht) ?_ ?_⟩
      · rintro i y σ H2 hi ⟨x4, fl, rfl, s2, h2, R2⟩
        obtain ⟨a, rfl, ea⟩ := int_at hi
        obtain ⟨a0, a1⟩ := has a (List.mem_of_getElem? ea)
        have e : a / 2 ^ (1 : Int).toNat = (((a / 2).toNat : Nat) : Int) := by
          show a / 2 = _
          omega
        refine ⟨_, rfl, _, rfl, _, _, rfl, rfl, (by show (0 : Int) ≤ 1; decide), l, _, _, _, rfl, rfl, h2, ix_at e (by rw [List.length_map, R2.1]; exact a1), ?_⟩
        refine ⟨_, fl.set (a / 2).toNat true, rfl, fun b o q => ?_, ?_, R2.set a1 fun j => ?_⟩
        · rw [upd_ne (ne_of_none q nl0)]
          exact s2 _ _ q
        · rw [upd_same, set_map]
        · rw [take_more ea, List.map_append, List.mem_append]
          refine or_congr Iff.rfl ?_
          rw [List.map_singleton, List.mem_singleton]
          have : (((a / 2).toNat : Nat) : Int) = a / 2 := by omega
          rw [this]
      rintro σ H2 ⟨x4, fl, rfl, s2, h2, R2⟩
      rw [List.length_map, List.take_length] at R2
      refine ⟨_, rfl, _, rfl, l, _, rfl, .inl (SqL.of h2), (n : Int) + 1, ((fl.map V.bl).length : Int), rfl, rfl, by omega, by omega, by omega, by rw [List.length_map, R2.1]; omega, ?_⟩
      have el : (((fl.map V.bl).length : Nat) : Int) = 1 + n + gs.length := by
        rw [List.length_map, R2.1]
        omega
      rw [el]
      have e2 : (1 + (n : Int) + gs.length - ((n : Int) + 1)).toNat = gs.length := by omega
      rw [e2]
      refine for_rangeC (lo := (n : Int) + 1 + (gs.length : Int) - 1) (c := -1) (n := gs.length)
        (fun i σ H3 => ∃ (x5 x6 x7 : Option V) (fl W : _), σ = [some (.ref x), some (.ref t), some (.int ((n : Int) + 1)), some (.ref l), x4, x5, x6, x7] ∧ Same H H3 ∧ H3 l = some (.lst (fl.map V.bl)) ∧ RelF fl W (1 + n + gs.length) ∧ wantB n gs (gs.length - i) W = want n gs as)
        ⟨none, none, none, fl, _, rfl, s2, h2, R2, rfl⟩ ?_ ?_
      · rintro i σ H3 hi ⟨x5, x6, x7, fl, W, rfl, s3, h3, R3, w3⟩
        have hk : gs.length - i = (gs.length - (i + 1)) + 1 := by omega
        rw [hk] at w3
        have hkl : gs.length - (i + 1) < gs.length := by omega
        have hix : (n : Int) + 1 + (gs.length : Int) - 1 + (i : Int) * -1 = ((1 + n + (gs.length - (i + 1)) : Nat) : Int) := by omega
        generalize gs.length - (i + 1) = k at w3 hkl hix ⊢
        rw [hix]
        have jl : 1 + n + k < 1 + n + gs.length := by omega
        have hat : (fl.map V.bl)[1 + n + k]? = some (V.bl (decide (((1 + n + k : Nat) : Int) ∈ W))) := by
          have z := R3.2 _ jl
          rw [List.getD_eq_getElem?_getD, List.getElem?_eq_getElem (by rw [R3.1]; exact jl)] at z
          rw [List.getElem?_map, List.getElem?_eq_getElem (by rw [R3.1]; exact jl)]
          exact congrArg (fun b => some (V.bl b)) z
        refine ⟨_, rfl, _, rfl, l, _, _, _, rfl, rfl, SqL.of h3, at_of (j := 1 + n + k) rfl hat, _, rfl, ?_⟩
        have em : (((1 + n + k : Nat) : Int) ∈ W) ↔ ((1 + (n : Int) + k) ∈ W) := by
          have : ((1 + n + k : Nat) : Int) = 1 + (n : Int) + k := by omega
          rw [this]
        have hp : gs[k]? = some (gs.getD k (0, 0)) := by
          rw [List.getD_eq_getElem?_getD, List.getElem?_eq_getElem hkl]
          rfl
        by_cases c : (1 + (n : Int) + k) ∈ W
        · rw [decide_eq_true (em.mpr c)]
          refine iteT ?_
          have w4 : wantB n gs k (W ++ [(gs.getD k (0, 0)).1 / 2, (gs.getD k (0, 0)).2 / 2]) = want n gs as := by
            rw [← w3]
            show _ = wantB n gs k (if _ then _ else _)
            rw [if_pos c]
          obtain ⟨u, hu, q0, rfl, hq⟩ := ha.get' hp
          obtain ⟨⟨a0, a1⟩, b0, b1⟩ := okG_at hok hp
          generalize gs.getD k (0, 0) = p at w4 hp hq a0 a1 b0 b1
          have x13 := s3 _ _ x1
          refine ⟨_, rfl, x, C, dg, _, _, rfl, x13, T.tw.gr.cl, T.tw.gr.nG, flds_G _ _, _, rfl, _, rfl, _, _, rfl, rfl, g, ps, _, _, rfl, rfl, seqT_same s3 hg, at_of (j := k) (by omega) hu, q0, _, rfl, seqT_same s3 hq, rfl, _, _, rfl, _, _, rfl, rfl, ?_⟩
          have ep : ∀ a : Int, 0 ≤ a → a / 2 ^ (1 : Int).toNat = (((a / 2).toNat : Nat) : Int) := fun a a0 => by
            show a / 2 = _
            omega
          have la : (p.1 / 2).toNat < 1 + n + gs.length := by omega
          have lb : (p.2 / 2).toNat < 1 + n + gs.length := by omega
          have R4 : RelF (fl.set (p.1 / 2).toNat true) (W ++ [p.1 / 2]) (1 + n + gs.length) := R3.set la fun j => by
            rw [List.mem_append, List.mem_singleton]
            have : (((p.1 / 2).toNat : Nat) : Int) = p.1 / 2 := by omega
            rw [this]
          have R5 : RelF ((fl.set (p.1 / 2).toNat true).set (p.2 / 2).toNat true) (W ++ [p.1 / 2, p.2 / 2]) (1 + n + gs.length) := R4.set lb fun j => by
            have : (((p.2 / 2).toNat : Nat) : Int) = p.2 / 2 := by omega
            rw [this, show W ++ [p.1 / 2, p.2 / 2] = (W ++ [p.1 / 2]) ++ [p.2 / 2] by rw [List.append_assoc]; rfl, List.mem_append, List.mem_singleton]
          refine ⟨_, rfl, _, rfl, _, _, rfl, rfl, (by show (0 : Int) ≤ 1; decide), l, _, _, _, rfl, rfl, h3, ix_at (ep _ a0) (by rw [List.length_map, R3.1]; exact la), ?_⟩
          rw [set_map]
          refine ⟨_, rfl, _, rfl, _, _, rfl, rfl, (by show (0 : Int) ≤ 1; decide), l, _, _, _, rfl, rfl, upd_same, ix_at (ep _ b0) (by rw [List.length_map, R4.1]; exact lb), ?_⟩
          rw [set_map, upd_upd]
          refine ⟨_, _, _, _, _, rfl, fun b o q => ?_, upd_same, R5, w4⟩
          rw [upd_ne (ne_of_none q nl0)]
          exact s3 _ _ q
        · rw [decide_eq_false fun z => c (em.mp z)]
          refine iteF ⟨_, _, _, fl, W, rfl, s3, h3, R3, ?_⟩
          rw [← w3]
          show _ = wantB n gs k (if _ then _ else _)
          rw [if_neg c]
      · rintro σ H3 ⟨x5, x6, x7, fl, W, rfl, s3, h3, R3, w3⟩
        rw [Nat.sub_self] at w3
        have w3 : W = want n gs as := w3
        rw [w3] at R3
        exact ⟨_, rfl, q H3 l fl s3 nl0 h3 R3⟩
    · refine ⟨_, PSs.nox (pss_cons (ps_set (i := 2) scNeeded.nd rfl (Or.inl rfl) (pe_op op_add (pe_fld (pv 0) rfl) pe_int))
      (pss_cons (ps_set (i := 3) scNeeded.nd rfl (Or.inl rfl) (pe_op op_rep (pe_lst (pa_cons pe_bl pa_nil)) (pe_op op_add (pv 2) (pe_callB call_len_seq (by rfl) T.tw.gr.ki.len PySem.boot_len (pa_cons (pe_fld (pv 0) rfl) pa_nil)))))
      (pss_cons (ps_for PassesOwn.never rfl (pi_tup (pv 1)) (pg_name (i := 4) scNeeded.nd rfl (Or.inl rfl))
        (pss_one (ps_asg pe_bl (pg_sub (pv 3) (pe_op op_shr (pv 4) pe_int) set_list))))
      (pss_cons (ps_for PassesOwn.never rfl (pi_revR (by rfl) T.rev (prg_2 (by rfl) T.tw.lf.range (pv 2) (pe_callB call_len_seq (by rfl) T.tw.gr.ki.len PySem.boot_len (pa_cons (pv 3) pa_nil)))) (pg_name (i := 5) scNeeded.nd rfl (Or.inl rfl))
        (pss_one (ps_if (pt_val (pe_ix ix_list (pv 3) (pv 5) (fun _ _ => rfl)))
          (pss_cons (ps_asg (pe_ix (r := L2.rIxT K) (by exact ix_tup) (pe_fld (pv 0) rfl) (pe_op op_sub (pv 5) (pv 2)) (fun _ _ => rfl)) (pg_tup rfl (pgs_cons (pg_name (i := 6) scNeeded.nd rfl (Or.inl rfl)) (pgs_cons (pg_name (i := 7) scNeeded.nd rfl (Or.inl rfl)) pgs_nil))))
          (pss_cons (ps_asg pe_bl (pg_sub (pv 3) (pe_op op_shr (pv 6) pe_int) set_list))
          (pss_one (ps_asg pe_bl (pg_sub (pv 3) (pe_op op_shr (pv 7) pe_int) set_list)))))
          pss_nil)))
      (pss_one (ps_ret (pv 3))))))), ?_⟩
      refine ⟨_, rfl, x, C, dg, _, _, rfl, x1, T.tw.gr.cl, T.tw.gr.nL, flds_L _ _, _, _, rfl, rfl, ?_⟩
      refine ⟨(by show 1 ≤ sizeLine; decide), fun l0 n0 => ?_⟩
      have s0 := same_new (u := .lst [V.bl false]) n0
      have h0 := upd_same (H := H) (a := l0) (o := .lst [V.bl false])
      generalize upd H l0 (.lst [V.bl false]) = H0 at s0 h0 ⊢
      refine ⟨_, rfl, _, rfl, x, C, dg, _, _, rfl, s0 _ _ x1, T.tw.gr.cl, T.tw.gr.nG, flds_G _ _, g, ps, rfl, .inr (seqT_same s0 hg), _, _, rfl, rfl, ?_⟩
      rw [ha.len]
      have eL : ((n : Int) + 1 + (gs.length : Int)).toNat = 1 + n + gs.length := by omega
      refine ⟨l0, _, _, rfl, rfl, h0, by omega, by omega, ?_, fun l nl => ?_⟩
      · rw [eL]
        exact Nat.le_trans (by show 1 * _ ≤ 5000; omega) (by decide)
      have rep : (List.replicate ((n : Int) + 1 + (gs.length : Int)).toNat [V.bl false]).flatten = (List.replicate (1 + n + gs.length) false).map V.bl := by
        rw [eL]
        generalize 1 + n + gs.length = L
        induction L with
        | zero => rfl
        | succ L ih =>
          rw [List.replicate_succ, List.flatten_cons, ih]
          rfl
      rw [rep]
      have nl0 : H l = none := s0.free nl
      have s1 := s0.trans (same_new (u := .lst ((List.replicate (1 + n + gs.length) false).map V.bl)) nl)
      have h1 := upd_same (H := H0) (a := l) (o := .lst ((List.replicate (1 + n + gs.length) false).map V.bl))
      generalize upd H0 l (.lst ((List.replicate (1 + n + gs.length) false).map V.bl)) = H1 at s1 h1 ⊢
      clear s0 h0 nl rep
      have R0 : RelF (List.replicate (1 + n + gs.length) false) ((as.take 0).map fun a => a / 2) (1 + n + gs.length) := by
        refine ⟨List.length_replicate .., fun j hj => ?_⟩
        rw [List.getD_eq_getElem?_getD, List.getElem?_replicate]
        rw [if_pos hj]
        rfl
      refine ⟨_, rfl, t, rfl, ⟨_, seqT_same (s1) ht⟩, for_tup (K := K) (a := t) (xs := as.map V.int)
        (fun i σ H2 => ∃ (x4 : Option V) (fl : List Bool), σ = [some (.ref x), some (.ref t), some (.int ((n : Int) + 1)), some (.ref l), x4, none, none, none] ∧ Same H H2 ∧ H2 l = some (.lst (fl.map V.bl)) ∧ RelF fl ((as.take i).map fun a => a / 2) (1 + n + gs.length))
        ⟨none, _, rfl, s1, h1, R0⟩ (fun i σ H2 _ ⟨_, _, _, s2, _⟩ => seqT_same (s2) ht) ?_ ?_⟩
      · rintro i y σ H2 hi ⟨x4, fl, rfl, s2, h2, R2⟩
        obtain ⟨a, rfl, ea⟩ := int_at hi
        obtain ⟨a0, a1⟩ := has a (List.mem_of_getElem? ea)
        have e : a / 2 ^ (1 : Int).toNat = (((a / 2).toNat : Nat) : Int) := by
          show a / 2 = _
          omega
        refine ⟨_, rfl, _, rfl, _, _, rfl, rfl, (by show (0 : Int) ≤ 1; decide), l, _, _, _, rfl, rfl, h2, ix_at e (by rw [List.length_map, R2.1]; exact a1), ?_⟩
        refine ⟨_, fl.set (a / 2).toNat true, rfl, fun b o q => ?_, ?_, R2.set a1 fun j => ?_⟩
        · rw [upd_ne (ne_of_none q nl0)]
          exact s2 _ _ q
        · rw [upd_same, set_map]
        · rw [take_more ea, List.map_append, List.mem_append]
          refine or_congr Iff.rfl ?_
          rw [List.map_singleton, List.mem_singleton]
          have : (((a / 2).toNat : Nat) : Int) = a / 2 := by omega
          rw [this]
      rintro σ H2 ⟨x4, fl, rfl, s2, h2, R2⟩
      rw [List.length_map, List.take_length] at R2
      refine ⟨_, rfl, _, rfl, l, _, rfl, .inl (SqL.of h2), (n : Int) + 1, ((fl.map V.bl).length : Int), rfl, rfl, by omega, by omega, by omega, by rw [List.length_map, R2.1]; omega, ?_⟩
      have el : (((fl.map V.bl).length : Nat) : Int) = 1 + n + gs.length := by
        rw [List.length_map, R2.1]
        omega
      rw [el]
      have e2 : (1 + (n : Int) + gs.length - ((n : Int) + 1)).toNat = gs.length := by omega
      rw [e2]
      refine for_rangeC (lo := (n : Int) + 1 + (gs.length : Int) - 1) (c := -1) (n := gs.length)
        (fun i σ H3 => ∃ (x5 x6 x7 : Option V) (fl W : _), σ = [some (.ref x), some (.ref t), some (.int ((n : Int) + 1)), some (.ref l), x4, x5, x6, x7] ∧ Same H H3 ∧ H3 l = some (.lst (fl.map V.bl)) ∧ RelF fl W (1 + n + gs.length) ∧ wantB n gs (gs.length - i) W = want n gs as)
        ⟨none, none, none, fl, _, rfl, s2, h2, R2, rfl⟩ ?_ ?_
      · rintro i σ H3 hi ⟨x5, x6, x7, fl, W, rfl, s3, h3, R3, w3⟩
        have hk : gs.length - i = (gs.length - (i + 1)) + 1 := by omega
        rw [hk] at w3
        have hkl : gs.length - (i + 1) < gs.length := by omega
        have hix : (n : Int) + 1 + (gs.length : Int) - 1 + (i : Int) * -1 = ((1 + n + (gs.length - (i + 1)) : Nat) : Int) := by omega
        generalize gs.length - (i + 1) = k at w3 hkl hix ⊢
        rw [hix]
        have jl : 1 + n + k < 1 + n + gs.length := by omega
        have hat : (fl.map V.bl)[1 + n + k]? = some (V.bl (decide (((1 + n + k : Nat) : Int) ∈ W))) := by
          have z := R3.2 _ jl
          rw [List.getD_eq_getElem?_getD, List.getElem?_eq_getElem (by rw [R3.1]; exact jl)] at z
          rw [List.getElem?_map, List.getElem?_eq_getElem (by rw [R3.1]; exact jl)]
          exact congrArg (fun b => some (V.bl b)) z
        refine ⟨_, rfl, _, rfl, l, _, _, _, rfl, rfl, SqL.of h3, at_of (j := 1 + n + k) rfl hat, _, rfl, ?_⟩
        have em : (((1 + n + k : Nat) : Int) ∈ W) ↔ ((1 + (n : Int) + k) ∈ W) := by
          have : ((1 + n + k : Nat) : Int) = 1 + (n : Int) + k := by omega
          rw [this]
        have hp : gs[k]? = some (gs.getD k (0, 0)) := by
          rw [List.getD_eq_getElem?_getD, List.getElem?_eq_getElem hkl]
          rfl
        by_cases c : (1 + (n : Int) + k) ∈ W
        · rw [decide_eq_true (em.mpr c)]
          refine iteT ?_
          have w4 : wantB n gs k (W ++ [(gs.getD k (0, 0)).1 / 2, (gs.getD k (0, 0)).2 / 2]) = want n gs as := by
            rw [← w3]
            show _ = wantB n gs k (if _ then _ else _)
            rw [if_pos c]
          obtain ⟨u, hu, q0, rfl, hq⟩ := ha.get' hp
          obtain ⟨⟨a0, a1⟩, b0, b1⟩ := okG_at hok hp
          generalize gs.getD k (0, 0) = p at w4 hp hq a0 a1 b0 b1
          have x13 := s3 _ _ x1
          refine ⟨_, rfl, x, C, dg, _, _, rfl, x13, T.tw.gr.cl, T.tw.gr.nG, flds_G _ _, _, rfl, _, rfl, _, _, rfl, rfl, g, ps, _, _, rfl, rfl, seqT_same s3 hg, at_of (j := k) (by omega) hu, q0, _, rfl, seqT_same s3 hq, rfl, _, _, rfl, _, _, rfl, rfl, ?_⟩
          have ep : ∀ a : Int, 0 ≤ a → a / 2 ^ (1 : Int).toNat = (((a / 2).toNat : Nat) : Int) := fun a a0 => by
            show a / 2 = _
            omega
          have la : (p.1 / 2).toNat < 1 + n + gs.length := by omega
          have lb : (p.2 / 2).toNat < 1 + n + gs.length := by omega
          have R4 : RelF (fl.set (p.1 / 2).toNat true) (W ++ [p.1 / 2]) (1 + n + gs.length) := R3.set la fun j => by
            rw [List.mem_append, List.mem_singleton]
            have : (((p.1 / 2).toNat : Nat) : Int) = p.1 / 2 := by omega
            rw [this]
          have R5 : RelF ((fl.set (p.1 / 2).toNat true).set (p.2 / 2).toNat true) (W ++ [p.1 / 2, p.2 / 2]) (1 + n + gs.length) := R4.set lb fun j => by
            have : (((p.2 / 2).toNat : Nat) : Int) = p.2 / 2 := by omega
            rw [this, show W ++ [p.1 / 2, p.2 / 2] = (W ++ [p.1 / 2]) ++ [p.2 / 2] by rw [List.append_assoc]; rfl, List.mem_append, List.mem_singleton]
          refine ⟨_, rfl, _, rfl, _, _, rfl, rfl, (by show (0 : Int) ≤ 1; decide), l, _, _, _, rfl, rfl, h3, ix_at (ep _ a0) (by rw [List.length_map, R3.1]; exact la), ?_⟩
          rw [set_map]
          refine ⟨_, rfl, _, rfl, _, _, rfl, rfl, (by show (0 : Int) ≤ 1; decide), l, _, _, _, rfl, rfl, upd_same, ix_at (ep _ b0) (by rw [List.length_map, R4.1]; exact lb), ?_⟩
          rw [set_map, upd_upd]
          refine ⟨_, _, _, _, _, rfl, fun b o q => ?_, upd_same, R5, w4⟩
          rw [upd_ne (ne_of_none q nl0)]
          exact s3 _ _ q
        · rw [decide_eq_false fun z => c (em.mp z)]
          refine iteF ⟨_, _, _, fl, W, rfl, s3, h3, R3, ?_⟩
          rw [← w3]
          show _ = wantB n gs k (if _ then _ else _)
          rw [if_neg c]
      · rintro σ H3 ⟨x5, x6, x7, fl, W, rfl, s3, h3, R3, w3⟩
        rw [Nat.sub_self] at w3
        have w3 : W = want n gs as := w3
        rw [w3] at R3
        exact ⟨_, rfl, q H3 l fl s3 nl0 h3 R3⟩
theorem ok_cone {fE fL fI fM : Addr} {dE dL dI dM : FuncData} (F : FnP K "cone" sCone f fd) (T : Tc K mg C B fA fG)
    (GE : FnOk P w K mg base CX0 1 fE dE ["graph", "literals"] (spNeeded K C)) (gE : mg "needed_gates" = some (.ref fE)) (kE : PySem.W.keepIn K (.ref fE) = true) (bE : Binds K dE ["graph", "literals"] [])
    (GL : FnOk P w K mg base CX0 1 fL dL ["graph"] (spOwnL K C)) (gL : mg "own_leaves" = some (.ref fL)) (kL : PySem.W.keepIn K (.ref fL) = true) (bL : Binds K dL ["graph"] [])
    (GI : FnOk P w K mg base CX0 1 fI dI ["places", "literal"] (spLitIn K)) (gI : mg "literal_in" = some (.ref fI)) (kI : PySem.W.keepIn K (.ref fI) = true) (bI : Binds K dI ["places", "literal"] [])
    (MM : Mk K C fM) (GM : FnOk P w K mg base CX0 4 fM dM ["self", "leaves", "gates"] (spInit K C)) (gM : mg "Graph" = some (.ref C)) (bM : Binds K dM ["self", "leaves", "gates"] []) :
    FnOk P w K mg base CX0 6 f fd ["graph", "literals"] (spCone K C) := by
  refine F.ok scCone (fun vs H Q E h => ?_) (fun cdv A outer s H vs Q E hr h => ?_)
  · obtain ⟨x, v, n, gs, as, rfl, _⟩ := h
    rfl
  · obtain ⟨x, v, n, gs, as, rfl, hG, hv, n4, hz, hok, has, asl, q⟩ := h
    have hv0 := hv
    obtain ⟨t, rfl, ht⟩ := hv
    obtain ⟨dg, g, x1, ps, hg, ha⟩ := id hG
    have WO := want_ok (as := as) hok
    rcases ht with ht | ht
    · refine ⟨_, PSs.nox (pss_cons (ps_set (i := 2) scCone.nd rfl (Or.inl rfl) (pe_call GE (hr.mono (by decide)) (by rfl) gE kE bE .nil pass0 (pa_cons (pv 0) (pa_cons (pv 1) pa_nil))))
      (pss_cons (ps_set (i := 3) scCone.nd rfl (Or.inr rfl) (pe_lst (pa_cons pe_int (StX.pa_star (pe_call GL (hr.mono (by decide)) (by rfl) gL kL bL .nil pass0 (pa_cons (pv 0) pa_nil)) pa_nil))))
      (pss_cons (ps_set (i := 4) scCone.nd rfl (Or.inl rfl) (pe_lst pa_nil))
      (pss_cons (ps_for PassesOwn.never rfl (pi_tup (pe_fld (pv 0) rfl)) (pg_tup rfl (pgs_cons (pg_name (i := 5) scCone.nd rfl (Or.inl rfl)) (pgs_cons (pg_name (i := 6) scCone.nd rfl (Or.inl rfl)) pgs_nil)))
        (pss_one (ps_if (pt_val (pe_ix ix_list (pv 2) (pe_callB call_len_seq (by rfl) T.tw.gr.ki.len PySem.boot_len (pa_cons (pv 3) pa_nil)) (fun _ _ => rfl)))
          (pss_cons (ps_expr (pe_bm PySem.F.plainAttrs_list PySem.F.slot_list_append PySem.F.type_list_append mt_append (pv 4) (pa_cons (pe_tup (pa_cons (pe_call GI (hr.mono (by decide)) (by rfl) gI kI bI .nil pass0 (pa_cons (pv 3) (pa_cons (pv 5) pa_nil))) (pa_cons (pe_call GI (hr.mono (by decide)) (by rfl) gI kI bI .nil pass0 (pa_cons (pv 3) (pa_cons (pv 6) pa_nil))) pa_nil))) pa_nil)))
          (pss_one (ps_expr (pe_bm PySem.F.plainAttrs_list PySem.F.slot_list_append PySem.F.type_list_append mt_append (pv 3) (pa_cons (pe_op op_mul pe_int (pe_op op_add (pe_fld (pv 0) rfl) (pe_callB call_len_seq (by rfl) T.tw.gr.ki.len PySem.boot_len (pa_cons (pv 4) pa_nil)))) pa_nil)))))
          (pss_one (ps_expr (pe_bm PySem.F.plainAttrs_list PySem.F.slot_list_append PySem.F.type_list_append mt_append (pv 3) (pa_cons pe_int pa_nil)))))))
      (pss_one (ps_ret (pe_tup (pa_cons (pe_make MM GM (hr.mono (by decide)) (by rfl) gM bM .nil pass0 (pa_cons (pe_fld (pv 0) rfl) (pa_cons (pv 4) pa_nil))) (pa_cons (pe_callTy (T := "tuple") (r := rTupOf K) (by exact call_tuple_of) (by rfl) T.tw.gr.ki.tuple (by decide +kernel) (pa_cons (pe_lc (own := [("literal", 7)]) (g := gName 7) (tt := tYes) rfl scCone.nd (pi_list (pv 1)) (blkOk_by (N := nCone) (sc := defScope sCone) (by decide +kernel)) (fun _ _ _ _ _ => pg_name (i := 7) scCone.nd rfl (Or.inl rfl)) (fun _ _ _ _ _ => pts_nil) (fun _ _ _ _ _ => (pe_call GI (hr.mono (by decide)) (by rfl) gI kI bI .nil pass0 (pa_cons (pv 3) (pa_cons (pv 7) pa_nil))))) pa_nil)) pa_nil))))))))), ?_⟩
      refine ⟨_, rfl, _, rfl, x, .ref t, n, gs, as, rfl, hG, hv0, n4, hz, hok, has, fun H1 ln fl s1 nln h1 R => ?_⟩
      generalize want n gs as = W at q WO R
      refine ⟨_, rfl, x, n, gs, rfl, hG.firm (Firm.of s1), by omega, fun H2 lo s2 _ h2 => ?_⟩
      refine ⟨lo, _, rfl, .inr (SqL.of h2), ?_, fun lp nlp => ?_⟩
      · show (V.int 0 :: ((ownL n).map V.int ++ [])).length ≤ sizeLine
        rw [List.append_nil, List.length_cons, List.length_map, ownL_len]
        exact Nat.le_trans (Nat.succ_le_succ n4) (by decide)
      have s12 := s1.trans s2
      have np0 : H lp = none := s12.free nlp
      have nlnp : ln ≠ lp := ne_of_none (s2 _ _ h1) nlp
      have s3 := s12.trans (same_new (u := .lst (V.int 0 :: ((ownL n).map V.int ++ []))) nlp)
      have hn3 := (same_new (u := .lst (V.int 0 :: ((ownL n).map V.int ++ []))) nlp) _ _ (s2 _ _ h1)
      have hp3 : (upd H2 lp (.lst (V.int 0 :: ((ownL n).map V.int ++ [])))) lp = some (.lst ((coneM n W (gs.take 0)).2.map V.int)) := by
        rw [upd_same, List.append_nil]
        rfl
      generalize upd H2 lp (.lst (V.int 0 :: ((ownL n).map V.int ++ []))) = H3 at s3 hn3 hp3 ⊢
      refine ⟨(by show 0 ≤ sizeLine; decide), fun lg nlg => ?_⟩
      have ng0 : H lg = none := s3.free nlg
      have npg : lp ≠ lg := ne_of_none hp3 nlg
      have nng : ln ≠ lg := ne_of_none hn3 nlg
      have s4 := s3.trans (same_new (u := .lst []) nlg)
      have hn4 := (same_new (u := .lst []) nlg) _ _ hn3
      have hp4 := (same_new (u := .lst []) nlg) _ _ hp3
      have hg4 := upd_same (H := H3) (a := lg) (o := .lst [])
      generalize upd H3 lg (.lst []) = H4 at s4 hn4 hp4 hg4 ⊢
      clear s1 s2 s12 s3 h2 nlp hn3 hp3 nlg h1
      refine ⟨_, rfl, x, C, dg, _, _, rfl, s4 _ _ x1, T.tw.gr.cl, T.tw.gr.nG, flds_G _ _, g, rfl, ⟨_, seqT_same s4 hg⟩, for_tup (K := K) (a := g) (xs := ps)
        (fun i σ H5 => ∃ (x5 x6 : Option V) (ws : List V), σ = [some (.ref x), some (.ref t), some (.ref ln), some (.ref lp), some (.ref lg), x5, x6, none] ∧ Same H H5 ∧ H5 ln = some (.lst (fl.map V.bl)) ∧ H5 lp = some (.lst ((coneM n W (gs.take i)).2.map V.int)) ∧ H5 lg = some (.lst ws) ∧ All2 (Pt K H5) ws (coneM n W (gs.take i)).1)
        ⟨none, none, [], rfl, s4, hn4, hp4, hg4, .nil⟩ (fun i σ H5 _ ⟨_, _, _, _, s5, _⟩ => seqT_same s5 hg) ?_ ?_⟩
      · rintro i y σ H5 hi ⟨x5, x6, ws, rfl, s5, hn5, hp5, hg5, a5⟩
        obtain ⟨p, hpi, q0, rfl, hq⟩ := ha.get hi
        obtain ⟨⟨a0, a1⟩, b0, b1⟩ := okG_at hok hpi
        have il : i < gs.length := (List.getElem?_eq_some_iff.mp hpi).1
        have plen := cone_plen n W (gs.take i)
        have klen := cone_klen n W (gs.take i)
        have tl : (gs.take i).length = i := by
          rw [List.length_take]
          omega
        rw [tl] at plen klen
        have CS := cone_st WO i (by omega)
        have st := cone_take (n := n) (W := W) hpi
        have nn : ∀ z ∈ (coneM n W (gs.take i)).2, 0 ≤ z := fun z hz => by
          obtain ⟨j, hj, e⟩ := List.getElem_of_mem hz
          have w := CS.inb j (by omega)
          rw [List.getD_eq_getElem?_getD, List.getElem?_eq_getElem hj] at w
          rw [← e]
          exact w.1
        refine ⟨q0, _, rfl, seqT_same s5 hq, rfl, _, _, rfl, _, _, rfl, rfl, ?_⟩
        have hat : (fl.map V.bl)[1 + n + i]? = some (V.bl (decide (((1 + n + i : Nat) : Int) ∈ W))) := by
          have z := R.2 (1 + n + i) (by omega)
          rw [List.getD_eq_getElem?_getD, List.getElem?_eq_getElem (by rw [R.1]; omega)] at z
          rw [List.getElem?_map, List.getElem?_eq_getElem (by rw [R.1]; omega)]
          exact congrArg (fun b => some (V.bl b)) z
        refine ⟨_, rfl, _, rfl, lp, _, rfl, .inl (SqL.of hp5), ln, _, _, _, rfl, rfl, SqL.of hn5, at_of (j := 1 + n + i) (by rw [List.length_map, plen]) hat, _, rfl, ?_⟩
        have em : (((coneM n W (gs.take i)).2.length : Nat) : Int) = ((1 + n + i : Nat) : Int) := by rw [plen]
        rw [st]
        by_cases c : (((coneM n W (gs.take i)).2.length : Nat) : Int) ∈ W
        · rw [decide_eq_true (em ▸ c)]
          refine iteT ?_
          unfold coneStep
          rw [if_pos c]
          generalize coneM n W (gs.take i) = S at hp5 a5 plen klen nn ⊢
          refine ⟨_, rfl, .inl ⟨rfl, _, SqL.of hg5⟩, _, rfl, _, rfl, lp, S.2, p.1, rfl, SqL.of hp5, a0, by omega, nn, _, rfl, _, rfl, lp, S.2, p.2, rfl, SqL.of hp5, b0, by omega, nn, (by show 2 ≤ sizeLine; decide), fun t6 nt6 => ?_⟩
          have s6 := same_new (u := .tup [V.int (ledL S.2 p.1), V.int (ledL S.2 p.2)]) nt6
          have hg6 := s6 _ _ hg5
          have hp6 := s6 _ _ hp5
          have hn6 := s6 _ _ hn5
          have ht6 := upd_same (H := H5) (a := t6) (o := .tup [V.int (ledL S.2 p.1), V.int (ledL S.2 p.2)])
          generalize upd H5 t6 (.tup [V.int (ledL S.2 p.1), V.int (ledL S.2 p.2)]) = H6 at s6 hg6 hp6 hn6 ht6 ⊢
          refine ⟨lg, _, _, rfl, rfl, hg6, ?_, ?_⟩
          · rw [a5.len]
            exact Nat.lt_of_le_of_lt (by omega : S.1.length ≤ 400) (by decide)
          have f7 := Firm.upd (o := .lst (ws ++ [V.ref t6])) hg6 rfl
          have a7 := (a5.imp fun _ _ h => (h.firm (Firm.of s6)).firm f7).snoc (x := (ledL S.2 p.1, ledL S.2 p.2)) ⟨t6, rfl, firm_seq f7 (SqT.of ht6)⟩
          have hg7 := upd_same (H := H6) (a := lg) (o := .lst (ws ++ [V.ref t6]))
          have hp7 : (upd H6 lg (.lst (ws ++ [V.ref t6]))) lp = _ := (upd_ne npg).trans hp6
          have hn7 : (upd H6 lg (.lst (ws ++ [V.ref t6]))) ln = _ := (upd_ne nng).trans hn6
          have s7 : Same H (upd H6 lg (.lst (ws ++ [V.ref t6]))) := fun b o e => by
            rw [upd_ne (ne_of_none e ng0)]
            exact s6 _ _ (s5 _ _ e)
          generalize upd H6 lg (.lst (ws ++ [V.ref t6])) = H7 at a7 hg7 hp7 hn7 s7 ⊢
          have wl : (ws ++ [V.ref t6]).length = S.1.length + 1 := by
            rw [List.length_append, a5.len]
            rfl
          refine ⟨_, rfl, .inl ⟨rfl, _, SqL.of hp7⟩, _, rfl, x, C, dg, _, _, rfl, s7 _ _ x1, T.tw.gr.cl, T.tw.gr.nL, flds_L _ _, _, rfl, lg, _, rfl, .inl (SqL.of hg7), _, _, rfl, rfl, _, _, rfl, rfl, .inl ⟨by decide, by decide⟩, lp, _, _, rfl, rfl, hp7, ?_, ?_⟩
          · rw [List.length_map, plen]
            exact Nat.lt_of_lt_of_le (by omega : 1 + n + i < 2000) (by decide)
          have e8 : 2 * ((n : Int) + ((ws ++ [V.ref t6]).length : Int)) = 2 * ((n : Int) + S.1.length + 1) := by
            rw [wl]
            omega
          have f8 := Firm.upd (o := .lst (S.2.map V.int ++ [V.int (2 * ((n : Int) + ((ws ++ [V.ref t6]).length : Int)))])) hp7 rfl
          refine ⟨_, _, _, rfl, fun b o e => ?_, ?_, ?_, ?_, a7.imp fun _ _ h => h.firm f8⟩
          · rw [upd_ne (ne_of_none e np0)]
            exact s7 _ _ e
          · rw [upd_ne nlnp]
            exact hn7
          · rw [upd_same]
            show some (HO.lst (S.2.map V.int ++ [V.int (2 * ((n : Int) + ((ws ++ [V.ref t6]).length : Int)))])) = some (HO.lst ((S.2 ++ [2 * ((n : Int) + S.1.length + 1)]).map V.int))
            rw [e8]
            rw [List.map_append]
            rfl
          · rw [upd_ne npg.symm]
            exact hg7
        · rw [decide_eq_false fun z => c (em ▸ z)]
          refine iteF ?_
          unfold coneStep
          rw [if_neg c]
          generalize coneM n W (gs.take i) = S at hp5 a5 plen ⊢
          refine ⟨_, rfl, .inl ⟨rfl, _, SqL.of hp5⟩, lp, _, _, rfl, rfl, hp5, ?_, ?_⟩
          · rw [List.length_map, plen]
            exact Nat.lt_of_lt_of_le (by omega : 1 + n + i < 2000) (by decide)
          have f8 := Firm.upd (o := .lst (S.2.map V.int ++ [V.int 0])) hp5 rfl
          refine ⟨_, _, _, rfl, fun b o e => ?_, ?_, ?_, ?_, a5.imp fun _ _ h => h.firm f8⟩
          · rw [upd_ne (ne_of_none e np0)]
            exact s5 _ _ e
          · rw [upd_ne nlnp]
            exact hn5
          · rw [upd_same]
            show _ = some (HO.lst ((S.2 ++ [_]).map V.int))
            rw [List.map_append]
            rfl
          · rw [upd_ne npg.symm]
            exact hg5
      rintro σ H5 ⟨x5, x6, ws, rfl, s5, hn5, hp5, hg5, a5⟩
      rw [ha.len, List.take_length] at hp5 a5
      have CS := cone_st WO gs.length (Nat.le_refl _)
      rw [List.take_length] at CS
      have plen := cone_plen n W gs
      have klen := cone_klen n W gs
      have nn : ∀ z ∈ (coneM n W gs).2, 0 ≤ z := fun z hz => by
        obtain ⟨j, hj, e⟩ := List.getElem_of_mem hz
        have w := CS.inb j (by omega)
        rw [List.getD_eq_getElem?_getD, List.getElem?_eq_getElem hj] at w
        rw [← e]
        exact w.1
      have okS := CS.ok
      generalize coneM n W gs = S at q hp5 a5 plen klen nn okS
      refine ⟨_, rfl, x, C, dg, _, _, rfl, s5 _ _ x1, T.tw.gr.cl, T.tw.gr.nL, flds_L _ _, _, rfl, fun y dy ny nd _ => mk_use ny nd (by omega) ⟨lg, ws, rfl, .inl (SqL.of hg5), a5.imp fun _ _ h => h.pr⟩ (by omega) okS fun H6 s6 G6 => ⟨rfl, ?_⟩⟩
      have hp6 := s6 _ _ hp5
      have ht6 := (s5.trans s6).seq ht
      refine ⟨_, rfl, t, rfl, ⟨_, ht6⟩, fun D nD => ?_⟩
      refine lc_list (K := K) (a := t) (xs := as.map V.int) (fun j H7 => Same H6 H7 ∧ H7 D = some (.lst (((as.take j).map (ledL S.2)).map V.int))) ⟨same_new nD, upd_same⟩ (fun j H7 _ ⟨s7, _⟩ => (s7).seq ht6) ?_ ?_
      · rintro j y H7 hj ⟨s7, h7⟩
        obtain ⟨a, rfl, ej⟩ := int_at hj
        obtain ⟨p1, p2⟩ := has a (List.mem_of_getElem? ej)
        refine ⟨rfl, yes_of ?_⟩
        refine ⟨_, rfl, _, rfl, lp, _, a, rfl, SqL.of (s7 _ _ hp6), p1, by omega, nn, _, h7, ?_, fun c o e => ?_, ?_⟩
        · rw [List.length_map, List.length_map]
          exact Nat.lt_of_le_of_lt (List.length_take_le' _ _) (Nat.lt_of_le_of_lt asl (by decide))
        · rw [upd_ne (ne_of_none e nD)]
          exact s7 _ _ e
        · rw [upd_same, take_more ej, List.map_append, List.map_append]
          rfl
      · rintro H7 ⟨s7, h7⟩
        rw [List.length_map, List.take_length] at h7
        refine ⟨D, _, rfl, .inl ⟨SqL.of h7, fun t8 nt8 => ?_⟩⟩
        have s8 := same_new (u := .tup ((as.map (ledL S.2)).map V.int)) nt8
        refine ⟨(by show 2 ≤ sizeLine; decide), fun t9 nt9 => ?_⟩
        have s9 := same_new (u := .tup [V.ref y, V.ref t8]) nt9
        exact q _ t9 y t8 ((s5.trans s6).trans (s7.trans (s8.trans s9))) upd_same (((G6.firm (Firm.of s7)).firm (Firm.of s8)).firm (Firm.of s9)) (s9 _ _ upd_same)
    · refine ⟨_, PSs.nox (pss_cons (ps_set (i := 2) scCone.nd rfl (Or.inl rfl) (pe_call GE (hr.mono (by decide)) (by rfl) gE kE bE .nil pass0 (pa_cons (pv 0) (pa_cons (pv 1) pa_nil))))
      (pss_cons (ps_set (i := 3) scCone.nd rfl (Or.inr rfl) (pe_lst (pa_cons pe_int (StX.pa_star (pe_call GL (hr.mono (by decide)) (by rfl) gL kL bL .nil pass0 (pa_cons (pv 0) pa_nil)) pa_nil))))
      (pss_cons (ps_set (i := 4) scCone.nd rfl (Or.inl rfl) (pe_lst pa_nil))
      (pss_cons (ps_for PassesOwn.never rfl (pi_tup (pe_fld (pv 0) rfl)) (pg_tup rfl (pgs_cons (pg_name (i := 5) scCone.nd rfl (Or.inl rfl)) (pgs_cons (pg_name (i := 6) scCone.nd rfl (Or.inl rfl)) pgs_nil)))
        (pss_one (ps_if (pt_val (pe_ix ix_list (pv 2) (pe_callB call_len_seq (by rfl) T.tw.gr.ki.len PySem.boot_len (pa_cons (pv 3) pa_nil)) (fun _ _ => rfl)))
          (pss_cons (ps_expr (pe_bm PySem.F.plainAttrs_list PySem.F.slot_list_append PySem.F.type_list_append mt_append (pv 4) (pa_cons (pe_tup (pa_cons (pe_call GI (hr.mono (by decide)) (by rfl) gI kI bI .nil pass0 (pa_cons (pv 3) (pa_cons (pv 5) pa_nil))) (pa_cons (pe_call GI (hr.mono (by decide)) (by rfl) gI kI bI .nil pass0 (pa_cons (pv 3) (pa_cons (pv 6) pa_nil))) pa_nil))) pa_nil)))
          (pss_one (ps_expr (pe_bm PySem.F.plainAttrs_list PySem.F.slot_list_append PySem.F.type_list_append mt_append (pv 3) (pa_cons (pe_op op_mul pe_int (pe_op op_add (pe_fld (pv 0) rfl) (pe_callB call_len_seq (by rfl) T.tw.gr.ki.len PySem.boot_len (pa_cons (pv 4) pa_nil)))) pa_nil)))))
          (pss_one (ps_expr (pe_bm PySem.F.plainAttrs_list PySem.F.slot_list_append PySem.F.type_list_append mt_append (pv 3) (pa_cons pe_int pa_nil)))))))
      (pss_one (ps_ret (pe_tup (pa_cons (pe_make MM GM (hr.mono (by decide)) (by rfl) gM bM .nil pass0 (pa_cons (pe_fld (pv 0) rfl) (pa_cons (pv 4) pa_nil))) (pa_cons (pe_callTy (T := "tuple") (r := rTupOf K) (by exact call_tuple_of) (by rfl) T.tw.gr.ki.tuple (by decide +kernel) (pa_cons (pe_lc (own := [("literal", 7)]) (g := gName 7) (tt := tYes) rfl scCone.nd (pi_tup (pv 1)) (blkOk_by (N := nCone) (sc := defScope sCone) (by decide +kernel)) (fun _ _ _ _ _ => pg_name (i := 7) scCone.nd rfl (Or.inl rfl)) (fun _ _ _ _ _ => pts_nil) (fun _ _ _ _ _ => (pe_call GI (hr.mono (by decide)) (by rfl) gI kI bI .nil pass0 (pa_cons (pv 3) (pa_cons (pv 7) pa_nil))))) pa_nil)) pa_nil))))))))), ?_⟩
      refine ⟨_, rfl, _, rfl, x, .ref t, n, gs, as, rfl, hG, hv0, n4, hz, hok, has, fun H1 ln fl s1 nln h1 R => ?_⟩
      generalize want n gs as = W at q WO R
      refine ⟨_, rfl, x, n, gs, rfl, hG.firm (Firm.of s1), by omega, fun H2 lo s2 _ h2 => ?_⟩
      refine ⟨lo, _, rfl, .inr (SqL.of h2), ?_, fun lp nlp => ?_⟩
      · show (V.int 0 :: ((ownL n).map V.int ++ [])).length ≤ sizeLine
        rw [List.append_nil, List.length_cons, List.length_map, ownL_len]
        exact Nat.le_trans (Nat.succ_le_succ n4) (by decide)
      have s12 := s1.trans s2
      have np0 : H lp = none := s12.free nlp
      have nlnp : ln ≠ lp := ne_of_none (s2 _ _ h1) nlp
      have s3 := s12.trans (same_new (u := .lst (V.int 0 :: ((ownL n).map V.int ++ []))) nlp)
      have hn3 := (same_new (u := .lst (V.int 0 :: ((ownL n).map V.int ++ []))) nlp) _ _ (s2 _ _ h1)
      have hp3 : (upd H2 lp (.lst (V.int 0 :: ((ownL n).map V.int ++ [])))) lp = some (.lst ((coneM n W (gs.take 0)).2.map V.int)) := by
        rw [upd_same, List.append_nil]
        rfl
      generalize upd H2 lp (.lst (V.int 0 :: ((ownL n).map V.int ++ []))) = H3 at s3 hn3 hp3 ⊢
      refine ⟨(by show 0 ≤ sizeLine; decide), fun lg nlg => ?_⟩
      have ng0 : H lg = none := s3.free nlg
      have npg : lp ≠ lg := ne_of_none hp3 nlg
      have nng : ln ≠ lg := ne_of_none hn3 nlg
      have s4 := s3.trans (same_new (u := .lst []) nlg)
      have hn4 := (same_new (u := .lst []) nlg) _ _ hn3
      have hp4 := (same_new (u := .lst []) nlg) _ _ hp3
      have hg4 := upd_same (H := H3) (a := lg) (o := .lst [])
      generalize upd H3 lg (.lst []) = H4 at s4 hn4 hp4 hg4 ⊢
      clear s1 s2 s12 s3 h2 nlp hn3 hp3 nlg h1
      refine ⟨_, rfl, x, C, dg, _, _, rfl, s4 _ _ x1, T.tw.gr.cl, T.tw.gr.nG, flds_G _ _, g, rfl, ⟨_, seqT_same s4 hg⟩, for_tup (K := K) (a := g) (xs := ps)
        (fun i σ H5 => ∃ (x5 x6 : Option V) (ws : List V), σ = [some (.ref x), some (.ref t), some (.ref ln), some (.ref lp), some (.ref lg), x5, x6, none] ∧ Same H H5 ∧ H5 ln = some (.lst (fl.map V.bl)) ∧ H5 lp = some (.lst ((coneM n W (gs.take i)).2.map V.int)) ∧ H5 lg = some (.lst ws) ∧ All2 (Pt K H5) ws (coneM n W (gs.take i)).1)
        ⟨none, none, [], rfl, s4, hn4, hp4, hg4, .nil⟩ (fun i σ H5 _ ⟨_, _, _, _, s5, _⟩ => seqT_same s5 hg) ?_ ?_⟩
      · rintro i y σ H5 hi ⟨x5, x6, ws, rfl, s5, hn5, hp5, hg5, a5⟩
        obtain ⟨p, hpi, q0, rfl, hq⟩ := ha.get hi
        obtain ⟨⟨a0, a1⟩, b0, b1⟩ := okG_at hok hpi
        have il : i < gs.length := (List.getElem?_eq_some_iff.mp hpi).1
        have plen := cone_plen n W (gs.take i)
        have klen := cone_klen n W (gs.take i)
        have tl : (gs.take i).length = i := by
          rw [List.length_take]
          omega
        rw [tl] at plen klen
        have CS := cone_st WO i (by omega)
        have st := cone_take (n := n) (W := W) hpi
        have nn : ∀ z ∈ (coneM n W (gs.take i)).2, 0 ≤ z := fun z hz => by
          obtain ⟨j, hj, e⟩ := List.getElem_of_mem hz
          have w := CS.inb j (by omega)
          rw [List.getD_eq_getElem?_getD, List.getElem?_eq_getElem hj] at w
          rw [← e]
          exact w.1
        refine ⟨q0, _, rfl, seqT_same s5 hq, rfl, _, _, rfl, _, _, rfl, rfl, ?_⟩
        have hat : (fl.map V.bl)[1 + n + i]? = some (V.bl (decide (((1 + n + i : Nat) : Int) ∈ W))) := by
          have z := R.2 (1 + n + i) (by omega)
          rw [List.getD_eq_getElem?_getD, List.getElem?_eq_getElem (by rw [R.1]; omega)] at z
          rw [List.getElem?_map, List.getElem?_eq_getElem (by rw [R.1]; omega)]
          exact congrArg (fun b => some (V.bl b)) z
        refine ⟨_, rfl, _, rfl, lp, _, rfl, .inl (SqL.of hp5), ln, _, _, _, rfl, rfl, SqL.of hn5, at_of (j := 1 + n + i) (by rw [List.length_map, plen]) hat, _, rfl, ?_⟩
        have em : (((coneM n W (gs.take i)).2.length : Nat) : Int) = ((1 + n + i : Nat) : Int) := by rw [plen]
        rw [st]
        by_cases c : (((coneM n W (gs.take i)).2.length : Nat) : Int) ∈ W
        · rw [decide_eq_true (em ▸ c)]
          refine iteT ?_
          unfold coneStep
          rw [if_pos c]
          generalize coneM n W (gs.take i) = S at hp5 a5 plen klen nn ⊢
          refine ⟨_, rfl, .inl ⟨rfl, _, SqL.of hg5⟩, _, rfl, _, rfl, lp, S.2, p.1, rfl, SqL.of hp5, a0, by omega, nn, _, rfl, _, rfl, lp, S.2, p.2, rfl, SqL.of hp5, b0, by omega, nn, (by show 2 ≤ sizeLine; decide), fun t6 nt6 => ?_⟩
          have s6 := same_new (u := .tup [V.int (ledL S.2 p.1), V.int (ledL S.2 p.2)]) nt6
          have hg6 := s6 _ _ hg5
          have hp6 := s6 _ _ hp5
          have hn6 := s6 _ _ hn5
          have ht6 := upd_same (H := H5) (a := t6) (o := .tup [V.int (ledL S.2 p.1), V.int (ledL S.2 p.2)])
          generalize upd H5 t6 (.tup [V.int (ledL S.2 p.1), V.int (ledL S.2 p.2)]) = H6 at s6 hg6 hp6 hn6 ht6 ⊢
          refine ⟨lg, _, _, rfl, rfl, hg6, ?_, ?_⟩
          · rw [a5.len]
            exact Nat.lt_of_le_of_lt (by omega : S.1.length ≤ 400) (by decide)
          have f7 := Firm.upd (o := .lst (ws ++ [V.ref t6])) hg6 rfl
          have a7 := (a5.imp fun _ _ h => (h.firm (Firm.of s6)).firm f7).snoc (x := (ledL S.2 p.1, ledL S.2 p.2)) ⟨t6, rfl, firm_seq f7 (SqT.of ht6)⟩
          have hg7 := upd_same (H := H6) (a := lg) (o := .lst (ws ++ [V.ref t6]))
          have hp7 : (upd H6 lg (.lst (ws ++ [V.ref t6]))) lp = _ := (upd_ne npg).trans hp6
          have hn7 : (upd H6 lg (.lst (ws ++ [V.ref t6]))) ln = _ := (upd_ne nng).trans hn6
          have s7 : Same H (upd H6 lg (.lst (ws ++ [V.ref t6]))) := fun b o e => by
            rw [upd_ne (ne_of_none e ng0)]
            exact s6 _ _ (s5 _ _ e)
          generalize upd H6 lg (.lst (ws ++ [V.ref t6])) = H7 at a7 hg7 hp7 hn7 s7 ⊢
          have wl : (ws ++ [V.ref t6]).length = S.1.length + 1 := by
            rw [List.length_append, a5.len]
            rfl
          refine ⟨_, rfl, .inl ⟨rfl, _, SqL.of hp7⟩, _, rfl, x, C, dg, _, _, rfl, s7 _ _ x1, T.tw.gr.cl, T.tw.gr.nL, flds_L _ _, _, rfl, lg, _, rfl, .inl (SqL.of hg7), _, _, rfl, rfl, _, _, rfl, rfl, .inl ⟨by decide, by decide⟩, lp, _, _, rfl, rfl, hp7, ?_, ?_⟩
          · rw [List.length_map, plen]
            exact Nat.lt_of_lt_of_le (by omega : 1 + n + i < 2000) (by decide)
          have e8 : 2 * ((n : Int) + ((ws ++ [V.ref t6]).length : Int)) = 2 * ((n : Int) + S.1.length + 1) := by
            rw [wl]
            omega
          have f8 := Firm.upd (o := .lst (S.2.map V.int ++ [V.int (2 * ((n : Int) + ((ws ++ [V.ref t6]).length : Int)))])) hp7 rfl
          refine ⟨_, _, _, rfl, fun b o e => ?_, ?_, ?_, ?_, a7.imp fun _ _ h => h.firm f8⟩
          · rw [upd_ne (ne_of_none e np0)]
            exact s7 _ _ e
          · rw [upd_ne nlnp]
            exact hn7
          · rw [upd_same]
            show some (HO.lst (S.2.map V.int ++ [V.int (2 * ((n : Int) + ((ws ++ [V.ref t6]).length : Int)))])) = some (HO.lst ((S.2 ++ [2 * ((n : Int) + S.1.length + 1)]).map V.int))
            rw [e8]
            rw [List.map_append]
            rfl
          · rw [upd_ne npg.symm]
            exact hg7
        · rw [decide_eq_false fun z => c (em ▸ z)]
          refine iteF ?_
          unfold coneStep
          rw [if_neg c]
          generalize coneM n W (gs.take i) = S at hp5 a5 plen ⊢
          refine ⟨_, rfl, .inl ⟨rfl, _, SqL.of hp5⟩, lp, _, _, rfl, rfl, hp5, ?_, ?_⟩
          · rw [List.length_map, plen]
            exact Nat.lt_of_lt_of_le (by omega : 1 + n + i < 2000) (by decide)
          have f8 := Firm.upd (o := .lst (S.2.map V.int ++ [V.int 0])) hp5 rfl
          refine ⟨_, _, _, rfl, fun b o e => ?_, ?_, ?_, ?_, a5.imp fun _ _ h => h.firm f8⟩
          · rw [upd_ne (ne_of_none e np0)]
            exact s5 _ _ e
          · rw [upd_ne nlnp]
            exact hn5
          · rw [upd_same]
            show _ = some (HO.lst ((S.2 ++ [_]).map V.int))
            rw [List.map_append]
            rfl
          · rw [upd_ne npg.symm]
            exact hg5
      rintro σ H5 ⟨x5, x6, ws, rfl, s5, hn5, hp5, hg5, a5⟩
      rw [ha.len, List.take_length] at hp5 a5
      have CS := cone_st WO gs.length (Nat.le_refl _)
      rw [List.take_length] at CS
      have plen := cone_plen n W gs
      have klen := cone_klen n W gs
      have nn : ∀ z ∈ (coneM n W gs).2, 0 ≤ z := fun z hz => by
        obtain ⟨j, hj, e⟩ := List.getElem_of_mem hz
        have w := CS.inb j (by omega)
        rw [List.getD_eq_getElem?_getD, List.getElem?_eq_getElem hj] at w
        rw [← e]
        exact w.1
      have okS := CS.ok
      generalize coneM n W gs = S at q hp5 a5 plen klen nn okS
      refine ⟨_, rfl, x, C, dg, _, _, rfl, s5 _ _ x1, T.tw.gr.cl, T.tw.gr.nL, flds_L _ _, _, rfl, fun y dy ny nd _ => mk_use ny nd (by omega) ⟨lg, ws, rfl, .inl (SqL.of hg5), a5.imp fun _ _ h => h.pr⟩ (by omega) okS fun H6 s6 G6 => ⟨rfl, ?_⟩⟩
      have hp6 := s6 _ _ hp5
      have ht6 := seqT_same (s5.trans s6) ht
      refine ⟨_, rfl, t, rfl, ⟨_, ht6⟩, fun D nD => ?_⟩
      refine lc_tup (K := K) (a := t) (xs := as.map V.int) (fun j H7 => Same H6 H7 ∧ H7 D = some (.lst (((as.take j).map (ledL S.2)).map V.int))) ⟨same_new nD, upd_same⟩ (fun j H7 _ ⟨s7, _⟩ => seqT_same (s7) ht6) ?_ ?_
      · rintro j y H7 hj ⟨s7, h7⟩
        obtain ⟨a, rfl, ej⟩ := int_at hj
        obtain ⟨p1, p2⟩ := has a (List.mem_of_getElem? ej)
        refine ⟨rfl, yes_of ?_⟩
        refine ⟨_, rfl, _, rfl, lp, _, a, rfl, SqL.of (s7 _ _ hp6), p1, by omega, nn, _, h7, ?_, fun c o e => ?_, ?_⟩
        · rw [List.length_map, List.length_map]
          exact Nat.lt_of_le_of_lt (List.length_take_le' _ _) (Nat.lt_of_le_of_lt asl (by decide))
        · rw [upd_ne (ne_of_none e nD)]
          exact s7 _ _ e
        · rw [upd_same, take_more ej, List.map_append, List.map_append]
          rfl
      · rintro H7 ⟨s7, h7⟩
        rw [List.length_map, List.take_length] at h7
        refine ⟨D, _, rfl, .inl ⟨SqL.of h7, fun t8 nt8 => ?_⟩⟩
        have s8 := same_new (u := .tup ((as.map (ledL S.2)).map V.int)) nt8
        refine ⟨(by show 2 ≤ sizeLine; decide), fun t9 nt9 => ?_⟩
        have s9 := same_new (u := .tup [V.ref y, V.ref t8]) nt9
        exact q _ t9 y t8 ((s5.trans s6).trans (s7.trans (s8.trans s9))) upd_same (((G6.firm (Firm.of s7)).firm (Firm.of s8)).firm (Firm.of s9)) (s9 _ _ upd_same)
end
end Cb
namespace Cc
open PySem PySem.Spec PyProof.Rows L2 Pen Dat Ki Fi Gr No Lf Cn Bd Be Bf Bg Bm Bo Bw Bx Ca Us Cb Gd
/-! ## k17: known leaves, and the law's own looks -/
theorem inV_int (z : Int) (xs : List Int) : inV (.int z) (xs.map V.int) = decide (z ∈ xs) := by
  unfold inV
  rw [List.any_map]
  cases e : decide (z ∈ xs) with
  | true =>
    rw [List.any_eq_true]
    exact ⟨z, of_decide_eq_true e, by show eqV (.int z) (.int z) = true; simp [eqV]⟩
  | false =>
    rw [List.any_eq_false]
    intro u m q
    have : u = z := by
      have q' : eqV (.int u) (.int z) = true := q
      simpa [eqV] using q'
    exact of_decide_eq_false e (this ▸ m)
theorem flat_ints (xs : List Int) : (xs.map V.int).all flatV = true := by
  rw [List.all_map, List.all_eq_true]
  intro z _
  rfl
/-- a list of so many ones, beside the empty one -/
def setM (xs : List Int) (ks : List (Int × Int)) : List Int := ks.foldl (fun xs p => xs.set (p.1 - 1).toNat p.2) xs
theorem setM_len : ∀ (ks : List (Int × Int)) (xs : List Int), (setM xs ks).length = xs.length
  | [], _ => rfl
  | p :: r, xs => by
    show (setM (xs.set _ _) r).length = _
    rw [setM_len r, List.length_set]
theorem setM_in {n : Nat} : ∀ (ks : List (Int × Int)) {xs : List Int}, (∀ p ∈ ks, p.2 = 0 ∨ p.2 = 1) → (∀ z ∈ xs, InN n [] z) → ∀ z ∈ setM xs ks, InN n [] z
  | [], _, _, h => h
  | p :: r, xs, hp, h => setM_in r (fun q hq => hp q (List.mem_cons_of_mem _ hq)) fun z hz => by
    rcases List.mem_or_eq_of_mem_set hz with m | e
    · exact h z m
    · rw [e]
      have b : (0 : Int) ≤ (n : Int) := by omega
      rcases hp p List.mem_cons_self with e | e <;> rw [e] <;> refine ⟨by decide, ?_⟩ <;> show _ ≤ 2 * ((n : Int) + ((0 : Nat) : Int)) + 1 <;> omega
def KsOk (n : Nat) (ks : List (Int × Int)) : Prop := (∀ p ∈ ks, 1 ≤ p.1 ∧ p.1 ≤ n ∧ (p.2 = 0 ∨ p.2 = 1)) ∧ (ks.map (·.1)).Nodup
def Pl (K : PySem.W.Frag) (H : Hp) (v : V) (p : Int × Int) : Prop := ∃ q, v = .ref q ∧ SqL K H q [.int p.1, .int p.2]
def RowK (K : PySem.W.Frag) (H : Hp) (v : V) (ks : List (Int × Int)) : Prop := ∃ t vs, v = .ref t ∧ ((SqL K H t vs ∧ All2 (Pl K H) vs ks) ∨ (SqT K H t vs ∧ All2 (Pt K H) vs ks))
theorem RowK.same {K : PySem.W.Frag} {H H' : Hp} {v : V} {ks : List (Int × Int)} (s : Same H H') (h : RowK K H v ks) : RowK K H' v ks := by
  obtain ⟨t, vs, e, h⟩ := h
  refine ⟨t, vs, e, h.imp (fun h => ⟨s.seq h.1, h.2.imp fun _ _ ⟨q, e, z⟩ => ⟨q, e, s.seq z⟩⟩) (fun h => ⟨seqT_same s h.1, h.2.imp fun _ _ z => z.firm (Firm.of s)⟩)⟩
def lD (p : Int × Int) : PyData := .list [.int p.1, .int p.2]
theorem pls_dp {K : PySem.W.Frag} {H : Hp} : ∀ {vs : List V} {gs : List (Int × Int)}, All2 (Pl K H) vs gs → DpAll K H vs (gs.map lD)
  | _, _, .nil => .nil
  | _, _, .cons h t => by
    obtain ⟨q, rfl, h⟩ := h
    exact .cons (.lst h (.cons (.int _) (.cons (.int _) .nil))) (pls_dp t)
theorem bet_in {i lo hi : Int} (h0 : lo ≤ i) (h1 : i ≤ hi) : (!betD (.int i) lo hi) = false := by
  show (!(decide (lo ≤ i) && decide (i ≤ hi))) = false
  rw [decide_eq_true h0, decide_eq_true h1]
  rfl
theorem all_yes (n : Nat) : (!(List.replicate n true).all id) = false := by
  have : (List.replicate n true).all id = true := List.all_eq_true.mpr fun x hx => by
    rw [List.eq_of_mem_replicate hx]
    rfl
  rw [this]
  rfl
structure Td (K : PySem.W.Frag) (mg : Str → Option Value) (C B fA fG : Addr) : Prop where
  tw : Tw K mg C B fA fG
  enum : mg "enumerate" = none
  rep : mg "repr" = none
def spKnown (K : PySem.W.Frag) : Sp := fun vs H Q _ => ∃ (v : V) (n : Nat) (ks : List (Int × Int)), vs = [.int n, v] ∧ RowK K H v ks ∧ KsOk n ks ∧ ks.length ≤ 500 ∧ ∀ H', Same H H' → Q (.bl true) H'
def spWith (K : PySem.W.Frag) (C : Addr) : Sp := fun vs H Q _ => ∃ (x : Addr) (v v2 : V) (n : Nat) (hs ks : List (Int × Int)) (as : List Int), vs = [.ref x, v2, v] ∧ GraphAt K C H x n hs ∧ RowK K H v ks ∧ KsOk n ks ∧ ks.length ≤ 500 ∧ SeqI K H v2 as ∧ n ≤ 400 ∧ hs.length ≤ 400 ∧ okG (2 * (n : Int) + 1) hs = true ∧
  (∀ a ∈ as, 0 ≤ a ∧ (a / 2).toNat < 1 + n + hs.length) ∧ as.length ≤ 1000 ∧
  ∀ (H' : Hp) (t g t2 : Addr), Same H H' → H' t = some (.tup [.ref g, .ref t2]) → GraphAt K C H' g n (putM n [] (setM (ownL n) ks) hs).1 → H' t2 = some (.tup ((as.map (ledL (putM n [] (setM (ownL n) ks) hs).2)).map V.int)) → Q (.ref t) H'
def spOwnCone (K : PySem.W.Frag) : Sp := fun vs H Q _ => ∃ (g t : Addr) (n : Nat) (gs : List (Int × Int)) (as : List Int), vs = [.int n, .ref g, .ref t] ∧ GT K H g gs ∧ SqT K H t (as.map V.int) ∧ n ≤ 400 ∧ gs.length ≤ 400 ∧ okG (2 * (n : Int) + 1) gs = true ∧
  (∀ a ∈ as, 0 ≤ a ∧ (a / 2).toNat < 1 + n + gs.length) ∧ as.length ≤ 1000 ∧
  ∀ (H' : Hp) (t3 l3 t4 : Addr) (ws : List V), Same H H' → H' t3 = some (.tup [.ref l3, .ref t4]) → H' l3 = some (.lst ws) → H l3 = none → All2 (Pt K H') ws (ownC n (want n gs as) gs).1 → H' t4 = some (.tup ((as.map (ledL (ownC n (want n gs as) gs).2)).map V.int)) → Q (.ref t3) H'
def spKept (K : PySem.W.Frag) (C : Addr) : Sp := fun vs H Q _ => ∃ (g t tt gx t2 lr : Addr) (n : Nat) (gs gs2 : List (Int × Int)) (as as2 : List Int) (ws : List V) (rs : List (List Int)), vs = [.int n, .ref g, .ref t, .ref tt, .ref lr] ∧ GT K H g gs ∧ SqT K H t (as.map V.int) ∧ SqT K H tt [.ref gx, .ref t2] ∧
  GraphAt K C H gx n gs2 ∧ SqT K H t2 (as2.map V.int) ∧ SqL K H lr ws ∧ All2 (Tu K H) ws rs ∧ (∀ r ∈ rs, r.length = n ∧ B01 r) ∧ n ≤ 400 ∧ gs.length ≤ 400 ∧ gs2.length ≤ 400 ∧ okG (2 * (n : Int) + 1) gs = true ∧ okG (2 * (n : Int) + 1) gs2 = true ∧
  (∀ a ∈ as, 0 ≤ a ∧ (a / 2).toNat < 1 + n + gs.length) ∧ (∀ a ∈ as2, 0 ≤ a ∧ (a / 2).toNat < 1 + n + gs2.length) ∧ as.length ≤ 1000 ∧ as2.length ≤ 1000 ∧
  (∀ r ∈ rs, (as.map fun a => lit (vals r gs) a) = as2.map fun a => lit (vals r gs2) a) ∧ ∀ H', Same H H' → Q (.bl true) H'
def spIsPair (K : PySem.W.Frag) (C : Addr) : Sp := fun vs H Q _ => ∃ (tt gx t2 lg td : Addr) (n : Nat) (gs : List (Int × Int)) (bs : List Int) (ws : List V), vs = [.ref tt, .int n, .ref lg, .ref td] ∧ SqT K H tt [.ref gx, .ref t2] ∧ GraphAt K C H gx n gs ∧ SqL K H lg ws ∧ All2 (Pt K H) ws gs ∧
  SqT K H t2 (bs.map V.int) ∧ SqT K H td (bs.map V.int) ∧ (∀ z ∈ bs, Rp.Small z) ∧ bs.length ≤ 1000 ∧ gs.length ≤ 1000 ∧ ∀ H', Same H H' → Q (.bl true) H'
section
variable {P : Program} {w : World} {K : PySem.W.Frag} {mg : Str → Option Value} {base : Heap} {f B C fA fG : Addr} {fd dA : FuncData}
abbrev nKnown : List Str := ["leaves", "value", "pair", "seen", "leaf", "bit"]
theorem scKnown : FnScope nKnown ["leaves", "value"] (defScope sKnown) := ⟨rfl, rfl, rfl, by decide +kernel, rfl, by decide +kernel, by decide +kernel⟩
abbrev nWith : List Str := ["graph", "literals", "known", "leaves", "leaf", "bit"]
theorem scWith : FnScope nWith ["graph", "literals", "known"] (defScope sWith) := ⟨rfl, rfl, rfl, by decide +kernel, rfl, by decide +kernel, by decide +kernel⟩
abbrev nOwnCone : List Str := ["_law_leaves", "_law_gates", "_law_literals_here", "_law_first", "_law_literal", "_law_wanted", "_law_k", "_law_node", "_law_table", "_law_kept_here", "_law_one", "_law_other"]
abbrev nKept : List Str := ["_law_leaves", "_law_gates", "_law_literals_here", "_law_told", "_law_rows_here", "_law_bits", "_law_found", "_law_there", "_law_literal"]
abbrev nIsPair : List Str := ["_law_told", "_law_leaves", "_law_gates", "_law_literals_here"]
theorem ok_known {fR fB : Addr} {dR dB : FuncData} (F : FnP K "are_known" sKnown f fd) (T : Gr.Tx K mg C)
    (GR : FnOk P w K mg base CX0 1 fR dR ["value"] (spRow K)) (gR : mg "is_row" = some (.ref fR)) (kR : PySem.W.keepIn K (.ref fR) = true) (bR : Binds K dR ["value"] [])
    (GB : FnOk P w K mg base CX0 1 fB dB ["value", "least", "most"] (spBetween K)) (gB : mg "is_between" = some (.ref fB)) (kB : PySem.W.keepIn K (.ref fB) = true) (bB : Binds K dB ["value", "least", "most"] []) :
    FnOk P w K mg base CX0 2 f fd ["leaves", "value"] (spKnown K) := by
  refine F.ok scKnown (fun vs H Q E h => ?_) (fun cdv A outer s H vs Q E hr h => ?_)
  · obtain ⟨v, n, ks, rfl, _⟩ := h
    rfl
  · obtain ⟨v, n, ks, rfl, ⟨t, vs, rfl, ht⟩, hk, kl, q⟩ := h
    have hu := hu_of hr
    obtain ⟨kb, nd⟩ := hk
    rcases ht with ht | ht
    · obtain ⟨ht, ha⟩ := ht
      refine ⟨_, PSs.nox (pss_cons (ps_if (PW.pt (pw_or (pt_not (pt_val (pe_call GR (hr.mono (by decide)) (by rfl) gR kR bR .nil pass0 (pa_cons (pv 1) pa_nil)))) (pw_or1 (pt_not (pt_val (pe_callB (cr_all rfl) (by rfl) T.ki.all (by decide +kernel) (pa_cons (pe_lc (own := [("pair", 2)]) (g := gName 2) (tt := tYes) rfl scKnown.nd (pi_list (pv 1)) (blkOk_by (N := nKnown) (sc := defScope sKnown) (by decide +kernel)) (fun _ _ _ _ _ => pg_name (i := 2) scKnown.nd rfl (Or.inl rfl)) (fun _ _ _ _ _ => pts_nil) (fun _ _ _ _ _ => (pe_and (pe_call GR (hr.mono (by decide)) (by rfl) gR kR bR .nil pass0 (pa_cons (pv 2) pa_nil)) (pe_one (pe_cmpR op_eq (pe_callB (r := Bw.rLen K) (by exact call_len_seq) (by rfl) T.ki.len PySem.boot_len (pa_cons (pv 2) pa_nil)) pe_int (nomark _)))))) pa_nil)))))))
        (pss_one (ps_ret pe_bl))
        pss_nil)
      (pss_cons (ps_set (i := 3) scKnown.nd rfl (Or.inl rfl) pe_dnewK)
      (pss_cons (ps_for PassesOwn.never rfl (pi_list (pv 1)) (pg_unl rfl (pgs_cons (pg_name (i := 4) scKnown.nd rfl (Or.inl rfl)) (pgs_cons (pg_name (i := 5) scKnown.nd rfl (Or.inl rfl)) pgs_nil)))
        (pss_cons (ps_if (PW.pt (pw_or (pt_not (pt_val (pe_call GB (hr.mono (by decide)) (by rfl) gB kB bB .nil pass0 (pa_cons (pv 4) (pa_cons pe_int (pa_cons (pv 0) pa_nil)))))) (pw_or (pt_not (pt_val (pe_call GB (hr.mono (by decide)) (by rfl) gB kB bB .nil pass0 (pa_cons (pv 5) (pa_cons pe_int (pa_cons pe_int pa_nil)))))) (pw_or1 (pt_cmp (pc_din hu (pv 4) (pv 3)))))))
          (pss_one (ps_ret pe_bl))
          pss_nil)
        (pss_one (ps_dput hu (pv 3) (pv 4) pe_bl rfl))))
      (pss_one (ps_ret pe_bl))))), ?_⟩
      refine ⟨_, rfl, .ref t, _, rfl, .lst ht (pls_dp ha), fun H1 s1 => ⟨_, rfl, iteF ?_⟩⟩
      refine ⟨_, rfl, t, rfl, ⟨_, (s1).seq ht⟩, fun D nD => ?_⟩
      refine lc_list (K := K) (a := t) (xs := vs) (fun i H2 => Same H1 H2 ∧ H2 D = some (.lst ((List.replicate i true).map V.bl))) ⟨same_new nD, upd_same⟩ (fun i H2 _ ⟨s2, _⟩ => (s1.trans s2).seq ht) ?_ ?_
      · rintro i y H2 hi ⟨s2, h2⟩
        obtain ⟨p, hp, q0, rfl, hq⟩ := ha.get hi
        have hq2 := (s1.trans s2).seq hq
        refine ⟨rfl, yes_of ?_⟩
        refine ⟨_, rfl, .ref q0, _, rfl, .lst hq2 (.cons (.int _) (.cons (.int _) .nil)), fun H4 s4 => ⟨_, rfl, iteT ?_⟩⟩
        refine ⟨_, rfl, q0, _, rfl, .inl ((s4).seq hq2), rfl, ?_⟩
        refine ⟨_, s4 _ _ h2, ?_, fun b o e => ?_, ?_⟩
        · rw [List.length_map, List.length_replicate]
          have := ha.len
          have := (List.getElem?_eq_some_iff.mp hi).1
          exact Nat.lt_of_lt_of_le (by omega : i < 1000) (by decide)
        · rw [upd_ne (ne_of_none e nD)]
          exact s4 _ _ (s2 _ _ e)
        · rw [upd_same]
          have e : decide (V.int (([V.int p.1, V.int p.2].length : Nat) : Int) = V.int 2) = true := decide_eq_true rfl
          show some (HO.lst (_ ++ [V.bl (decide (V.int (([V.int p.1, V.int p.2].length : Nat) : Int) = V.int 2))])) = _
          rw [e, List.replicate_succ', List.map_append]
          all_goals rfl
      rintro H2 ⟨s2, h2⟩
      refine ⟨D, _, rfl, SqL.of h2, _, rfl, ifF (all_yes _) ?_⟩
      intro d nd0
      have s12 := s1.trans s2
      have hd0 : H d = none := s12.free nd0
      have s3 := s12.trans (same_new (u := .dK []) nd0)
      have hd3 := upd_same (H := H2) (a := d) (o := .dK [])
      generalize upd H2 d (.dK []) = H3 at s3 hd3 ⊢
      clear s1 s2 s12 h2 nd0 nD
      refine ⟨_, rfl, t, rfl, ⟨_, (s3).seq ht⟩, for_list (K := K) (a := t) (xs := vs)
        (fun i σ H4 => ∃ (x4 x5 : Option V) (kvs : List (Key × V)), σ = [some (.int n), some (.ref t), none, some (.ref d), x4, x5] ∧ Same H H4 ∧ H4 d = some (.dK kvs) ∧ kvs.length ≤ i ∧ ∀ z : Int, (valV kvs (.inl z)).isSome = decide (z ∈ (ks.take i).map (·.1)))
        ⟨none, none, [], rfl, s3, hd3, Nat.le_refl _, fun z => (decide_eq_false List.not_mem_nil).symm⟩ (fun i σ H4 _ ⟨_, _, _, _, s4, _⟩ => (s4).seq ht) ?_ ?_⟩
      · rintro i y σ H4 hi ⟨x4, x5, kvs, rfl, s4, hd4, kl4, kv4⟩
        obtain ⟨p, hp, q0, rfl, hq⟩ := ha.get hi
        obtain ⟨p0, p1, p2⟩ := kb p (List.mem_of_getElem? hp)
        have il : i < ks.length := (List.getElem?_eq_some_iff.mp hp).1
        refine ⟨q0, _, rfl, (s4).seq hq, rfl, _, _, rfl, _, _, rfl, rfl, ?_⟩
        refine ⟨_, rfl, _, rfl, .int p.1, 1, n, .int p.1, rfl, .int _, _, rfl, ifF (bet_in p0 p1) ?_⟩
        refine ⟨_, rfl, .int p.2, 0, 1, .int p.2, rfl, .int _, _, rfl, ifF (bet_in (by omega) (by omega)) ?_⟩
        have fresh : (valV kvs (.inl p.1)).isSome = false := by
          rw [kv4]
          refine decide_eq_false fun m => ?_
          obtain ⟨q1, m1, e1⟩ := List.mem_map.mp m
          obtain ⟨j, hj, ej⟩ := List.getElem_of_mem m1
          rw [List.length_take] at hj
          rw [List.getElem_take] at ej
          have a1 : (ks.map (·.1))[j]? = some p.1 := by
            rw [List.getElem?_map, List.getElem?_eq_getElem (by omega), ej]
            exact congrArg some e1
          have a2 : (ks.map (·.1))[i]? = some p.1 := by
            rw [List.getElem?_map, hp]
            rfl
          have ei := (List.getElem?_inj (by rw [List.length_map]; omega) nd).mp (a1.trans a2.symm)
          omega
        refine ⟨_, rfl, _, rfl, d, _, rfl, DGet.k (k := .inl p.1) hd4, _, rfl, ?_⟩
        rw [fresh]
        refine iteF ?_
        refine ⟨_, rfl, _, rfl, d, _, rfl, DPut.k (k := .inl p.1) hd4 (Nat.lt_of_le_of_lt (by omega : kvs.length ≤ 500) (by decide)), ?_⟩
        refine ⟨_, _, putK kvs (.inl p.1) (.bl true), rfl, fun b o e => ?_, upd_same, ?_, fun z => ?_⟩
        · rw [upd_ne (ne_of_none e hd0)]
          exact s4 _ _ e
        · have e : valV kvs (.inl p.1) = none := by
            cases e : valV kvs (.inl p.1) with
            | none => rfl
            | some u =>
              rw [e] at fresh
              cases fresh
          rw [putK_new _ e, List.length_append]
          exact Nat.succ_le_succ kl4
        · rw [valV_put, take_more hp, List.map_append]
          by_cases c : z = p.1
          · rw [if_pos (by rw [c]), decide_eq_true (show z ∈ (ks.take i).map (·.1) ++ [p].map (·.1) from List.mem_append_right _ (List.mem_singleton.mpr c))]
            rfl
          · rw [if_neg fun e => c (Sum.inl.inj e), kv4]
            have : (z ∈ (ks.take i).map (·.1)) ↔ (z ∈ (ks.take i).map (·.1) ++ [p].map (·.1)) := by
              rw [List.mem_append]
              exact ⟨.inl, fun h => h.elim id fun h => absurd (List.mem_singleton.mp h) c⟩
            by_cases c2 : z ∈ (ks.take i).map (·.1)
            · rw [decide_eq_true c2, decide_eq_true (this.mp c2)]
            · rw [decide_eq_false c2, decide_eq_false fun h => c2 (this.mpr h)]
      · rintro σ H4 ⟨x4, x5, kvs, rfl, s4, hd4, kl4, kv4⟩
        exact q _ s4
    · obtain ⟨ht, ha⟩ := ht
      refine ⟨_, PSs.nox (pss_cons (ps_if (PW.pt (pw_or (pt_not (pt_val (pe_call GR (hr.mono (by decide)) (by rfl) gR kR bR .nil pass0 (pa_cons (pv 1) pa_nil)))) (pw_or1 (pt_not (pt_val (pe_callB (cr_all rfl) (by rfl) T.ki.all (by decide +kernel) (pa_cons (pe_lc (own := [("pair", 2)]) (g := gName 2) (tt := tYes) rfl scKnown.nd (pi_tup (pv 1)) (blkOk_by (N := nKnown) (sc := defScope sKnown) (by decide +kernel)) (fun _ _ _ _ _ => pg_name (i := 2) scKnown.nd rfl (Or.inl rfl)) (fun _ _ _ _ _ => pts_nil) (fun _ _ _ _ _ => (pe_and (pe_call GR (hr.mono (by decide)) (by rfl) gR kR bR .nil pass0 (pa_cons (pv 2) pa_nil)) (pe_one (pe_cmpR op_eq (pe_callB (r := Bw.rLen K) (by exact call_len_seq) (by rfl) T.ki.len PySem.boot_len (pa_cons (pv 2) pa_nil)) pe_int (nomark _)))))) pa_nil)))))))
        (pss_one (ps_ret pe_bl))
        pss_nil)
      (pss_cons (ps_set (i := 3) scKnown.nd rfl (Or.inl rfl) pe_dnewK)
      (pss_cons (ps_for PassesOwn.never rfl (pi_tup (pv 1)) (pg_tup rfl (pgs_cons (pg_name (i := 4) scKnown.nd rfl (Or.inl rfl)) (pgs_cons (pg_name (i := 5) scKnown.nd rfl (Or.inl rfl)) pgs_nil)))
        (pss_cons (ps_if (PW.pt (pw_or (pt_not (pt_val (pe_call GB (hr.mono (by decide)) (by rfl) gB kB bB .nil pass0 (pa_cons (pv 4) (pa_cons pe_int (pa_cons (pv 0) pa_nil)))))) (pw_or (pt_not (pt_val (pe_call GB (hr.mono (by decide)) (by rfl) gB kB bB .nil pass0 (pa_cons (pv 5) (pa_cons pe_int (pa_cons pe_int pa_nil)))))) (pw_or1 (pt_cmp (pc_din hu (pv 4) (pv 3)))))))
          (pss_one (ps_ret pe_bl))
          pss_nil)
        (pss_one (ps_dput hu (pv 3) (pv 4) pe_bl rfl))))
      (pss_one (ps_ret pe_bl))))), ?_⟩
      refine ⟨_, rfl, .ref t, _, rfl, .tup ht (pts_dp ha), fun H1 s1 => ⟨_, rfl, iteF ?_⟩⟩
      refine ⟨_, rfl, t, rfl, ⟨_, seqT_same (s1) ht⟩, fun D nD => ?_⟩
      refine lc_tup (K := K) (a := t) (xs := vs) (fun i H2 => Same H1 H2 ∧ H2 D = some (.lst ((List.replicate i true).map V.bl))) ⟨same_new nD, upd_same⟩ (fun i H2 _ ⟨s2, _⟩ => seqT_same (s1.trans s2) ht) ?_ ?_
      · rintro i y H2 hi ⟨s2, h2⟩
        obtain ⟨p, hp, q0, rfl, hq⟩ := ha.get hi
        have hq2 := seqT_same (s1.trans s2) hq
        refine ⟨rfl, yes_of ?_⟩
        refine ⟨_, rfl, .ref q0, _, rfl, .tup hq2 (.cons (.int _) (.cons (.int _) .nil)), fun H4 s4 => ⟨_, rfl, iteT ?_⟩⟩
        refine ⟨_, rfl, q0, _, rfl, .inr (seqT_same (s4) hq2), rfl, ?_⟩
        refine ⟨_, s4 _ _ h2, ?_, fun b o e => ?_, ?_⟩
        · rw [List.length_map, List.length_replicate]
          have := ha.len
          have := (List.getElem?_eq_some_iff.mp hi).1
          exact Nat.lt_of_lt_of_le (by omega : i < 1000) (by decide)
        · rw [upd_ne (ne_of_none e nD)]
          exact s4 _ _ (s2 _ _ e)
        · rw [upd_same]
          have e : decide (V.int (([V.int p.1, V.int p.2].length : Nat) : Int) = V.int 2) = true := decide_eq_true rfl
          show some (HO.lst (_ ++ [V.bl (decide (V.int (([V.int p.1, V.int p.2].length : Nat) : Int) = V.int 2))])) = _
          rw [e, List.replicate_succ', List.map_append]
          all_goals rfl
      rintro H2 ⟨s2, h2⟩
      refine ⟨D, _, rfl, SqL.of h2, _, rfl, ifF (all_yes _) ?_⟩
      intro d nd0
      have s12 := s1.trans s2
      have hd0 : H d = none := s12.free nd0
      have s3 := s12.trans (same_new (u := .dK []) nd0)
      have hd3 := upd_same (H := H2) (a := d) (o := .dK [])
      generalize upd H2 d (.dK []) = H3 at s3 hd3 ⊢
      clear s1 s2 s12 h2 nd0 nD
      refine ⟨_, rfl, t, rfl, ⟨_, seqT_same (s3) ht⟩, for_tup (K := K) (a := t) (xs := vs)
        (fun i σ H4 => ∃ (x4 x5 : Option V) (kvs : List (Key × V)), σ = [some (.int n), some (.ref t), none, some (.ref d), x4, x5] ∧ Same H H4 ∧ H4 d = some (.dK kvs) ∧ kvs.length ≤ i ∧ ∀ z : Int, (valV kvs (.inl z)).isSome = decide (z ∈ (ks.take i).map (·.1)))
        ⟨none, none, [], rfl, s3, hd3, Nat.le_refl _, fun z => (decide_eq_false List.not_mem_nil).symm⟩ (fun i σ H4 _ ⟨_, _, _, _, s4, _⟩ => seqT_same (s4) ht) ?_ ?_⟩
      · rintro i y σ H4 hi ⟨x4, x5, kvs, rfl, s4, hd4, kl4, kv4⟩
        obtain ⟨p, hp, q0, rfl, hq⟩ := ha.get hi
        obtain ⟨p0, p1, p2⟩ := kb p (List.mem_of_getElem? hp)
        have il : i < ks.length := (List.getElem?_eq_some_iff.mp hp).1
        refine ⟨q0, _, rfl, seqT_same (s4) hq, rfl, _, _, rfl, _, _, rfl, rfl, ?_⟩
        refine ⟨_, rfl, _, rfl, .int p.1, 1, n, .int p.1, rfl, .int _, _, rfl, ifF (bet_in p0 p1) ?_⟩
        refine ⟨_, rfl, .int p.2, 0, 1, .int p.2, rfl, .int _, _, rfl, ifF (bet_in (by omega) (by omega)) ?_⟩
        have fresh : (valV kvs (.inl p.1)).isSome = false := by
          rw [kv4]
          refine decide_eq_false fun m => ?_
          obtain ⟨q1, m1, e1⟩ := List.mem_map.mp m
          obtain ⟨j, hj, ej⟩ := List.getElem_of_mem m1
          rw [List.length_take] at hj
          rw [List.getElem_take] at ej
          have a1 : (ks.map (·.1))[j]? = some p.1 := by
            rw [List.getElem?_map, List.getElem?_eq_getElem (by omega), ej]
            exact congrArg some e1
          have a2 : (ks.map (·.1))[i]? = some p.1 := by
            rw [List.getElem?_map, hp]
            rfl
          have ei := (List.getElem?_inj (by rw [List.length_map]; omega) nd).mp (a1.trans a2.symm)
          omega
        refine ⟨_, rfl, _, rfl, d, _, rfl, DGet.k (k := .inl p.1) hd4, _, rfl, ?_⟩
        rw [fresh]
        refine iteF ?_
        refine ⟨_, rfl, _, rfl, d, _, rfl, DPut.k (k := .inl p.1) hd4 (Nat.lt_of_le_of_lt (by omega : kvs.length ≤ 500) (by decide)), ?_⟩
        refine ⟨_, _, putK kvs (.inl p.1) (.bl true), rfl, fun b o e => ?_, upd_same, ?_, fun z => ?_⟩
        · rw [upd_ne (ne_of_none e hd0)]
          exact s4 _ _ e
        · have e : valV kvs (.inl p.1) = none := by
            cases e : valV kvs (.inl p.1) with
            | none => rfl
            | some u =>
              rw [e] at fresh
              cases fresh
          rw [putK_new _ e, List.length_append]
          exact Nat.succ_le_succ kl4
        · rw [valV_put, take_more hp, List.map_append]
          by_cases c : z = p.1
          · rw [if_pos (by rw [c]), decide_eq_true (show z ∈ (ks.take i).map (·.1) ++ [p].map (·.1) from List.mem_append_right _ (List.mem_singleton.mpr c))]
            rfl
          · rw [if_neg fun e => c (Sum.inl.inj e), kv4]
            have : (z ∈ (ks.take i).map (·.1)) ↔ (z ∈ (ks.take i).map (·.1) ++ [p].map (·.1)) := by
              rw [List.mem_append]
              exact ⟨.inl, fun h => h.elim id fun h => absurd (List.mem_singleton.mp h) c⟩
            by_cases c2 : z ∈ (ks.take i).map (·.1)
            · rw [decide_eq_true c2, decide_eq_true (this.mp c2)]
            · rw [decide_eq_false c2, decide_eq_false fun h => c2 (this.mpr h)]
      · rintro σ H4 ⟨x4, x5, kvs, rfl, s4, hd4, kl4, kv4⟩
        exact q _ s4
theorem ok_with {fK fL fN : Addr} {dK dL dN : FuncData} (F : FnP K "with_known" sWith f fd) (T : Gr.Tx K mg C)
    (GK : FnOk P w K mg base CX0 2 fK dK ["leaves", "value"] (spKnown K)) (gK : mg "are_known" = some (.ref fK)) (kK : PySem.W.keepIn K (.ref fK) = true) (bK : Binds K dK ["leaves", "value"] [])
    (GL : FnOk P w K mg base CX0 1 fL dL ["graph"] (spOwnL K C)) (gL : mg "own_leaves" = some (.ref fL)) (kL : PySem.W.keepIn K (.ref fL) = true) (bL : Binds K dL ["graph"] [])
    (GN : FnOk P w K mg base CX0 7 fN dN ["graph", "leaves", "literals"] (spAnew K C)) (gN : mg "made_anew" = some (.ref fN)) (kN : PySem.W.keepIn K (.ref fN) = true) (bN : Binds K dN ["graph", "leaves", "literals"] []) :
    FnOk P w K mg base CX0 8 f fd ["graph", "literals", "known"] (spWith K C) := by
  refine F.ok scWith (fun vs H Q E h => ?_) (fun cdv A outer s H vs Q E hr h => ?_)
  · obtain ⟨x, v, v2, n, hs, ks, as, rfl, _⟩ := h
    rfl
  · obtain ⟨x, v, v2, n, hs, ks, as, rfl, hG, hv, hk, kl, hv2, n4, hz, hok, has, asl, q⟩ := h
    have hv0 := hv
    obtain ⟨t, vs, rfl, ht⟩ := hv
    obtain ⟨dg, g, x1, _⟩ := id hG
    rcases ht with ht | ht
    · obtain ⟨ht, ha⟩ := ht
      refine ⟨_, PSs.nox (pss_cons (ps_if (pt_not (pt_val (pe_call GK (hr.mono (by decide)) (by rfl) gK kK bK .nil pass0 (pa_cons (pe_fld (pv 0) rfl) (pa_cons (pv 2) pa_nil)))))
        (pss_one ps_never)
        pss_nil)
      (pss_cons (ps_set (i := 3) scWith.nd rfl (Or.inl rfl) (pe_call GL (hr.mono (by decide)) (by rfl) gL kL bL .nil pass0 (pa_cons (pv 0) pa_nil)))
      (pss_cons (ps_for PassesOwn.never rfl (pi_list (pv 2)) (pg_unl rfl (pgs_cons (pg_name (i := 4) scWith.nd rfl (Or.inl rfl)) (pgs_cons (pg_name (i := 5) scWith.nd rfl (Or.inl rfl)) pgs_nil)))
        (pss_one (ps_asg (pv 5) (pg_sub (pv 3) (pe_op op_sub (pv 4) pe_int) set_list))))
      (pss_one (ps_ret (pe_call GN (hr.mono (by decide)) (by rfl) gN kN bN .nil pass0 (pa_cons (pv 0) (pa_cons (pv 3) (pa_cons (pv 1) pa_nil))))))))), ?_⟩
      refine ⟨_, rfl, x, C, dg, _, _, rfl, x1, T.cl, T.nL, flds_L _ _, _, rfl, .ref t, n, ks, rfl, hv0, hk, kl, fun H1 s1 => ⟨_, rfl, iteF ?_⟩⟩
      refine ⟨_, rfl, x, n, hs, rfl, hG.firm (Firm.of s1), by omega, fun H2 l s2 nl h2 => ?_⟩
      have s12 := s1.trans s2
      have nl0 : H l = none := s1.free nl
      refine ⟨_, rfl, t, rfl, ⟨_, (s12).seq ht⟩, for_list (K := K) (a := t) (xs := vs)
        (fun i σ H3 => ∃ (x4 x5 : Option V), σ = [some (.ref x), some v2, some (.ref t), some (.ref l), x4, x5] ∧ Same H H3 ∧ H3 l = some (.lst ((setM (ownL n) (ks.take i)).map V.int)))
        ⟨none, none, rfl, s12, h2⟩ (fun i σ H3 _ ⟨_, _, _, s3, _⟩ => (s3).seq ht) ?_ ?_⟩
      · rintro i y σ H3 hi ⟨x4, x5, rfl, s3, h3⟩
        obtain ⟨p, hp, q0, rfl, hq⟩ := ha.get hi
        obtain ⟨p0, p1, p2⟩ := hk.1 p (List.mem_of_getElem? hp)
        refine ⟨q0, _, rfl, (s3).seq hq, rfl, _, _, rfl, _, _, rfl, rfl, ?_⟩
        refine ⟨_, rfl, _, rfl, _, rfl, _, _, rfl, rfl, l, _, _, (p.1 - 1).toNat, rfl, rfl, h3, ix_at (by omega) (by rw [List.length_map, setM_len, ownL_len]; omega), ?_⟩
        refine ⟨_, _, rfl, fun b o e => ?_, ?_⟩
        · rw [upd_ne (ne_of_none e nl0)]
          exact s3 _ _ e
        · rw [upd_same, take_more hp]
          unfold setM
          rw [List.foldl_append]
          show _ = some (HO.lst ((List.set _ _ _).map V.int))
          rw [List.map_set]
      · rintro σ H3 ⟨x4, x5, rfl, s3, h3⟩
        rw [ha.len, List.take_length] at h3
        exact ⟨_, rfl, _, rfl, _, rfl, x, .ref l, v2, n, hs, setM (ownL n) ks, as, rfl, hG.firm (Firm.of s3), ⟨l, rfl, .inl (SqL.of h3)⟩, hv2.same s3, by rw [setM_len, ownL_len], n4, hz, hok, setM_in ks (fun p hp => (hk.1 p hp).2.2) ownL_in, has, asl, fun H4 t4 g4 t5 s4 e1 e2 e3 => q H4 t4 g4 t5 (s3.trans s4) e1 e2 e3⟩
    · obtain ⟨ht, ha⟩ := ht
      refine ⟨_, PSs.nox (pss_cons (ps_if (pt_not (pt_val (pe_call GK (hr.mono (by decide)) (by rfl) gK kK bK .nil pass0 (pa_cons (pe_fld (pv 0) rfl) (pa_cons (pv 2) pa_nil)))))
        (pss_one ps_never)
        pss_nil)
      (pss_cons (ps_set (i := 3) scWith.nd rfl (Or.inl rfl) (pe_call GL (hr.mono (by decide)) (by rfl) gL kL bL .nil pass0 (pa_cons (pv 0) pa_nil)))
      (pss_cons (ps_for PassesOwn.never rfl (pi_tup (pv 2)) (pg_tup rfl (pgs_cons (pg_name (i := 4) scWith.nd rfl (Or.inl rfl)) (pgs_cons (pg_name (i := 5) scWith.nd rfl (Or.inl rfl)) pgs_nil)))
        (pss_one (ps_asg (pv 5) (pg_sub (pv 3) (pe_op op_sub (pv 4) pe_int) set_list))))
      (pss_one (ps_ret (pe_call GN (hr.mono (by decide)) (by rfl) gN kN bN .nil pass0 (pa_cons (pv 0) (pa_cons (pv 3) (pa_cons (pv 1) pa_nil))))))))), ?_⟩
      refine ⟨_, rfl, x, C, dg, _, _, rfl, x1, T.cl, T.nL, flds_L _ _, _, rfl, .ref t, n, ks, rfl, hv0, hk, kl, fun H1 s1 => ⟨_, rfl, iteF ?_⟩⟩
      refine ⟨_, rfl, x, n, hs, rfl, hG.firm (Firm.of s1), by omega, fun H2 l s2 nl h2 => ?_⟩
      have s12 := s1.trans s2
      have nl0 : H l = none := s1.free nl
      refine ⟨_, rfl, t, rfl, ⟨_, seqT_same (s12) ht⟩, for_tup (K := K) (a := t) (xs := vs)
        (fun i σ H3 => ∃ (x4 x5 : Option V), σ = [some (.ref x), some v2, some (.ref t), some (.ref l), x4, x5] ∧ Same H H3 ∧ H3 l = some (.lst ((setM (ownL n) (ks.take i)).map V.int)))
        ⟨none, none, rfl, s12, h2⟩ (fun i σ H3 _ ⟨_, _, _, s3, _⟩ => seqT_same (s3) ht) ?_ ?_⟩
      · rintro i y σ H3 hi ⟨x4, x5, rfl, s3, h3⟩
        obtain ⟨p, hp, q0, rfl, hq⟩ := ha.get hi
        obtain ⟨p0, p1, p2⟩ := hk.1 p (List.mem_of_getElem? hp)
        refine ⟨q0, _, rfl, seqT_same (s3) hq, rfl, _, _, rfl, _, _, rfl, rfl, ?_⟩
        refine ⟨_, rfl, _, rfl, _, rfl, _, _, rfl, rfl, l, _, _, (p.1 - 1).toNat, rfl, rfl, h3, ix_at (by omega) (by rw [List.length_map, setM_len, ownL_len]; omega), ?_⟩
        refine ⟨_, _, rfl, fun b o e => ?_, ?_⟩
        · rw [upd_ne (ne_of_none e nl0)]
          exact s3 _ _ e
        · rw [upd_same, take_more hp]
          unfold setM
          rw [List.foldl_append]
          show _ = some (HO.lst ((List.set _ _ _).map V.int))
          rw [List.map_set]
      · rintro σ H3 ⟨x4, x5, rfl, s3, h3⟩
        rw [ha.len, List.take_length] at h3
        exact ⟨_, rfl, _, rfl, _, rfl, x, .ref l, v2, n, hs, setM (ownL n) ks, as, rfl, hG.firm (Firm.of s3), ⟨l, rfl, .inl (SqL.of h3)⟩, hv2.same s3, by rw [setM_len, ownL_len], n4, hz, hok, setM_in ks (fun p hp => (hk.1 p hp).2.2) ownL_in, has, asl, fun H4 t4 g4 t5 s4 e1 e2 e3 => q H4 t4 g4 t5 (s3.trans s4) e1 e2 e3⟩
end
end Cc
namespace Xk
open PySem PySem.Spec PyProof.Rows L2 Pen Dat Ki Fi Gr No Lf Cn Bd Be Bf Bg Bm Bo Bw Bx Ca Us Cb Cc Gd
/-! ## Known leaves that are refused -/
/-- a list of tuples that tells no known leaves, or no row at all -/
inductive BadK (K : PySem.W.Frag) (H : Hp) (n : Nat) : V → Prop
  | atom {v : V} {d : PyData} (h : Dp K H v d) (e : isRowD d = false) : BadK K H n v
  | one {t q : Addr} {x : V} {d : PyData} (h : SqL K H t [.ref q]) (h1 : SqT K H q [x]) (h2 : Dp K H x d) : BadK K H n (.ref t)
  | two {t q : Addr} {x y : V} {d e : PyData} (h : SqL K H t [.ref q]) (h1 : SqT K H q [x, y]) (h2 : Dp K H x d) (h3 : Dp K H y e) (b : betD d 1 n = false ∨ (betD d 1 n = true ∧ betD e 0 1 = false)) : BadK K H n (.ref t)
  | twice {t q r : Addr} {i j k : Int} (h : SqL K H t [.ref q, .ref r]) (h1 : SqT K H q [.int i, .int j]) (h2 : SqT K H r [.int i, .int k]) (b1 : betD (.int i) 1 n = true) (b2 : betD (.int j) 0 1 = true) (b3 : betD (.int k) 0 1 = true) : BadK K H n (.ref t)
def spKnownX (K : PySem.W.Frag) : Sp := fun vs H Q _ => ∃ (v : V) (n : Nat), vs = [.int n, v] ∧ BadK K H n v ∧ ∀ H', Same H H' → Q (.bl false) H'
section
variable {P : Program} {w : World} {K : PySem.W.Frag} {mg : Str → Option Value} {base : Heap} {f C : Addr} {fd : FuncData}
theorem ok_knownX {fR fB : Addr} {dR dB : FuncData} (F : FnP K "are_known" sKnown f fd) (T : Gr.Tx K mg C)
    (GR : FnOk P w K mg base CX0 1 fR dR ["value"] (spRow K)) (gR : mg "is_row" = some (.ref fR)) (kR : PySem.W.keepIn K (.ref fR) = true) (bR : Binds K dR ["value"] [])
    (GB : FnOk P w K mg base CX0 1 fB dB ["value", "least", "most"] (spBetween K)) (gB : mg "is_between" = some (.ref fB)) (kB : PySem.W.keepIn K (.ref fB) = true) (bB : Binds K dB ["value", "least", "most"] []) :
    FnOk P w K mg base CX0 2 f fd ["leaves", "value"] (spKnownX K) := by
  refine F.ok scKnown (fun vs H Q E h => ?_) (fun cdv A outer s H vs Q E hr h => ?_)
  · obtain ⟨v, n, rfl, _⟩ := h
    rfl
  · obtain ⟨v, n, rfl, bad, q⟩ := h
    have hu := hu_of hr
    refine ⟨_, PSs.nox (pss_cons (ps_if (PW.pt (pw_or (pt_not (pt_val (pe_call GR (hr.mono (by decide)) (by rfl) gR kR bR .nil pass0 (pa_cons (pv 1) pa_nil)))) (pw_or1 (pt_not (pt_val (pe_callB (cr_all rfl) (by rfl) T.ki.all (by decide +kernel) (pa_cons (pe_lc (own := [("pair", 2)]) (g := gName 2) (tt := tYes) rfl scKnown.nd (pi_list (pv 1)) (blkOk_by (N := nKnown) (sc := defScope sKnown) (by decide +kernel)) (fun _ _ _ _ _ => pg_name (i := 2) scKnown.nd rfl (Or.inl rfl)) (fun _ _ _ _ _ => pts_nil) (fun _ _ _ _ _ => (pe_and (pe_call GR (hr.mono (by decide)) (by rfl) gR kR bR .nil pass0 (pa_cons (pv 2) pa_nil)) (pe_one (pe_cmpR op_eq (pe_callB (r := Bw.rLen K) (by exact call_len_seq) (by rfl) T.ki.len PySem.boot_len (pa_cons (pv 2) pa_nil)) pe_int (nomark _)))))) pa_nil)))))))
        (pss_one (ps_ret pe_bl))
        pss_nil)
      (pss_cons (ps_set (i := 3) scKnown.nd rfl (Or.inl rfl) pe_dnewK)
      (pss_cons (ps_for PassesOwn.never rfl (pi_list (pv 1)) (pg_tup rfl (pgs_cons (pg_name (i := 4) scKnown.nd rfl (Or.inl rfl)) (pgs_cons (pg_name (i := 5) scKnown.nd rfl (Or.inl rfl)) pgs_nil)))
        (pss_cons (ps_if (PW.pt (pw_or (pt_not (pt_val (pe_call GB (hr.mono (by decide)) (by rfl) gB kB bB .nil pass0 (pa_cons (pv 4) (pa_cons pe_int (pa_cons (pv 0) pa_nil)))))) (pw_or (pt_not (pt_val (pe_call GB (hr.mono (by decide)) (by rfl) gB kB bB .nil pass0 (pa_cons (pv 5) (pa_cons pe_int (pa_cons pe_int pa_nil)))))) (pw_or1 (pt_cmp (pc_din hu (pv 4) (pv 3)))))))
          (pss_one (ps_ret pe_bl))
          pss_nil)
        (pss_one (ps_dput hu (pv 3) (pv 4) pe_bl rfl))))
      (pss_one (ps_ret pe_bl))))), ?_⟩
    cases bad with
    | atom hd e =>
      refine ⟨_, rfl, v, _, rfl, hd, fun H1 s1 => ⟨_, rfl, ?_⟩⟩
      rw [e]
      exact iteT (q _ s1)
    | @one t q0 x d ht hq hx =>
      refine ⟨_, rfl, .ref t, _, rfl, .lst ht (.cons (.tup hq (.cons hx .nil)) .nil), fun H1 s1 => ⟨_, rfl, iteF ?_⟩⟩
      refine ⟨_, rfl, t, rfl, ⟨_, s1.seq ht⟩, fun D nD => ?_⟩
      refine lc_list (K := K) (a := t) (xs := [.ref q0]) (fun i H2 => Same H1 H2 ∧ H2 D = some (.lst ((List.replicate i false).map V.bl))) ⟨same_new nD, upd_same⟩ (fun i H2 _ ⟨s2, _⟩ => (s1.trans s2).seq ht) ?_ ?_
      · rintro i y H2 hi ⟨s2, h2⟩
        have i0 : i = 0 := by
          have := (List.getElem?_eq_some_iff.mp hi).1
          simp at this
          exact this
        subst i0
        cases hi
        have hq2 := seqT_same (s1.trans s2) hq
        refine ⟨rfl, yes_of ?_⟩
        refine ⟨_, rfl, .ref q0, _, rfl, .tup hq2 (.cons (dp_same (s1.trans s2) hx) .nil), fun H4 s4 => ⟨_, rfl, iteT ?_⟩⟩
        refine ⟨_, rfl, q0, _, rfl, .inr (seqT_same s4 hq2), rfl, ?_⟩
        refine ⟨_, s4 _ _ h2, by decide, fun b o e => ?_, ?_⟩
        · rw [upd_ne (ne_of_none e nD)]
          exact s4 _ _ (s2 _ _ e)
        · rw [upd_same]
          rfl
      rintro H2 ⟨s2, h2⟩
      refine ⟨D, _, rfl, SqL.of h2, _, rfl, ifT (by rfl) ?_⟩
      exact q _ (s1.trans s2)
    | @two t q0 x y d e ht hq hx hy b =>
      refine ⟨_, rfl, .ref t, _, rfl, .lst ht (.cons (.tup hq (.cons hx (.cons hy .nil))) .nil), fun H1 s1 => ⟨_, rfl, iteF ?_⟩⟩
      refine ⟨_, rfl, t, rfl, ⟨_, s1.seq ht⟩, fun D nD => ?_⟩
      refine lc_list (K := K) (a := t) (xs := [.ref q0]) (fun i H2 => Same H1 H2 ∧ H2 D = some (.lst ((List.replicate i true).map V.bl))) ⟨same_new nD, upd_same⟩ (fun i H2 _ ⟨s2, _⟩ => (s1.trans s2).seq ht) ?_ ?_
      · rintro i z H2 hi ⟨s2, h2⟩
        have i0 : i = 0 := by
          have := (List.getElem?_eq_some_iff.mp hi).1
          simp at this
          exact this
        subst i0
        cases hi
        have hq2 := seqT_same (s1.trans s2) hq
        refine ⟨rfl, yes_of ?_⟩
        refine ⟨_, rfl, .ref q0, _, rfl, .tup hq2 (.cons (dp_same (s1.trans s2) hx) (.cons (dp_same (s1.trans s2) hy) .nil)), fun H4 s4 => ⟨_, rfl, iteT ?_⟩⟩
        refine ⟨_, rfl, q0, _, rfl, .inr (seqT_same s4 hq2), rfl, ?_⟩
        refine ⟨_, s4 _ _ h2, by decide, fun b o e => ?_, ?_⟩
        · rw [upd_ne (ne_of_none e nD)]
          exact s4 _ _ (s2 _ _ e)
        · rw [upd_same]
          rfl
      rintro H2 ⟨s2, h2⟩
      refine ⟨D, _, rfl, SqL.of h2, _, rfl, ifF (all_yes _) ?_⟩
      intro dd nd0
      have s3 := (s1.trans s2).trans (same_new (u := .dK []) nd0)
      have hd3 := upd_same (H := H2) (a := dd) (o := .dK [])
      generalize upd H2 dd (.dK []) = H3 at s3 hd3 ⊢
      refine ⟨_, rfl, t, rfl, ⟨_, s3.seq ht⟩, for_list (K := K) (a := t) (xs := [.ref q0])
        (fun i σ H4 => σ = [some (.int n), some (.ref t), none, some (.ref dd), none, none] ∧ Same H H4 ∧ i = 0) ⟨rfl, s3, rfl⟩ (fun i σ H4 _ ⟨_, s4, _⟩ => s4.seq ht) ?_ ?_⟩
      · rintro i z σ H4 hi ⟨rfl, s4, rfl⟩
        cases hi
        refine ⟨q0, _, rfl, seqT_same s4 hq, rfl, _, _, rfl, _, _, rfl, rfl, ?_⟩
        refine ⟨_, rfl, _, rfl, x, 1, n, d, rfl, dp_same s4 hx, _, rfl, ?_⟩
        rcases b with b | ⟨b1, b2⟩
        · rw [b]
          exact iteT (q _ s4)
        · rw [b1]
          refine iteF ?_
          refine ⟨_, rfl, y, 0, 1, e, rfl, dp_same s4 hy, _, rfl, ?_⟩
          rw [b2]
          exact iteT (q _ s4)
      · rintro σ H4 ⟨_, _, z⟩
        cases z
    | @twice t q1 q2 i j k ht h1 h2 b1 b2 b3 =>
      refine ⟨_, rfl, .ref t, _, rfl, .lst ht (.cons (.tup h1 (.cons (.int i) (.cons (.int j) .nil))) (.cons (.tup h2 (.cons (.int i) (.cons (.int k) .nil))) .nil)), fun H1 s1 => ⟨_, rfl, iteF ?_⟩⟩
      refine ⟨_, rfl, t, rfl, ⟨_, s1.seq ht⟩, fun D nD => ?_⟩
      have item : ∀ {a : Nat} {z : V}, [V.ref q1, .ref q2][a]? = some z → ∃ (q0 : Addr) (c : Int), z = .ref q0 ∧ SqT K H q0 [.int i, .int c] ∧ betD (.int c) 0 1 = true ∧ a < 2 := fun {a z} e => by
        match a, e with
        | 0, e =>
          cases e
          exact ⟨q1, j, rfl, h1, b2, by decide⟩
        | 1, e =>
          cases e
          exact ⟨q2, k, rfl, h2, b3, by decide⟩
      refine lc_list (K := K) (a := t) (xs := [.ref q1, .ref q2]) (fun i H2 => Same H1 H2 ∧ H2 D = some (.lst ((List.replicate i true).map V.bl))) ⟨same_new nD, upd_same⟩ (fun i H2 _ ⟨s2, _⟩ => (s1.trans s2).seq ht) ?_ ?_
      · rintro a z G2 hi ⟨s2, g2⟩
        obtain ⟨q0, c, rfl, hq, _, la⟩ := item hi
        have hq2 := seqT_same (s1.trans s2) hq
        refine ⟨rfl, yes_of ?_⟩
        refine ⟨_, rfl, .ref q0, _, rfl, .tup hq2 (.cons (.int _) (.cons (.int _) .nil)), fun H4 s4 => ⟨_, rfl, iteT ?_⟩⟩
        refine ⟨_, rfl, q0, _, rfl, .inr (seqT_same s4 hq2), rfl, ?_⟩
        refine ⟨_, s4 _ _ g2, ?_, fun b o e => ?_, ?_⟩
        · rw [List.length_map, List.length_replicate]
          exact Nat.lt_of_lt_of_le (by omega : a < 1000) (by decide)
        · rw [upd_ne (ne_of_none e nD)]
          exact s4 _ _ (s2 _ _ e)
        · rw [upd_same]
          have e : decide (V.int (([V.int i, V.int c].length : Nat) : Int) = V.int 2) = true := decide_eq_true rfl
          show some (HO.lst (_ ++ [V.bl (decide (V.int (([V.int i, V.int c].length : Nat) : Int) = V.int 2))])) = _
          rw [e, List.replicate_succ', List.map_append]
          all_goals rfl
      rintro G2 ⟨s2, g2⟩
      refine ⟨D, _, rfl, SqL.of g2, _, rfl, ifF (all_yes _) ?_⟩
      intro dd nd0
      have hd0 : H dd = none := (s1.trans s2).free nd0
      have s3 := (s1.trans s2).trans (same_new (u := .dK []) nd0)
      have hd3 := upd_same (H := G2) (a := dd) (o := .dK [])
      generalize upd G2 dd (.dK []) = H3 at s3 hd3 ⊢
      refine ⟨_, rfl, t, rfl, ⟨_, s3.seq ht⟩, for_list (K := K) (a := t) (xs := [.ref q1, .ref q2])
        (fun a σ H4 => ∃ (x4 x5 : Option V) (kvs : List (Key × V)), σ = [some (.int n), some (.ref t), none, some (.ref dd), x4, x5] ∧ Same H H4 ∧ H4 dd = some (.dK kvs) ∧ ((a = 0 ∧ kvs = []) ∨ (a = 1 ∧ kvs = putK [] (.inl i) (.bl true)))) ⟨none, none, [], rfl, s3, hd3, .inl ⟨rfl, rfl⟩⟩ (fun i σ H4 _ ⟨_, _, _, _, s4, _⟩ => s4.seq ht) ?_ ?_⟩
      · rintro a z σ H4 hi ⟨x4, x5, kvs, rfl, s4, hd4, st⟩
        obtain ⟨q0, c, rfl, hq, bc, la⟩ := item hi
        refine ⟨q0, _, rfl, seqT_same s4 hq, rfl, _, _, rfl, _, _, rfl, rfl, ?_⟩
        refine ⟨_, rfl, _, rfl, .int i, 1, n, .int i, rfl, .int _, _, rfl, ifF (by rw [b1]; rfl) ?_⟩
        refine ⟨_, rfl, .int c, 0, 1, .int c, rfl, .int _, _, rfl, ifF (by rw [bc]; rfl) ?_⟩
        refine ⟨_, rfl, _, rfl, dd, _, rfl, DGet.k (k := .inl i) hd4, _, rfl, ?_⟩
        rcases st with ⟨rfl, rfl⟩ | ⟨rfl, rfl⟩
        · refine iteF ?_
          refine ⟨_, rfl, _, rfl, dd, _, rfl, DPut.k (k := .inl i) hd4 (by decide), ?_⟩
          refine ⟨_, _, putK [] (.inl i) (.bl true), rfl, fun b o e => ?_, upd_same, .inr ⟨rfl, rfl⟩⟩
          rw [upd_ne (ne_of_none e hd0)]
          exact s4 _ _ e
        · refine ifT (by rw [valV_put, if_pos rfl]; rfl) ?_
          exact q _ s4
      · rintro σ H4 ⟨x4, x5, kvs, rfl, s4, hd4, st⟩
        rcases st with ⟨z, _⟩ | ⟨z, _⟩ <;> cases z
end
end Xk
namespace No
open PySem PySem.Spec PyProof.Rows L2 Pen Dat Ki Fi Gr
/-! ## Values of nodes and literals -/
def spNode (K : PySem.W.Frag) (C : Addr) : Sp := fun vs H Q _ => ∃ (p : Addr) (v : V) (gs : List (Int × Int)) (bs : List Int), vs = [.ref p, v] ∧ GraphAt K C H p bs.length gs ∧ SeqI K H v bs ∧ B01 bs ∧ okG (2 * bs.length + 1) gs = true ∧ bs.length ≤ 500 ∧ gs.length ≤ 500 ∧
  ∀ (H' : Hp) (t : Addr), Same H H' → SqT K H' t ((vals bs gs).map V.int) → Q (.ref t) H'
section
variable {P : Program} {w : World} {K : PySem.W.Frag} {mg : Str → Option Value} {base : Heap} {f C : Addr} {fd : FuncData}
abbrev noN : List Str := ["graph", "bits", "found", "one", "other"]
theorem scNode : FnScope noN ["graph", "bits"] (defScope sNode) := ⟨rfl, rfl, rfl, by decide +kernel, rfl, by decide +kernel, by decide +kernel⟩
theorem ok_node {fB : Addr} {fdB : FuncData} (F : FnP K "node_values" sNode f fd) (T : Tx K mg C) (GB : FnOk P w K mg base CX0 2 fB fdB ["value", "many", "least", "most"] (spRowB K)) (gB : mg "is_row_between" = some (.ref fB)) (kB : PySem.W.keepIn K (.ref fB) = true)
    (bB : Binds K fdB ["value", "many", "least", "most"] []) : FnOk P w K mg base CX0 3 f fd ["graph", "bits"] (spNode K C) := by
  refine F.ok scNode (fun vs H Q E h => ?_) (fun cdv A outer s H vs Q E hr h => ?_)
  · obtain ⟨p, v, gs, bs, rfl, _⟩ := h
    rfl
  · obtain ⟨p, v, gs, bs, rfl, hG, hB, hb, hok, hz1, hz2, q⟩ := h
    obtain ⟨d, d1, d2, d3⟩ := seqI_dp hB hb
    obtain ⟨dx, g, h1, h2⟩ := hG
    obtain ⟨ps, hg, ha⟩ := id h2
    obtain ⟨r, rfl, hr1⟩ := id hB
    refine ⟨_, PSs.nox (pss_cons (ps_if (pt_not (pt_val (pe_call GB hr (by rfl) gB kB bB .nil pass0 (pa_cons (pv 1) (pa_cons (pe_fld (pv 0) rfl) (pa_cons pe_int (pa_cons pe_int pa_nil))))))) (pss_one ps_never) pss_nil)
      (pss_cons (ps_set (i := 2) scNode.nd rfl (Or.inl rfl) (pe_lst (pa_cons pe_int (StX.pa_star (pv 1) pa_nil))))
      (pss_cons (ps_for PassesOwn.never rfl (pi_tup (pe_fld (pv 0) rfl)) (pg_tup rfl (pgs_cons (pg_name (i := 3) scNode.nd rfl (Or.inl rfl)) (pgs_cons (pg_name (i := 4) scNode.nd rfl (Or.inl rfl)) pgs_nil)))
        (pss_one (ps_expr (pe_bm PySem.F.plainAttrs_list PySem.F.slot_list_append PySem.F.type_list_append mt_append (pv 2) (pa_cons (pe_op op_and
          (pe_op op_xor (pe_ix ix_list (pv 2) (pe_op op_shr (pv 3) pe_int) (fun _ _ => rfl)) (pe_op op_and (pv 3) pe_int))
          (pe_op op_xor (pe_ix ix_list (pv 2) (pe_op op_shr (pv 4) pe_int) (fun _ _ => rfl)) (pe_op op_and (pv 4) pe_int))) pa_nil)))))
      (pss_one (ps_ret (pe_callTy call_tuple_of (by rfl) T.ki.tuple (by decide +kernel) (pa_cons (pv 2) pa_nil))))))), ?_⟩
    refine ⟨_, rfl, _, rfl, p, C, dx, _, _, rfl, h1, T.cl, T.nL, flds_L _ _, _, _, _, _, d, rfl, d1, by omega, fun H1 s1 => ⟨_, rfl, ?_⟩⟩
    rw [d3]
    refine iteF ?_
    have hr2 : SqT K H1 r (bs.map V.int) ∨ SqL K H1 r (bs.map V.int) := hr1.elim (fun h => .inr (s1.seq h)) fun h => .inl (seqT_same s1 h)
    refine ⟨_, rfl, r, _, rfl, hr2, ?_, fun l nl => ?_⟩
    · show (V.int 0 :: (bs.map V.int ++ [])).length ≤ sizeLine
      rw [List.append_nil, List.length_cons, List.length_map]
      exact Nat.le_trans (Nat.succ_le_succ hz1) (by decide)
    have sl : Same H1 (upd H1 l (.lst (V.int 0 :: (bs.map V.int ++ [])))) := same_new nl
    refine ⟨_, rfl, p, C, dx, _, _, rfl, sl _ _ (s1 _ _ h1), T.cl, T.nG, flds_G _ _, g, rfl, ⟨_, seqT_same (s1.trans sl) hg⟩, for_tup (K := K) (a := g) (xs := ps)
      (fun i σ H2 => ∃ u w : Option V, σ = [some (.ref p), some (.ref r), some (.ref l), u, w] ∧ Same H1 H2 ∧ H2 l = some (.lst ((vals bs (gs.take i)).map V.int)))
      ⟨none, none, rfl, sl, ?_⟩ (fun i σ H2 _ ⟨_, _, _, s2, _⟩ => seqT_same (s1.trans s2) hg) ?_ ?_⟩
    · rw [upd_same, List.append_nil]
      rfl
    · rintro i x σ H2 hi ⟨u, w, rfl, s2, h2'⟩
      obtain ⟨z, hz, hx⟩ := ha.get hi
      obtain ⟨q0, rfl, hq⟩ := hx
      have hi2 : i < gs.length := (List.getElem?_eq_some_iff.mp hz).1
      obtain ⟨⟨a0, a1⟩, b0, b1⟩ := okG_at hok hz
      have lv : (vals bs (gs.take i)).length = bs.length + 1 + i := by
        rw [vals_len, List.length_take, Nat.min_eq_left (Nat.le_of_lt hi2)]
      have v01 := vals_01 (gs.take i) hb
      have j1 : (z.1 / 2).toNat < (vals bs (gs.take i)).length := by omega
      have j2 : (z.2 / 2).toNat < (vals bs (gs.take i)).length := by omega
      have e1 : z.1 / 2 ^ (1 : Int).toNat = (((z.1 / 2).toNat : Nat) : Int) := by
        show z.1 / 2 = _
        omega
      have e2 : z.2 / 2 ^ (1 : Int).toNat = (((z.2 / 2).toNat : Nat) : Int) := by
        show z.2 / 2 = _
        omega
      refine ⟨q0, _, rfl, seqT_same (s1.trans s2) hq, rfl, _, _, rfl, _, _, rfl, rfl, ?_⟩
      refine ⟨_, rfl, .inl ⟨rfl, _, SqL.of h2'⟩, _, rfl, _, rfl, _, _, rfl, rfl, (by show (0 : Int) ≤ 1; decide), l, _, _, _, rfl, rfl, SqL.of h2', at_of e1 (getD_of j1), _, rfl, _, _, rfl, rfl, _, _, rfl, rfl,
        _, rfl, _, rfl, _, _, rfl, rfl, (by show (0 : Int) ≤ 1; decide), l, _, _, _, rfl, rfl, SqL.of h2', at_of e2 (getD_of j2), _, rfl, _, _, rfl, rfl, _, _, rfl, rfl, _, _, rfl, rfl, l, _, _, rfl, rfl, h2', ?_, ?_⟩
      · rw [List.length_map, lv]
        exact Nat.lt_of_lt_of_le (by omega : bs.length + 1 + i < 1002) (by decide)
      · refine ⟨_, _, rfl, fun b o e => ?_, ?_⟩
        · rw [upd_ne (ne_of_none e nl)]
          exact s2 _ _ e
        · rw [upd_same, vals_take bs hz]
          unfold step
          rw [List.map_append]
          show some (HO.lst (_ ++ [V.int (Builtin.bitAnd (Builtin.bitXor _ (Builtin.bitAnd z.1 1)) (Builtin.bitXor _ (Builtin.bitAnd z.2 1)))])) = _
          rw [flip_bit (getD_01 v01 _), flip_bit (getD_01 v01 _)]
          have f1 := lit_01 v01 z.1
          have f2 := lit_01 v01 z.2
          unfold lit at f1 f2
          rw [and_bits f1 f2]
          rfl
    · rintro σ H2 ⟨u, w, rfl, s2, h2'⟩
      rw [ha.len, List.take_length] at h2'
      refine ⟨_, rfl, l, _, rfl, .inl ⟨SqL.of h2', fun t nt => ?_⟩⟩
      exact q _ t (s1.trans (s2.trans (same_new nt))) (SqT.of upd_same)
end
end No
namespace Xh
open PySem PySem.Spec PyProof.Rows L2 LamX Pen Dat Ki Fi Gr No Bd Be Bf Wy Yd Yh Xg Xk
/-! ## Builders, bits and known leaves that are refused -/
def spBIX (K : PySem.W.Frag) (B CN : Addr) : Sp := fun vs H Q E => ∃ (p dx : Addr) (v : V) (d : PyData), vs = [.ref p, v] ∧ H p = some (.ins B dx []) ∧ Dp K H v d ∧ fromD d 0 = false ∧ Num CN E H "leaves" v
def spNodeX (K : PySem.W.Frag) (C CR : Addr) : Sp := fun vs H Q E => ∃ (x : Addr) (v : V) (n : Int) (gs : List (Int × Int)) (d : PyData), vs = [.ref x, v] ∧ GraphAt K C H x n gs ∧ Dp K H v d ∧ (rowsD d).length ≤ 1000 ∧ rowB d n 0 1 = false ∧ Row CR E H v
def spWithX (K : PySem.W.Frag) (C CR : Addr) : Sp := fun vs H Q E => ∃ (x : Addr) (u v : V) (n : Nat) (gs : List (Int × Int)), vs = [.ref x, u, v] ∧ GraphAt K C H x n gs ∧ BadK K H n v ∧ Row CR E H v
section
variable {P : Program} {w : World} {K : PySem.W.Frag} {mg : Str → Option Value} {base : Heap} {f C B CN CR fN fR : Addr} {fd : FuncData}
theorem ok_bix {fL : Addr} {fdL : FuncData} (F : FnBI K f fd) (GL : FnOk P w K mg base (L2.CX P w) 3 fL fdL ["leaves"] (spNeed2 K CN)) (gL : mg "need_leaves" = some (.ref fL)) (kL : PySem.W.keepIn K (.ref fL) = true) (bL : Binds K fdL ["leaves"] []) :
    FnOk P w K mg base (L2.CX P w) 4 f fd ["self", "leaves"] (spBIX K B CN) := by
  refine F.ok scBInit (fun vs H Q E h => ?_) (fun cdv A outer s H vs Q E hr h => ?_)
  · obtain ⟨p, dx, v, d, rfl, _⟩ := h
    rfl
  · obtain ⟨p, dx, v, d, rfl, hp, hd, e, num⟩ := h
    have tk : Takes (cxOf (L2.CX P w) P w K mg base ["self", "leaves"] "Builder.__init__" (defScope sBInit) f cdv A outer s H E) (fun cls d _ H => E cls d H) := takes_of rfl rfl rfl rfl
    refine ⟨_, pss_cons (ps_expr (pe_call GL hr (by rfl) gL kL bL .nil (passes_call tk fun _ _ _ _ h => h) (pa_cons (pv 1) pa_nil))) (pss_cons ps_never (pss_cons ps_never (pss_one ps_never))), ?_⟩
    exact ⟨_, rfl, v, d, rfl, hd, .inr ⟨e, num⟩⟩
theorem ok_nodex {fB : Addr} {fdB fd2 : FuncData} (F : FnP K "node_values" sNode f fd) (T : Gr.Tx K mg C) (X : Te K mg CN CR fN fR) (GB : FnOk P w K mg base CX0 2 fB fdB ["value", "many", "least", "most"] (spRowB K)) (gB : mg "is_row_between" = some (.ref fB)) (kB : PySem.W.keepIn K (.ref fB) = true)
    (bB : Binds K fdB ["value", "many", "least", "most"] []) (GX : FnOk P w K mg base CX0 1 fR fd2 riN (spRowI CR)) (bX : Binds K fd2 riN []) : FnOk P w K mg base (L2.CX P w) 3 f fd ["graph", "bits"] (spNodeX K C CR) := by
  refine F.ok No.scNode (fun vs H Q E h => ?_) (fun cdv A outer s H vs Q E hr h => ?_)
  · obtain ⟨x, v, n, gs, d, rfl, _⟩ := h
    rfl
  · obtain ⟨x, v, n, gs, d, rfl, ⟨dg, g, x1, _⟩, hd, lz, e, row⟩ := h
    have tk : Takes (cxOf (L2.CX P w) P w K mg base No.noN "node_values" (defScope sNode) f cdv A outer s H E) (fun cls d _ H => E cls d H) := takes_of rfl rfl rfl rfl
    refine ⟨_, pss_cons (ps_if (pt_not (pt_val (pe_call GB hr (by rfl) gB kB bB .nil pass0 (pa_cons (pv 1) (pa_cons (pe_fld (pv 0) rfl) (pa_cons pe_int (pa_cons pe_int pa_nil)))))))
      (pss_one (ps_raise rfl tk (pmk_oex X.r.oe X.r.ini X.r.fn GX hr bX .nil pass0 (by rfl) X.why.mR (pa_cons (pv 1) pa_nil)))) pss_nil) (pss_cons ps_never (pss_cons ps_never (pss_one ps_never))), ?_⟩
    have rowS : ∀ {H1 : Hp}, Same H H1 → Row CR E H1 v := fun s d H' s2 e => row d H' (s.trans s2) e
    refine ⟨_, rfl, _, rfl, x, C, dg, _, _, rfl, x1, T.cl, T.nL, flds_L _ _, v, n, 0, 1, d, rfl, hd, lz, fun H1 s1 => ⟨_, rfl, ?_⟩⟩
    rw [e]
    exact iteT (mk_row (te := tVar 1) (fun R r => ⟨_, rfl, r⟩) (rowS s1))
theorem ok_withx {fK : Addr} {dK fd2 : FuncData} (F : FnP K "with_known" sWith f fd) (T : Gr.Tx K mg C) (X : Te K mg CN CR fN fR) (GK : FnOk P w K mg base CX0 2 fK dK ["leaves", "value"] (spKnownX K)) (gK : mg "are_known" = some (.ref fK)) (kK : PySem.W.keepIn K (.ref fK) = true) (bK : Binds K dK ["leaves", "value"] [])
    (GX : FnOk P w K mg base CX0 1 fR fd2 riN (spRowI CR)) (bX : Binds K fd2 riN []) : FnOk P w K mg base (L2.CX P w) 3 f fd ["graph", "literals", "known"] (spWithX K C CR) := by
  refine F.ok Cc.scWith (fun vs H Q E h => ?_) (fun cdv A outer s H vs Q E hr h => ?_)
  · obtain ⟨x, u, v, n, gs, rfl, _⟩ := h
    rfl
  · obtain ⟨x, u, v, n, gs, rfl, ⟨dg, g, x1, _⟩, bad, row⟩ := h
    have tk : Takes (cxOf (L2.CX P w) P w K mg base Cc.nWith "with_known" (defScope sWith) f cdv A outer s H E) (fun cls d _ H => E cls d H) := takes_of rfl rfl rfl rfl
    refine ⟨_, pss_cons (ps_if (pt_not (pt_val (pe_call GK hr (by rfl) gK kK bK .nil pass0 (pa_cons (pe_fld (pv 0) rfl) (pa_cons (pv 2) pa_nil)))))
      (pss_one (ps_raise rfl tk (pmk_oex X.r.oe X.r.ini X.r.fn GX hr bX .nil pass0 (by rfl) X.why.mR (pa_cons (pv 2) pa_nil)))) pss_nil) (pss_cons ps_never (pss_cons ps_never (pss_one ps_never))), ?_⟩
    have rowS : ∀ {H1 : Hp}, Same H H1 → Row CR E H1 v := fun s d H' s2 e => row d H' (s.trans s2) e
    exact ⟨_, rfl, x, C, dg, _, _, rfl, x1, T.cl, T.nL, flds_L _ _, _, rfl, v, n, rfl, bad, fun H1 s1 => ⟨_, rfl, iteT (mk_row (te := tVar 2) (fun R r => ⟨_, rfl, r⟩) (rowS s1))⟩⟩
end
end Xh
namespace Zk
open PySem PySem.Spec PyProof.Rows L2 LamX Pen Dat Ki Fi Gr No Bd Be Bf Cb Cc Wy Yd Yh Xg Xk Xh Yt Gd
/-! ## The law -/
abbrev nLaw : List Str := ["_law_script", "_law_pen_here", "_law_odd", "_law_some", "_law_bad", "_law_graph", "_law_bits", "_law_known", "_law_row", "_law_given"]
theorem scLaw : FnScope nLaw ["_law_script"] (defScope sLaw) := ⟨rfl, rfl, rfl, by decide +kernel, rfl, by decide +kernel, by decide +kernel⟩
abbrev lamQ : Str := (envOfC "law" (defScope sLaw) 0 0 .none).qual ++ "<lambda>"
def spLaw (K : PySem.W.Frag) (tb : Addr) : Sp := fun vs H Q _ => ∃ (a : Addr) (ns : List Int), vs = [.ref a] ∧ SqL K H a (ns.map V.int) ∧ ns.length ≤ 63 ∧ H tb = some (.tbl #[]) ∧ ∀ H', Q (.bl true) H'
theorem pe_why {X : Cx} {g CN CR c tb : Addr} {fd : FuncData} {k : Nat} {t : XK → TE} {params : Arguments} {body : Expr} {scope : Scope} {p lpos pos : Pos} (F : FnP X.K "_law_why" sWhy g fd) (gW : X.mg "_law_why" = some (.ref g)) (T : Yh.Tw X.K X.mg CN CR)
    (hg : X.A.guards = some []) (hr : Room (k + 2) X.A) (TB : TabB X.base X.mg c tb) (hcode : X.env.code = .ref c) (hq : X.env.qual ++ "<lambda>" = lamQ) (gl : Gl X "_law_why") (L : LamS X.env.scope scope) (hdef : defaultsOf params X.env = ([], []))
    (hbind : ∀ (q : Str) (cl : List (Str × Addr)) (pm cv ctv : Value), bindArgs (PySem.W.kla_fn "<lambda>" q params body scope cl pm cv ctv) ⟨[], []⟩ = pure [])
    (hbody : ∀ (A : Around) (outer : List Env) (s : Shared) (H : Hp) (E : XK) (f c' : Addr), Room k (A.deeper (lamEnv X scope s.heap.objs.size f c')) → PE (lamCx X A outer s H E scope f c') body (t E)) :
    PE X (.Call (.Name "_law_why" p) [.Lambda params body scope lpos] [] pos) (tLam [(tb, lamQ)] (TWhy X.K CN CR) t) := by
  obtain ⟨_, _, _, _, _, _, _, cdv, _, _, rfl, lk, hcd, _, _⟩ := F.ex
  exact pe_lamcall (T := [(tb, lamQ)]) (TT := TWhy X.K CN CR) (a := "_law_call") (Ng := yN) gl gW F.kp lk hcd (F.bindsN fun _ _ _ _ _ _ us hl => match us, hl with | [_], _ => rfl) scWhy rfl (by exact Or.inl rfl)
    (why_gives T hg (hr.mono (by omega : k + 1 ≤ k + 2))) TB hcode (by rw [hq]; exact List.mem_cons_self) (fun p hp _ => by rw [hq]; rw [List.mem_singleton.mp hp]) hr L hdef hbind hbody
/-! ### what stays: all but the pen and the tables -/
def solid : HO → Bool
  | .lst _ => true
  | .tup _ => true
  | .frz _ _ => true
  | .ins _ _ _ => true
  | .dK kvs => kvs.length == 1
  | _ => false
def Stay (H H' : Hp) : Prop := ∀ b o, H b = some o → solid o = true → H' b = some o
theorem Stay.of {H H' : Hp} (s : Same H H') : Stay H H' := fun b o e _ => s b o e
theorem Stay.trans {H H1 H2 : Hp} (a : Stay H H1) (b : Stay H1 H2) : Stay H H2 := fun c o e h => b c o (a c o e h) h
theorem Stay.extN {H H' : Hp} (s : ExtN H H') : Stay H H' := fun b o e f => s b o e fun ps z => by
  rw [z] at f
  cases f
theorem Stay.pen {H H' : Hp} {p c : Addr} {m : Nat} (b : But p H H') (h : PenC H p c m) : Stay H H' := fun q o e f => b q o e fun z => by
  obtain ⟨_, _, _, _, _, h1, _⟩ := h
  rw [z, h1] at e
  cases e
  cases f
theorem Stay.firm {H H' : Hp} (s : Stay H H') : Firm H H' := fun b o e f => s b o e (by
  cases o with
  | tup _ => rfl
  | frz _ _ => rfl
  | ins _ _ _ => rfl
  | _ => cases f)
section
variable {K : PySem.W.Frag} {H H' : Hp}
theorem seqL_stay {a : Addr} {xs : List V} (s : Stay H H') (h : SqL K H a xs) : SqL K H' a xs := h.elim (fun h => .inl (h.elim (fun h => .inl (s _ _ h rfl)) fun ⟨o, h⟩ => .inr ⟨o, s _ _ h rfl⟩)) .inr
theorem seqT_stay {a : Addr} {xs : List V} (s : Stay H H') (h : SqT K H a xs) : SqT K H' a xs := h.elim (fun h => .inl (h.elim (fun h => .inl (s _ _ h rfl)) fun ⟨o, h⟩ => .inr ⟨o, s _ _ h rfl⟩)) .inr
mutual
theorem dp_stay (s : Stay H H') : ∀ {d : PyData} {v : V}, Dp K H v d → Dp K H' v d
  | .none, _, h => by cases h; exact .non
  | .bool b, _, h => by cases h; exact .bl b
  | .int i, _, h => by cases h; exact .int i
  | .str x, _, h => by cases h; exact .str x
  | .list ds, _, h => by
    cases h with
    | lst hs ha => exact .lst (seqL_stay s hs) (dps_stay s ha)
  | .tuple ds, _, h => by
    cases h with
    | tup hs ha => exact .tup (seqT_stay s hs) (dps_stay s ha)
  | .dict _, _, h => by cases h
theorem dps_stay (s : Stay H H') : ∀ {ds : List PyData} {vs : List V}, DpAll K H vs ds → DpAll K H' vs ds
  | [], _, h => by cases h; exact .nil
  | d :: ds, _, h => by
    cases h with
    | cons h1 h2 => exact .cons (dp_stay s h1) (dps_stay s h2)
end
def ShB (d : PyData) : Bool := (d.showable && !d.hasDict) && (decide (d.depth ≤ 60) && (decide (d.shown.length ≤ sizeLine) && PyData.strOk d.shown))
theorem says_of {v : V} {d : PyData} (h : Dp K H v d) (s : ShB d = true) : Says K H v d.shown := by
  unfold ShB at s
  simp only [Bool.and_eq_true, Bool.not_eq_true', decide_eq_true_eq] at s
  obtain ⟨⟨h1, h2⟩, h3, h4, _⟩ := s
  exact .inl ⟨d, h, h1, h2, h3, h4, rfl⟩
theorem sh_str {d : PyData} (s : ShB d = true) : PyData.strOk d.shown = true := by
  unfold ShB at s
  simp only [Bool.and_eq_true] at s
  exact s.2.2.2
/-- v, whose repr reads x, is no number of leaves -/
def OddN (K : PySem.W.Frag) (H : Hp) (v : V) : Prop := ∃ d, Dp K H v d ∧ ShB d = true ∧ fromD d 0 = false
/-- no gates over two leaves -/
def BadG (K : PySem.W.Frag) (H : Hp) (v : V) (x : Str) : Prop := (∃ d, Dp K H v d ∧ ShB d = true ∧ x = d.shown ∧ (rowsD d).length ≤ 1000 ∧ (∀ e ∈ rowsD d, (rowsD e).length ≤ 1000) ∧ gatesB 2 d = false) ∨ ∃ a, v = .ref a ∧ H a = some (.dK [(.inl 0, .int 1)]) ∧ x = (D1 0 1).shown
def BadB (K : PySem.W.Frag) (H : Hp) (v : V) : Prop := ∃ d, Dp K H v d ∧ ShB d = true ∧ (rowsD d).length ≤ 1000 ∧ rowB d 2 0 1 = false
def BadL (K : PySem.W.Frag) (H : Hp) (v : V) : Prop := BadK K H 2 v ∧ ∃ d, Dp K H v d ∧ ShB d = true
theorem OddN.stay {v : V} (s : Stay H H') (h : OddN K H v) : OddN K H' v := let ⟨d, a, b⟩ := h; ⟨d, dp_stay s a, b⟩
theorem BadB.stay {v : V} (s : Stay H H') (h : BadB K H v) : BadB K H' v := let ⟨d, a, b⟩ := h; ⟨d, dp_stay s a, b⟩
theorem BadG.stay {v : V} {x : Str} (s : Stay H H') (h : BadG K H v x) : BadG K H' v x := by
  rcases h with ⟨d, a, b⟩ | ⟨a, e, h, b⟩
  · exact .inl ⟨d, dp_stay s a, b⟩
  · exact .inr ⟨a, e, s _ _ h rfl, b⟩
theorem BadK.stay {n : Nat} {v : V} (s : Stay H H') (h : BadK K H n v) : BadK K H' n v := by
  cases h with
  | atom a b => exact .atom (dp_stay s a) b
  | one a b c => exact .one (seqL_stay s a) (seqT_stay s b) (dp_stay s c)
  | two a b c d e => exact .two (seqL_stay s a) (seqT_stay s b) (dp_stay s c) (dp_stay s d) e
  | twice a b c d e f => exact .twice (seqL_stay s a) (seqT_stay s b) (seqT_stay s c) d e f
theorem BadL.stay {v : V} (s : Stay H H') (h : BadL K H v) : BadL K H' v := let ⟨a, d, b, c⟩ := h; ⟨BadK.stay s a, d, dp_stay s b, c⟩
theorem BadG.says {v : V} {x : Str} (h : BadG K H v x) : Says K H v x := by
  rcases h with ⟨d, a, b, rfl, _⟩ | ⟨a, rfl, h, rfl⟩
  · exact says_of a b
  · exact .inr ⟨a, 0, 1, rfl, h, by decide +kernel, by decide +kernel, rfl⟩
theorem BadG.ok {v : V} {x : Str} (h : BadG K H v x) : PyData.strOk x = true := by
  rcases h with ⟨d, a, b, rfl, _⟩ | ⟨a, rfl, h, rfl⟩
  · exact sh_str b
  · decide +kernel
end
theorem len0 : ([] : List V).length ≤ sizeLine := Nat.zero_le _
theorem len1 {a : V} : [a].length ≤ sizeLine := (by decide : 1 ≤ sizeLine)
theorem len6 {a b c d e f : V} : [a, b, c, d, e, f].length ≤ sizeLine := (by decide : 6 ≤ sizeLine)
theorem len10 {a b c d e f g h i j : V} : [a, b, c, d, e, f, g, h, i, j].length ≤ sizeLine := (by decide : 10 ≤ sizeLine)
theorem same_ins {H : Hp} {x dx : Addr} {C : Addr} (nx : H x = none) (nd : H dx = none) (ne : dx ≠ x) : Same H (upd (upd H dx (.own x)) x (.ins C dx [])) :=
  (same_new nd).trans (same_new (by rw [upd_ne (Ne.symm ne)]; exact nx))
theorem same_two {H : Hp} {p : Addr} {u v : HO} (np : H p = none) : Same H (upd (upd H p u) p v) := fun b o e => by
  rw [upd_ne (ne_of_none e np), upd_ne (ne_of_none e np)]
  exact e
theorem six {α : Type} {a b c d e f v : α} {i : Nat} (h : [a, b, c, d, e, f][i]? = some v) : v = a ∨ v = b ∨ v = c ∨ v = d ∨ v = e ∨ v = f := by
  have m := List.mem_of_getElem? h
  simpa using m
theorem ten {α : Type} {a b c d e f g k l m v : α} {i : Nat} (h : [a, b, c, d, e, f, g, k, l, m][i]? = some v) : v = a ∨ v = b ∨ v = c ∨ v = d ∨ v = e ∨ v = f ∨ v = g ∨ v = k ∨ v = l ∨ v = m := by
  have m := List.mem_of_getElem? h
  simpa using m
section
variable {K : PySem.W.Frag} {H : Hp}
theorem tl {t : Addr} {xs : List V} {ds : List PyData} (e : H t = some (.tup xs)) (h : DpAll K H xs ds) : Dp K H (.ref t) (.tuple ds) := .tup (.inl (.inl e)) h
theorem ll {t : Addr} {xs : List V} {ds : List PyData} (e : H t = some (.lst xs)) (h : DpAll K H xs ds) : Dp K H (.ref t) (.list ds) := .lst (.inl (.inl e)) h
theorem dI1 (i : Int) : DpAll K H [.int i] [.int i] := .cons (.int i) .nil
theorem dI2 (i j : Int) : DpAll K H [.int i, .int j] [.int i, .int j] := .cons (.int i) (.cons (.int j) .nil)
theorem dI3 (i j k : Int) : DpAll K H [.int i, .int j, .int k] [.int i, .int j, .int k] := .cons (.int i) (.cons (.int j) (.cons (.int k) .nil))
theorem odd_pick {t1 t2 : Addr} {v : V} {i : Nat} (h : [V.int (-1), .non, .bl true, .str "2", .ref t1, .ref t2][i]? = some v) (e1 : H t1 = some (.tup [.int 1])) (e2 : H t2 = some (.lst [.int 3])) : OddN K H v := by
  rcases six h with rfl | rfl | rfl | rfl | rfl | rfl
  · exact ⟨_, .int _, by decide +kernel, rfl⟩
  · exact ⟨_, .non, by decide +kernel, rfl⟩
  · exact ⟨_, .bl _, by decide +kernel, rfl⟩
  · exact ⟨_, .str _, by decide +kernel, rfl⟩
  · exact ⟨_, tl e1 (dI1 1), by decide +kernel, rfl⟩
  · exact ⟨_, ll e2 (dI1 3), by decide +kernel, rfl⟩
theorem bad_pick {a1 l1 a2 l2 a3 l3 a4 l4 a5 a6 l5 a7 l6 dd : Addr} {v : V} {i : Nat} (h : [V.non, .int 5, .str "ab", .ref l1, .ref l2, .ref l3, .ref l4, .ref l5, .ref l6, .ref dd][i]? = some v)
    (e1 : H a1 = some (.tup [.int 0])) (f1 : H l1 = some (.lst [.ref a1])) (e2 : H a2 = some (.tup [.int 0, .int 6])) (f2 : H l2 = some (.lst [.ref a2])) (e3 : H a3 = some (.tup [.int 2, .int (-1)])) (f3 : H l3 = some (.lst [.ref a3])) (e4 : H a4 = some (.tup [.int 0, .bl true])) (f4 : H l4 = some (.lst [.ref a4]))
    (e5 : H a5 = some (.tup [.int 0, .int 0])) (e6 : H a6 = some (.tup [.int 8, .int 2])) (f5 : H l5 = some (.lst [.ref a5, .ref a6])) (e7 : H a7 = some (.tup [.int 1, .int 2, .int 3])) (f6 : H l6 = some (.lst [.ref a7])) (fd : H dd = some (.dK [(.inl 0, .int 1)])) : ∃ x, BadG K H v x := by
  rcases ten h with rfl | rfl | rfl | rfl | rfl | rfl | rfl | rfl | rfl | rfl
  · exact ⟨_, .inl ⟨.none, .non, by decide +kernel, rfl, by decide, by decide, by decide +kernel⟩⟩
  · exact ⟨_, .inl ⟨.int 5, .int _, by decide +kernel, rfl, by decide, by decide, by decide +kernel⟩⟩
  · exact ⟨_, .inl ⟨.str "ab", .str _, by decide +kernel, rfl, by decide, by decide, by decide +kernel⟩⟩
  · exact ⟨_, .inl ⟨.list [.tuple [.int 0]], ll f1 (.cons (tl e1 (dI1 0)) .nil), by decide +kernel, rfl, by decide, by decide, by decide +kernel⟩⟩
  · exact ⟨_, .inl ⟨.list [.tuple [.int 0, .int 6]], ll f2 (.cons (tl e2 (dI2 0 6)) .nil), by decide +kernel, rfl, by decide, by decide, by decide +kernel⟩⟩
  · exact ⟨_, .inl ⟨.list [.tuple [.int 2, .int (-1)]], ll f3 (.cons (tl e3 (dI2 2 (-1))) .nil), by decide +kernel, rfl, by decide, by decide, by decide +kernel⟩⟩
  · exact ⟨_, .inl ⟨.list [.tuple [.int 0, .bool true]], ll f4 (.cons (tl e4 (.cons (.int 0) (.cons (.bl true) .nil))) .nil), by decide +kernel, rfl, by decide, by decide, by decide +kernel⟩⟩
  · exact ⟨_, .inl ⟨.list [.tuple [.int 0, .int 0], .tuple [.int 8, .int 2]], ll f5 (.cons (tl e5 (dI2 0 0)) (.cons (tl e6 (dI2 8 2)) .nil)), by decide +kernel, rfl, by decide, by decide, by decide +kernel⟩⟩
  · exact ⟨_, .inl ⟨.list [.tuple [.int 1, .int 2, .int 3]], ll f6 (.cons (tl e7 (dI3 1 2 3)) .nil), by decide +kernel, rfl, by decide, by decide, by decide +kernel⟩⟩
  · exact ⟨_, .inr ⟨dd, rfl, fd, rfl⟩⟩
end
theorem pen_tbl {H : Hp} {p c b : Addr} {m : Nat} {ps : Array Value} (h : PenC H p c m) (e : H b = some (.tbl ps)) : b ≠ p := fun z => by
  obtain ⟨_, _, _, _, _, h1, _⟩ := h
  rw [z, h1] at e
  cases e
theorem pen_lst {H : Hp} {p c b : Addr} {m : Nat} {xs : List V} (h : PenC H p c m) (e : H b = some (.lst xs)) : b ≠ p := fun z => by
  obtain ⟨_, _, _, _, _, h1, _⟩ := h
  rw [z, h1] at e
  cases e
theorem goF {b : Bool} {A B : Prop} (h : b = false) (x : B) : if b = true then A else B := by rw [h]; exact iteF x
theorem goT {b : Bool} {A B : Prop} (h : b = true) (x : A) : if b = true then A else B := by rw [h]; exact iteT x
theorem two_eqv (a b : Str) : PyData.eqv (.tuple [.str a, .str b]) (.tuple [.str a, .str b]) = true := by simp [PyData.eqv, PyData.eqvAll]
theorem three_eqv (a b c : Str) : PyData.eqv (.tuple [.str a, .str b, .str c]) (.tuple [.str a, .str b, .str c]) = true := by simp [PyData.eqv, PyData.eqvAll]
theorem two_sh {a b : Str} (ha : PyData.strOk a = true) (hb : PyData.strOk b = true) : SeqAt.shaped (.tuple [.str a, .str b]) = true := by
  unfold SeqAt.shaped
  rw [Bool.and_eq_true]
  exact ⟨by simp [PyData.canLay0, PyData.canLayAll0, ha, hb], decide_eq_true (by simp [PyData.depth, PyData.depthAll])⟩
theorem three_sh {a b c : Str} (ha : PyData.strOk a = true) (hb : PyData.strOk b = true) (hc : PyData.strOk c = true) : SeqAt.shaped (.tuple [.str a, .str b, .str c]) = true := by
  unfold SeqAt.shaped
  rw [Bool.and_eq_true]
  exact ⟨by simp [PyData.canLay0, PyData.canLayAll0, ha, hb, hc], decide_eq_true (by simp [PyData.depth, PyData.depthAll])⟩
theorem strs2 {K : PySem.W.Frag} {H : Hp} {t : Addr} {a b : Str} (e : H t = some (.tup [.str a, .str b])) : Dp K H (.ref t) (.tuple [.str a, .str b]) := .tup (.inl (.inl e)) (.cons (.str a) (.cons (.str b) .nil))
theorem strs3 {K : PySem.W.Frag} {H : Hp} {t : Addr} {a b c : Str} (e : H t = some (.tup [.str a, .str b, .str c])) : Dp K H (.ref t) (.tuple [.str a, .str b, .str c]) := .tup (.inl (.inl e)) (.cons (.str a) (.cons (.str b) (.cons (.str c) .nil)))
theorem says_stay {K : PySem.W.Frag} {H H' : Hp} {v : V} {x : Str} (s : Stay H H') (h : Says K H v x) : Says K H' v x := by
  rcases h with ⟨d, a, b⟩ | ⟨a, i, j, e, h, b⟩
  · exact .inl ⟨d, dp_stay s a, b⟩
  · exact .inr ⟨a, i, j, e, s _ _ h rfl, b⟩
theorem num_of {K : PySem.W.Frag} {CN CR : Addr} {H : Hp} {m : Str} {v : V} {x : Str} {Q : VK} (h : Says K H v x) (q : ∀ H' t, Same H H' → H' t = some (.tup [.str "number", .str m, .str x]) → Q (.ref t) H') : Num CN (WhyE K CN CR Q) H m v := by
  intro dd H' s1 e
  exact ⟨dd, _, rfl, e, .inl ⟨rfl, m, v, x, rfl, rfl, says_stay (Stay.of s1) h, fun t nt => q _ t (s1.trans (same_new nt)) upd_same⟩⟩
theorem row_of {K : PySem.W.Frag} {CN CR : Addr} {H : Hp} {v : V} {x : Str} {Q : VK} (h : Says K H v x) (q : ∀ H' t, Same H H' → H' t = some (.tup [.str "row", .str x]) → Q (.ref t) H') : Row CR (WhyE K CN CR Q) H v := by
  intro dd H' s1 e
  exact ⟨dd, _, rfl, e, .inr ⟨rfl, v, x, rfl, says_stay (Stay.of s1) h, fun t nt => q _ t (s1.trans (same_new nt)) upd_same⟩⟩
/-- what stays known before the graph is made -/
structure Fo (K : PySem.W.Frag) (H : Hp) (p c : Addr) (v2 v4 : V) (x : Str) : Prop where
  pen : ∃ m, m ≤ 100 ∧ PenC H p c m
  odd : OddN K H v2
  bad : BadG K H v4 x
theorem pen_extN {H H' : Hp} {p c : Addr} {m : Nat} (s : ExtN H H') (h : PenC H p c m) : PenC H' p c m := by
  obtain ⟨ns, a, d, n, f, h1, h2, r⟩ := h
  exact ⟨ns, a, d, n, f, s _ _ h1 (fun _ z => by cases z), s _ _ h2 (fun _ z => by cases z), r⟩
theorem Fo.ext {K : PySem.W.Frag} {H H' : Hp} {p c : Addr} {v2 v4 : V} {x : Str} (s : ExtN H H') (h : Fo K H p c v2 v4 x) : Fo K H' p c v2 v4 x := by
  obtain ⟨m, hm, hp⟩ := h.pen
  exact ⟨⟨m, hm, pen_extN s hp⟩, h.odd.stay (Stay.extN s), h.bad.stay (Stay.extN s)⟩
theorem room_u {k : Nat} {A : Around} (r : Room k A) : A.units + 100 < cLine := by
  have := r.un
  omega
theorem tabs_but {T : List (Addr × Str)} {H H' : Hp} {p c : Addr} {m : Nat} (b : But p H H') (h : PenC H p c m) (t : Tabs T H) : Tabs T H' := fun q hq => by
  obtain ⟨ps, h1, h2, h3⟩ := t q hq
  refine ⟨ps, b _ _ h1 (pen_tbl h h1), h2, fun pos cv e => ?_⟩
  obtain ⟨c', e1, e2⟩ := h3 pos cv e
  refine ⟨c', e1, b _ _ e2 fun z => ?_⟩
  obtain ⟨_, _, _, _, _, k1, _⟩ := h
  rw [z, k1] at e2
  cases e2
abbrev GTS : List (Int × Int) := [(4, 2), (7, 3)]
/-- what stays known behind the graph's making -/
structure Fp (K : PySem.W.Frag) (C : Addr) (H : Hp) (k : Nat) (p c g : Addr) (tb : Addr) : Prop where
  pen : ∃ m, m ≤ k ∧ PenC H p c m
  gr : GraphAt K C H g 2 GTS
  tab : Tabs [(tb, lamQ)] H
theorem Fp.ext {K : PySem.W.Frag} {C : Addr} {H H' : Hp} {k : Nat} {p c g tb : Addr} (s : ExtN H H') (t : Tabs [(tb, lamQ)] H') (h : Fp K C H k p c g tb) : Fp K C H' k p c g tb := by
  obtain ⟨m, hm, hp⟩ := h.pen
  exact ⟨⟨m, hm, pen_extN s hp⟩, h.gr.firm (Stay.extN s).firm, t⟩
theorem Fp.same {K : PySem.W.Frag} {C : Addr} {H H' : Hp} {k : Nat} {p c g tb : Addr} (s : Same H H') (h : Fp K C H k p c g tb) : Fp K C H' k p c g tb := h.ext (ExtN.of s) (h.tab.ext s)
section
variable {K : PySem.W.Frag} {H : Hp}
theorem bits_pick {t0 t1 t2 t3 t4 t5 t6 : Addr} {v : V} {i : Nat} (h : [V.non, .ref t0, .ref t1, .ref t2, .ref t3, .ref t4, .ref t5, .str "01", .ref t6, .int 5][i]? = some v) (e0 : H t0 = some (.tup [])) (e1 : H t1 = some (.tup [.int 0])) (e2 : H t2 = some (.tup [.int 0, .int 1, .int 1]))
    (e3 : H t3 = some (.tup [.int 0, .int 2])) (e4 : H t4 = some (.tup [.int 0, .non])) (e5 : H t5 = some (.tup [.bl true, .int 0])) (e6 : H t6 = some (.tup [.int 0, .str "1"])) : BadB K H v := by
  rcases ten h with rfl | rfl | rfl | rfl | rfl | rfl | rfl | rfl | rfl | rfl
  · exact ⟨.none, .non, by decide +kernel, by decide, by decide +kernel⟩
  · exact ⟨.tuple [], tl e0 .nil, by decide +kernel, by decide, by decide +kernel⟩
  · exact ⟨.tuple [.int 0], tl e1 (dI1 0), by decide +kernel, by decide, by decide +kernel⟩
  · exact ⟨.tuple [.int 0, .int 1, .int 1], tl e2 (dI3 0 1 1), by decide +kernel, by decide, by decide +kernel⟩
  · exact ⟨.tuple [.int 0, .int 2], tl e3 (dI2 0 2), by decide +kernel, by decide, by decide +kernel⟩
  · exact ⟨.tuple [.int 0, .none], tl e4 (.cons (.int 0) (.cons .non .nil)), by decide +kernel, by decide, by decide +kernel⟩
  · exact ⟨.tuple [.bool true, .int 0], tl e5 (.cons (.bl true) (.cons (.int 0) .nil)), by decide +kernel, by decide, by decide +kernel⟩
  · exact ⟨.str "01", .str _, by decide +kernel, by decide, by decide +kernel⟩
  · exact ⟨.tuple [.int 0, .str "1"], tl e6 (.cons (.int 0) (.cons (.str _) .nil)), by decide +kernel, by decide, by decide +kernel⟩
  · exact ⟨.int 5, .int _, by decide +kernel, by decide, by decide +kernel⟩
theorem known_pick {a1 l1 a2 l2 a3 l3 a4 a5 l4 a6 l5 a7 l6 a8 l7 : Addr} {v : V} {i : Nat} (h : [V.non, .int 5, .ref l1, .ref l2, .ref l3, .ref l4, .ref l5, .ref l6, .ref l7, .str "ab"][i]? = some v)
    (e1 : H a1 = some (.tup [.int 0, .int 1])) (f1 : H l1 = some (.lst [.ref a1])) (e2 : H a2 = some (.tup [.int 3, .int 0])) (f2 : H l2 = some (.lst [.ref a2])) (e3 : H a3 = some (.tup [.int 1, .int 2])) (f3 : H l3 = some (.lst [.ref a3])) (e4 : H a4 = some (.tup [.int 1, .int 0])) (e5 : H a5 = some (.tup [.int 1, .int 0])) (f4 : H l4 = some (.lst [.ref a4, .ref a5]))
    (e6 : H a6 = some (.tup [.int 1])) (f5 : H l5 = some (.lst [.ref a6])) (e7 : H a7 = some (.tup [.bl true, .int 1])) (f6 : H l6 = some (.lst [.ref a7])) (e8 : H a8 = some (.tup [.int 1, .non])) (f7 : H l7 = some (.lst [.ref a8])) : BadL K H v := by
  have lq : ∀ {l : Addr} {xs : List V}, H l = some (.lst xs) → SqL K H l xs := fun e => .inl (.inl e)
  have tq : ∀ {l : Addr} {xs : List V}, H l = some (.tup xs) → SqT K H l xs := fun e => .inl (.inl e)
  rcases ten h with rfl | rfl | rfl | rfl | rfl | rfl | rfl | rfl | rfl | rfl
  · exact ⟨.atom .non rfl, .none, .non, by decide +kernel⟩
  · exact ⟨.atom (.int 5) rfl, .int 5, .int 5, by decide +kernel⟩
  · exact ⟨.two (lq f1) (tq e1) (.int 0) (.int 1) (.inl (by decide)), .list [.tuple [.int 0, .int 1]], ll f1 (.cons (tl e1 (dI2 0 1)) .nil), by decide +kernel⟩
  · exact ⟨.two (lq f2) (tq e2) (.int 3) (.int 0) (.inl (by decide)), .list [.tuple [.int 3, .int 0]], ll f2 (.cons (tl e2 (dI2 3 0)) .nil), by decide +kernel⟩
  · exact ⟨.two (lq f3) (tq e3) (.int 1) (.int 2) (.inr ⟨by decide, by decide⟩), .list [.tuple [.int 1, .int 2]], ll f3 (.cons (tl e3 (dI2 1 2)) .nil), by decide +kernel⟩
  · exact ⟨.twice (lq f4) (tq e4) (tq e5) (by decide) (by decide) (by decide), .list [.tuple [.int 1, .int 0], .tuple [.int 1, .int 0]], ll f4 (.cons (tl e4 (dI2 1 0)) (.cons (tl e5 (dI2 1 0)) .nil)), by decide +kernel⟩
  · exact ⟨.one (lq f5) (tq e6) (.int 1), .list [.tuple [.int 1]], ll f5 (.cons (tl e6 (dI1 1)) .nil), by decide +kernel⟩
  · exact ⟨.two (lq f6) (tq e7) (.bl true) (.int 1) (.inl rfl), .list [.tuple [.bool true, .int 1]], ll f6 (.cons (tl e7 (.cons (.bl true) (.cons (.int 1) .nil))) .nil), by decide +kernel⟩
  · exact ⟨.two (lq f7) (tq e8) (.int 1) .non (.inr ⟨by decide, rfl⟩), .list [.tuple [.int 1, .none]], ll f7 (.cons (tl e8 (.cons (.int 1) (.cons .non .nil))) .nil), by decide +kernel⟩
  · exact ⟨.atom (.str "ab") rfl, .str "ab", .str _, by decide +kernel⟩
end
def endD : PyData := .tuple [.list [.int 0, .int 1], .list [.list [.int 2, .int 1]], .list [.int 6, .int 9]]
theorem end_sh : SeqAt.shaped endD = true := by decide +kernel
theorem end_eq : PyData.eqv endD endD = true := SeqAt.eqv_refl endD (SeqAt.canLay_of_shaped end_sh)
theorem end_dp {K : PySem.W.Frag} {H : Hp} {t r gv gi so : Addr} (e : H t = some (.tup [.ref r, .ref gv, .ref so])) (h1 : H r = some (.lst [.int 0, .int 1])) (h2 : H gi = some (.lst [.int 2, .int 1])) (h3 : H gv = some (.lst [.ref gi])) (h4 : H so = some (.lst [.int 6, .int 9])) : Dp K H (.ref t) endD :=
  tl e (.cons (ll h1 (dI2 0 1)) (.cons (ll h3 (.cons (ll h2 (dI2 2 1)) .nil)) (.cons (ll h4 (dI2 6 9)) .nil)))
theorem lits_in : ∀ a ∈ ([6, 9] : List Int), 0 ≤ a ∧ (a / 2).toNat < 1 + 2 + GTS.length := by decide
end Zk
namespace Zk
open PySem PySem.Spec PyProof.Rows L2 LamX Pen Dat Ki Fi Gr No Bd Be Bf Cb Cc Wy Yd Yh Xg Xk Xh Yt Gd
/-! ## The law -/
section
variable {P : Program} {w : World} {K : PySem.W.Frag} {mg : Str → Option Value} {base : Heap} {f C B CN CR fN fR c tb : Addr} {fd : FuncData}
theorem ok_law {g fM fI : Addr} {fdW fdM fdI : FuncData} (F : FnP K "law" sLaw f fd) (T : Gr.Tx K mg C) (XT : Te K mg CN CR fN fR) (rep : mg "repr" = none) (TB : TabB base mg c tb) (hcv : ∀ cv, fd.code = cv → cv = .ref c)
    (FW : FnP K "_law_why" sWhy g fdW) (gW : mg "_law_why" = some (.ref g))
    (mkM : Mk K C fM) (GM : FnOk P w K mg base CX0 4 fM fdM ["self", "leaves", "gates"] (spInit K C)) (gM : mg "Graph" = some (.ref C)) (bM : Binds K fdM ["self", "leaves", "gates"] []) (GX : FnOk P w K mg base (L2.CX P w) 4 fM fdM ["self", "leaves", "gates"] (spGIX K C CN CR))
    (mkB : Mk K B fI) (GB : FnOk P w K mg base (L2.CX P w) 4 fI fdI ["self", "leaves"] (spBIX K B CN)) (gB : mg "Builder" = some (.ref B)) (bB : Binds K fdI ["self", "leaves"] [])
    {fP fD fK fV fH fY fC : Addr} {dP dD dK dV dH dY dC : FuncData}
    (GP : FnOk P w K mg base CX0 1 fP dP ["_law_script"] (spPen K)) (gP : mg "_law_pen" = some (.ref fP)) (kP : PySem.W.keepIn K (.ref fP) = true) (bP : Binds K dP ["_law_script"] [])
    (GD : FnOk P w K mg base CX0 1 fD dD ["_law_pen_here", "_law_many"] (spDraw)) (gD : mg "_law_draw" = some (.ref fD)) (kD : PySem.W.keepIn K (.ref fD) = true) (bD : Binds K dD ["_law_pen_here", "_law_many"] [])
    (GK : FnOk P w K mg base CX0 2 fK dK ["_law_pen_here", "_law_some"] (spPick K)) (gK : mg "_law_pick" = some (.ref fK)) (kK : PySem.W.keepIn K (.ref fK) = true) (bK : Binds K dK ["_law_pen_here", "_law_some"] [])
    (GV : FnOk P w K mg base CX0 3 fV dV ["graph", "bits"] (spNode K C)) (gV : mg "node_values" = some (.ref fV)) (kV : PySem.W.keepIn K (.ref fV) = true) (bV : Binds K dV ["graph", "bits"] [])
    (GH : FnOk P w K mg base CX0 8 fH dH ["graph", "literals", "known"] (spWith K C)) (gH : mg "with_known" = some (.ref fH)) (kH : PySem.W.keepIn K (.ref fH) = true) (bH : Binds K dH ["graph", "literals", "known"] [])
    (GY : FnOk P w K mg base CX0 8 fY dY ["graph", "literals"] (spPlain K C)) (gY : mg "plain" = some (.ref fY)) (kY : PySem.W.keepIn K (.ref fY) = true) (bY : Binds K dY ["graph", "literals"] [])
    (GC : FnOk P w K mg base CX0 6 fC dC ["graph", "literals"] (spCone K C)) (gC : mg "cone" = some (.ref fC)) (kC : PySem.W.keepIn K (.ref fC) = true) (bC : Binds K dC ["graph", "literals"] [])
    (GVx : FnOk P w K mg base (L2.CX P w) 3 fV dV ["graph", "bits"] (spNodeX K C CR)) (GHx : FnOk P w K mg base (L2.CX P w) 3 fH dH ["graph", "literals", "known"] (spWithX K C CR)) :
    FnG P w K mg base CX0 9 f fd ["_law_script"] (spLaw K tb) := by
  refine mk_ofC F scLaw (fun vs H Q E h => ?_) (fun cdv A outer s H vs Q E hfc hg hr h => ?_)
  · obtain ⟨a, ns, rfl, _⟩ := h
    rfl
  · obtain ⟨a, ns, rfl, ha, hn, hT, q⟩ := h
    have hu := hu_of hr
    refine ⟨_, PSs.nox (pss_cons (ps_set (i := 1) scLaw.nd rfl (Or.inl rfl) (pe_call GP (hr.mono (by decide)) (by rfl) gP kP bP .nil pass0 (pa_cons (pv 0) pa_nil)))
      (pss_cons (ps_set (i := 2) scLaw.nd rfl (Or.inr rfl) (pe_call GK (hr.mono (by decide)) (by rfl) gK kK bK .nil pass0 (pa_cons (pv 1) (pa_cons (pe_lst (pa_cons (pe_un un_neg pe_int) (pa_cons pe_non (pa_cons pe_bl (pa_cons pe_str (pa_cons (pe_tup (pa_cons pe_int pa_nil)) (pa_cons (pe_lst (pa_cons pe_int pa_nil)) pa_nil))))))) pa_nil))))
      (pss_cons (ps_set (i := 3) scLaw.nd rfl (Or.inl rfl) (pe_lst (pa_cons pe_non (pa_cons pe_int (pa_cons pe_str (pa_cons (pe_lst (pa_cons (pe_tup (pa_cons pe_int pa_nil)) pa_nil)) (pa_cons (pe_lst (pa_cons (pe_tup (pa_cons pe_int (pa_cons pe_int pa_nil))) pa_nil)) (pa_cons (pe_lst (pa_cons (pe_tup (pa_cons pe_int (pa_cons (pe_un un_neg pe_int) pa_nil))) pa_nil)) (pa_cons (pe_lst (pa_cons (pe_tup (pa_cons pe_int (pa_cons pe_bl pa_nil))) pa_nil)) (pa_cons (pe_lst (pa_cons (pe_tup (pa_cons pe_int (pa_cons pe_int pa_nil))) (pa_cons (pe_tup (pa_cons pe_int (pa_cons pe_int pa_nil))) pa_nil))) (pa_cons (pe_lst (pa_cons (pe_tup (pa_cons pe_int (pa_cons pe_int (pa_cons pe_int pa_nil)))) pa_nil)) (pa_cons (pe_disp (pps_cons pe_int pe_int pps_nil) (by rfl) (by rfl) (fun z => by cases z) (by decide)) pa_nil))))))))))))
      (C8.pss_cut (ps_set (i := 4) scLaw.nd rfl (Or.inr rfl) (pe_call GK (hr.mono (by decide)) (by rfl) gK kK bK .nil pass0 (pa_cons (pv 1) (pa_cons (pv 3) pa_nil))))
      (pss_cons (ps_if (pt_cmpR (op_neD hr.units) (pe_why (k := 5) FW gW XT.why hg (hr.mono (by decide)) TB (hcv cdv hfc) rfl (by rfl) (lamS_by (sc := defScope sLaw) (by decide +kernel)) (by rfl) (by intros; rfl) fun A outer s H E f c2 hr2 => pe_make mkM GX (hr2.mono (by decide)) (by rfl) gM bM .nil (passes_call (takes_of rfl rfl rfl rfl) fun _ _ _ _ h => h) (pa_cons (pv 2) (pa_cons (pv 4) pa_nil))) (pe_tup (pa_cons pe_str (pa_cons pe_str (pa_cons (pe_callB (id := "repr") (r := rSays K) (call_says (K := K) rfl hg (room_u hr)) (by rfl) rep (by decide +kernel) (pa_cons (pv 2) pa_nil)) pa_nil)))) (nomark _))
        (pss_one (ps_ret pe_bl))
        pss_nil)
      (pss_cons (ps_if (pt_cmpR (op_neD hr.units) (pe_why (k := 5) FW gW XT.why hg (hr.mono (by decide)) TB (hcv cdv hfc) rfl (by rfl) (lamS_by (sc := defScope sLaw) (by decide +kernel)) (by rfl) (by intros; rfl) fun A outer s H E f c2 hr2 => pe_make mkM GX (hr2.mono (by decide)) (by rfl) gM bM .nil (passes_call (takes_of rfl rfl rfl rfl) fun _ _ _ _ h => h) (pa_cons pe_int (pa_cons (pv 4) pa_nil))) (pe_tup (pa_cons pe_str (pa_cons (pe_callB (id := "repr") (r := rSays K) (call_says (K := K) rfl hg (room_u hr)) (by rfl) rep (by decide +kernel) (pa_cons (pv 4) pa_nil)) pa_nil))) (nomark _))
        (pss_one (ps_ret pe_bl))
        pss_nil)
      (pss_cons (ps_if (pt_cmpR (op_neD hr.units) (pe_why (k := 5) FW gW XT.why hg (hr.mono (by decide)) TB (hcv cdv hfc) rfl (by rfl) (lamS_by (sc := defScope sLaw) (by decide +kernel)) (by rfl) (by intros; rfl) fun A outer s H E f c2 hr2 => pe_make mkB GB (hr2.mono (by decide)) (by rfl) gB bB .nil (passes_call (takes_of rfl rfl rfl rfl) fun _ _ _ _ h => h) (pa_cons (pv 2) pa_nil)) (pe_tup (pa_cons pe_str (pa_cons pe_str (pa_cons (pe_callB (id := "repr") (r := rSays K) (call_says (K := K) rfl hg (room_u hr)) (by rfl) rep (by decide +kernel) (pa_cons (pv 2) pa_nil)) pa_nil)))) (nomark _))
        (pss_one (ps_ret pe_bl))
        pss_nil)
      (pss_cons (ps_if (pt_cmpR op_notN (pe_why (k := 5) FW gW XT.why hg (hr.mono (by decide)) TB (hcv cdv hfc) rfl (by rfl) (lamS_by (sc := defScope sLaw) (by decide +kernel)) (by rfl) (by intros; rfl) fun A outer s H E f c2 hr2 => pe_make mkM GM (hr2.mono (by decide)) (by rfl) gM bM .nil pass0 (pa_cons pe_int (pa_cons (pe_lst (pa_cons (pe_tup (pa_cons pe_int (pa_cons pe_int pa_nil))) (pa_cons (pe_tup (pa_cons pe_int (pa_cons pe_int pa_nil))) pa_nil))) pa_nil))) pe_non (nomark _))
        (pss_one (ps_ret pe_bl))
        pss_nil)
      (pss_cons (ps_if (pt_cmpR op_isN (pe_why (k := 5) FW gW XT.why hg (hr.mono (by decide)) TB (hcv cdv hfc) rfl (by rfl) (lamS_by (sc := defScope sLaw) (by decide +kernel)) (by rfl) (by intros; rfl) fun A outer s H E f c2 hr2 => pe_make mkM GX (hr2.mono (by decide)) (by rfl) gM bM .nil (passes_call (takes_of rfl rfl rfl rfl) fun _ _ _ _ h => h) (pa_cons pe_int (pa_cons (pe_lst (pa_cons (pe_tup (pa_cons pe_int (pa_cons pe_int pa_nil))) pa_nil)) pa_nil))) pe_non (nomark _))
        (pss_one (ps_ret pe_bl))
        pss_nil)
      (pss_cons (ps_set (i := 5) scLaw.nd rfl (Or.inr rfl) (pe_make mkM GM (hr.mono (by decide)) (by rfl) gM bM .nil pass0 (pa_cons pe_int (pa_cons (pe_lst (pa_cons (pe_lst (pa_cons pe_int (pa_cons pe_int pa_nil))) (pa_cons (pe_lst (pa_cons pe_int (pa_cons pe_int pa_nil))) pa_nil))) pa_nil))))
      (C8.pss_cut (ps_set (i := 6) scLaw.nd rfl (Or.inr rfl) (pe_call GK (hr.mono (by decide)) (by rfl) gK kK bK .nil pass0 (pa_cons (pv 1) (pa_cons (pe_lst (pa_cons pe_non (pa_cons (pe_tup pa_nil) (pa_cons (pe_tup (pa_cons pe_int pa_nil)) (pa_cons (pe_tup (pa_cons pe_int (pa_cons pe_int (pa_cons pe_int pa_nil)))) (pa_cons (pe_tup (pa_cons pe_int (pa_cons pe_int pa_nil))) (pa_cons (pe_tup (pa_cons pe_int (pa_cons pe_non pa_nil))) (pa_cons (pe_tup (pa_cons pe_bl (pa_cons pe_int pa_nil))) (pa_cons pe_str (pa_cons (pe_tup (pa_cons pe_int (pa_cons pe_str pa_nil))) (pa_cons pe_int pa_nil))))))))))) pa_nil))))
      (pss_cons (ps_if (pt_cmpR (op_neD hr.units) (pe_why (k := 5) FW gW XT.why hg (hr.mono (by decide)) TB (hcv cdv hfc) rfl (by rfl) (lamS_by (sc := defScope sLaw) (by decide +kernel)) (by rfl) (by intros; rfl) fun A outer s H E f c2 hr2 => pe_call GVx (hr2.mono (by decide)) (by rfl) gV kV bV .nil (passes_call (takes_of rfl rfl rfl rfl) fun _ _ _ _ h => h) (pa_cons (pv 5) (pa_cons (pv 6) pa_nil))) (pe_tup (pa_cons pe_str (pa_cons (pe_callB (id := "repr") (r := rSays K) (call_says (K := K) rfl hg (room_u hr)) (by rfl) rep (by decide +kernel) (pa_cons (pv 6) pa_nil)) pa_nil))) (nomark _))
        (pss_one (ps_ret pe_bl))
        pss_nil)
      (pss_cons (ps_set (i := 3) scLaw.nd rfl (Or.inl rfl) (pe_lst (pa_cons pe_non (pa_cons pe_int (pa_cons (pe_lst (pa_cons (pe_tup (pa_cons pe_int (pa_cons pe_int pa_nil))) pa_nil)) (pa_cons (pe_lst (pa_cons (pe_tup (pa_cons pe_int (pa_cons pe_int pa_nil))) pa_nil)) (pa_cons (pe_lst (pa_cons (pe_tup (pa_cons pe_int (pa_cons pe_int pa_nil))) pa_nil)) (pa_cons (pe_lst (pa_cons (pe_tup (pa_cons pe_int (pa_cons pe_int pa_nil))) (pa_cons (pe_tup (pa_cons pe_int (pa_cons pe_int pa_nil))) pa_nil))) (pa_cons (pe_lst (pa_cons (pe_tup (pa_cons pe_int pa_nil)) pa_nil)) (pa_cons (pe_lst (pa_cons (pe_tup (pa_cons pe_bl (pa_cons pe_int pa_nil))) pa_nil)) (pa_cons (pe_lst (pa_cons (pe_tup (pa_cons pe_int (pa_cons pe_non pa_nil))) pa_nil)) (pa_cons pe_str pa_nil))))))))))))
      (C8.pss_cut (ps_set (i := 7) scLaw.nd rfl (Or.inr rfl) (pe_call GK (hr.mono (by decide)) (by rfl) gK kK bK .nil pass0 (pa_cons (pv 1) (pa_cons (pv 3) pa_nil))))
      (pss_cons (ps_if (pt_cmpR (op_neD hr.units) (pe_why (k := 5) FW gW XT.why hg (hr.mono (by decide)) TB (hcv cdv hfc) rfl (by rfl) (lamS_by (sc := defScope sLaw) (by decide +kernel)) (by rfl) (by intros; rfl) fun A outer s H E f c2 hr2 => pe_call GHx (hr2.mono (by decide)) (by rfl) gH kH bH .nil (passes_call (takes_of rfl rfl rfl rfl) fun _ _ _ _ h => h) (pa_cons (pv 5) (pa_cons (pe_tup (pa_cons pe_int pa_nil)) (pa_cons (pv 7) pa_nil)))) (pe_tup (pa_cons pe_str (pa_cons (pe_callB (id := "repr") (r := rSays K) (call_says (K := K) rfl hg (room_u hr)) (by rfl) rep (by decide +kernel) (pa_cons (pv 7) pa_nil)) pa_nil))) (nomark _))
        (pss_one (ps_ret pe_bl))
        pss_nil)
      (C8.pss_cut (ps_par3 (i := 8) (j := 9) (l := 3) rfl scLaw.nd rfl rfl rfl (by decide) (by decide) (by decide) rfl rfl rfl (pa_cons (pe_lst (pa_cons pe_int (pa_cons pe_int pa_nil))) (pa_cons (pe_lst (pa_cons (pe_lst (pa_cons pe_int (pa_cons pe_int pa_nil))) pa_nil)) (pa_cons (pe_lst (pa_cons pe_int (pa_cons pe_int pa_nil))) pa_nil))) (by rfl))
      (pss_cons (ps_expr (pe_call GV (hr.mono (by decide)) (by rfl) gV kV bV .nil pass0 (pa_cons (pv 5) (pa_cons (pv 8) pa_nil))))
      (pss_cons (ps_expr (pe_call GH (hr.mono (by decide)) (by rfl) gH kH bH .nil pass0 (pa_cons (pv 5) (pa_cons (pv 3) (pa_cons (pv 9) pa_nil)))))
      (pss_cons (ps_expr (pe_call GY (hr.mono (by decide)) (by rfl) gY kY bY .nil pass0 (pa_cons (pv 5) (pa_cons (pv 3) pa_nil))))
      (pss_cons (ps_expr (pe_call GC (hr.mono (by decide)) (by rfl) gC kC bC .nil pass0 (pa_cons (pv 5) (pa_cons (pv 3) pa_nil))))
      (pss_one (ps_ret (pe_cmpR (op_eqD hr.units) (pe_tup (pa_cons (pv 8) (pa_cons (pv 9) (pa_cons (pv 3) pa_nil)))) (pe_tup (pa_cons (pe_lst (pa_cons pe_int (pa_cons pe_int pa_nil))) (pa_cons (pe_lst (pa_cons (pe_lst (pa_cons pe_int (pa_cons pe_int pa_nil))) pa_nil)) (pa_cons (pe_lst (pa_cons pe_int (pa_cons pe_int pa_nil))) pa_nil)))) (nomark _)))))))))))))))))))))))), ?_⟩
    refine ⟨_, rfl, a, ns, rfl, ha, hn, fun p c0 H1 np s1 hp1 => ?_⟩
    have hT1 := s1 _ _ hT
    refine ⟨_, rfl, ?_⟩
    refine ⟨_, rfl, len1, fun t1 n1 => ⟨len1, fun t2 n2 => ⟨len6, fun l nl => ?_⟩⟩⟩
    have A1 := same_new (u := .tup [.int 1]) n1
    have A2 := same_new (u := .lst [.int 3]) n2
    have L := same_new (u := .lst [.int (-1), .non, .bl true, .str "2", .ref t1, .ref t2]) nl
    have pb := hp1.same (A1.trans (A2.trans L))
    refine ⟨p, c0, l, _, _, rfl, pb, (by decide), ((hp1.same (A1.trans A2)).free nl).1, .inl (.inl upd_same), (by show 0 < 6; decide), (by show 6 ≤ 1000; decide), fun v2 i2 H2 g2 hp2 b2 => ?_⟩
    have f2 := Stay.pen b2 pb
    have hT2 := b2 _ _ (L _ _ (A2 _ _ (A1 _ _ hT1))) (pen_tbl pb (L _ _ (A2 _ _ (A1 _ _ hT1))))
    have o2 := (odd_pick (K := K) g2 (L _ _ (A2 _ _ upd_same)) (L _ _ upd_same)).stay f2
    clear f2 b2 pb L A1 A2 nl n1 n2 g2
    refine ⟨len1, fun a1 n1 => ⟨len1, fun l1 m1 => ⟨len2, fun a2 n2 => ⟨len1, fun l2 m2 => ⟨_, rfl, len2, fun a3 n3 => ⟨len1, fun l3 m3 => ⟨len2, fun a4 n4 => ⟨len1, fun l4 m4 => ⟨len2, fun a5 n5 => ⟨len2, fun a6 n6 => ⟨len2, fun l5 m5 => ⟨len3, fun a7 n7 => ⟨len1, fun l6 m6 => ?_⟩⟩⟩⟩⟩⟩⟩⟩⟩⟩⟩⟩⟩
    refine fun dd nd => ⟨upd_same, [(.inl 0, .int 1)], rfl, (by show 1 ≤ 15; decide), len10, fun lo nlo => ?_⟩
    have S1 := same_new (u := .tup [.int 0]) n1
    have S2 := same_new (u := .lst [.ref a1]) m1
    have S3 := same_new (u := .tup [.int 0, .int 6]) n2
    have S4 := same_new (u := .lst [.ref a2]) m2
    have S5 := same_new (u := .tup [.int 2, .int (-1)]) n3
    have S6 := same_new (u := .lst [.ref a3]) m3
    have S7 := same_new (u := .tup [.int 0, .bl true]) n4
    have S8 := same_new (u := .lst [.ref a4]) m4
    have S9 := same_new (u := .tup [.int 0, .int 0]) n5
    have S10 := same_new (u := .tup [.int 8, .int 2]) n6
    have S11 := same_new (u := .lst [.ref a5, .ref a6]) m5
    have S12 := same_new (u := .tup [.int 1, .int 2, .int 3]) n7
    have S13 := same_new (u := .lst [.ref a7]) m6
    have S14 := same_two (u := .dK []) (v := .dK [(.inl 0, .int 1)]) nd
    have S15 := same_new (u := .lst [.non, .int 5, .str "ab", .ref l1, .ref l2, .ref l3, .ref l4, .ref l5, .ref l6, .ref dd]) nlo
    have Z14 := S14.trans S15
    have Z13 := S13.trans Z14
    have Z12 := S12.trans Z13
    have Z11 := S11.trans Z12
    have Z10 := S10.trans Z11
    have Z9 := S9.trans Z10
    have Z8 := S8.trans Z9
    have Z7 := S7.trans Z8
    have Z6 := S6.trans Z7
    have Z5 := S5.trans Z6
    have Z4 := S4.trans Z5
    have Z3 := S3.trans Z4
    have Z2 := S2.trans Z3
    have Z1 := S1.trans Z2
    have pb := hp2.same Z1
    refine ⟨fun σ H' => ∃ v4 x, σ = [some (.ref a), some (.ref p), some v2, some (.ref lo), some v4, none, none, none, none, none] ∧ H' tb = some (.tbl #[]) ∧ Fo K H' p c0 v2 v4 x, ?_, ?_⟩
    · refine ⟨_, rfl, _, rfl, p, c0, lo, _, _, rfl, pb, (by decide), pen_lst pb upd_same, .inl (.inl upd_same), (by show 0 < 10; decide), (by show 10 ≤ 1000; decide), fun v4 i4 H4 g4 hp4 b4 => ?_⟩
      have f4 := Stay.pen b4 pb
      have hT4 := b4 _ _ (Z1 _ _ hT2) (pen_tbl pb (Z1 _ _ hT2))
      obtain ⟨x, o4⟩ := bad_pick (K := K) g4 (Z2 _ _ upd_same) (Z3 _ _ upd_same) (Z4 _ _ upd_same) (Z5 _ _ upd_same) (Z6 _ _ upd_same) (Z7 _ _ upd_same) (Z8 _ _ upd_same) (Z9 _ _ upd_same) (Z10 _ _ upd_same) (Z11 _ _ upd_same) (Z12 _ _ upd_same) (Z13 _ _ upd_same) (Z14 _ _ upd_same) (S15 _ _ upd_same)
      exact ⟨v4, x, rfl, hT4, ⟨_, by decide, hp4⟩, o2.stay ((Stay.of Z1).trans f4), o4.stay f4⟩
    clear pb Z1 Z2 Z3 Z4 Z5 Z6 Z7 Z8 Z9 Z10 Z11 Z12 Z13 Z14 S1 S2 S3 S4 S5 S6 S7 S8 S9 S10 S11 S12 S13 S14 S15 n1 n2 n3 n4 n5 n6 n7 m1 m2 m3 m4 m5 m6 nd nlo o2 hT2 hp2 hT1 hp1 s1 np hT ha
    rintro σ H6 ⟨v4, x4, rfl, hT6, F6⟩
    have T6 : Tabs [(tb, lamQ)] H6 := fun q hq => by rw [List.mem_singleton.mp hq]; exact TabS.nil hT6
    refine ⟨T6, fun H7 e7 T7 => ?_⟩
    have F7 := F6.ext e7
    clear F6 T6 hT6
    have ⟨dd, od, sh, be⟩ := F7.odd
    refine ⟨_, rfl, _, rfl, fun z dz nz ndz nez => ?_⟩
    have S := same_ins (C := C) nz ndz nez
    have fS := Stay.of S
    refine ⟨z, dz, v2, v4, rfl, upd_same, .inl ⟨dd, dp_stay fS od, be, num_of (says_of (dp_stay fS od) sh) fun H8 t s8 e8 => ?_⟩⟩
    have sy := says_of (dp_stay (fS.trans (Stay.of s8)) od) sh
    refine ⟨_, rfl, v2, _, rfl, sy, len3, fun t2 n2 => ?_⟩
    have s9 := same_new (u := .tup [.str "number", .str "leaves", .str dd.shown]) n2
    have hs := three_sh (a := "number") (b := "leaves") (by decide +kernel) (by decide +kernel) (sh_str sh)
    refine ⟨_, _, strs3 (s9 _ _ e8), strs3 upd_same, hs, hs, _, rfl, goF (by rw [three_eqv]; rfl) ?_⟩
    have X := S.trans (s8.trans s9)
    have F := F7.ext (ExtN.of X)
    have T := T7.ext X
    clear X hs s9 n2 e8 s8 fS S nez ndz nz F7 T7
    generalize upd H8 t2 _ = Ha at F T ⊢
    refine ⟨T, fun H7 e7 T7 => ?_⟩
    have F7 := F.ext e7
    clear F T
    refine ⟨_, rfl, fun z dz nz ndz nez => ?_⟩
    have S := same_ins (C := C) nz ndz nez
    have fS := Stay.of S
    have bS := F7.bad.stay fS
    refine ⟨z, dz, .int 2, v4, rfl, upd_same, .inr ⟨2, rfl, (by decide), row_of bS.says fun H8 t s8 e8 => ?_, bS.imp (fun ⟨d, h1, _, _, h2, h3, h4⟩ => ⟨d, h1, h2, h3, h4⟩) fun ⟨a, h1, h2, _⟩ => ⟨a, _, h1, h2⟩⟩⟩
    refine ⟨_, rfl, v4, _, rfl, says_stay (Stay.of s8) bS.says, len2, fun t2 n2 => ?_⟩
    have s9 := same_new (u := .tup [.str "row", .str x4]) n2
    have hs := two_sh (a := "row") (by decide +kernel) (bS.ok)
    refine ⟨_, _, strs2 (s9 _ _ e8), strs2 upd_same, hs, hs, _, rfl, goF (by rw [two_eqv]; rfl) ?_⟩
    have X := S.trans (s8.trans s9)
    have F := F7.ext (ExtN.of X)
    have T := T7.ext X
    clear bS X hs s9 n2 e8 s8 fS S nez ndz nz F7 T7
    generalize upd H8 t2 _ = Hb at F T ⊢
    refine ⟨T, fun H7 e7 T7 => ?_⟩
    have F7 := F.ext e7
    clear F T
    have ⟨dd, od, sh, be⟩ := F7.odd
    refine ⟨_, rfl, fun z dz nz ndz nez => ?_⟩
    have S := same_ins (C := B) nz ndz nez
    have fS := Stay.of S
    refine ⟨z, dz, v2, dd, rfl, upd_same, dp_stay fS od, be, num_of (says_of (dp_stay fS od) sh) fun H8 t s8 e8 => ?_⟩
    have sy := says_of (dp_stay (fS.trans (Stay.of s8)) od) sh
    refine ⟨_, rfl, v2, _, rfl, sy, len3, fun t2 n2 => ?_⟩
    have s9 := same_new (u := .tup [.str "number", .str "leaves", .str dd.shown]) n2
    have hs := three_sh (a := "number") (b := "leaves") (by decide +kernel) (by decide +kernel) (sh_str sh)
    refine ⟨_, _, strs3 (s9 _ _ e8), strs3 upd_same, hs, hs, _, rfl, goF (by rw [three_eqv]; rfl) ?_⟩
    have X := S.trans (s8.trans s9)
    have F := F7.ext (ExtN.of X)
    have T := T7.ext X
    clear X hs s9 n2 e8 s8 fS S nez ndz nz F7 T7
    generalize upd H8 t2 _ = Hc at F T ⊢
    refine ⟨T, fun H7 e7 T7 => ?_⟩
    have F7 := F.ext e7
    clear F T
    refine ⟨len2, fun a1 n1 => ⟨len2, fun a2 n2 => ⟨len2, fun l nl => fun z dz nz ndz nez => ?_⟩⟩⟩
    have A1 := same_new (u := .tup [.int 5, .int 5]) n1
    have A2 := same_new (u := .tup [.int 7, .int 6]) n2
    have A3 := same_new (u := .lst [.ref a1, .ref a2]) nl
    have S := same_ins (C := C) nz ndz nez
    refine ⟨z, dz, 2, .ref l, [(5, 5), (7, 6)], rfl, upd_same, (by decide), ⟨l, _, rfl, .inl (.inl (.inl (S _ _ upd_same))), .cons ⟨a1, rfl, .inr (.inl (.inl (S _ _ (A3 _ _ (A2 _ _ upd_same)))))⟩ (.cons ⟨a2, rfl, .inr (.inl (.inl (S _ _ (A3 _ _ upd_same))))⟩ .nil)⟩, (by decide), (by decide +kernel), fun H8 keep gr => ⟨rfl, ?_⟩⟩
    have X : Same H7 H8 := fun b o e => by
      have e3 := A3 _ _ (A2 _ _ (A1 _ _ e))
      exact keep _ _ (S _ _ e3) (ne_of_none e3 nz)
    refine ⟨rfl, _, rfl, goF (by rfl) ?_⟩
    have F := F7.ext (ExtN.of X)
    have T := T7.ext X
    clear X keep gr A1 A2 A3 S n1 n2 nl nz ndz nez F7 T7
    refine ⟨T, fun H7 e7 T7 => ?_⟩
    have F7 := F.ext e7
    clear F T
    refine ⟨len2, fun a1 n1 => ⟨len1, fun l nl => fun z dz nz ndz nez => ?_⟩⟩
    have A1 := same_new (u := .tup [.int 5, .int 6]) n1
    have A2 := same_new (u := .lst [.ref a1]) nl
    have S := same_ins (C := C) nz ndz nez
    have dl : Dp K (upd (upd (upd (upd H7 a1 (.tup [.int 5, .int 6])) l (.lst [.ref a1])) dz (.own z)) z (.ins C dz [])) (.ref l) (.list [.tuple [.int 5, .int 6]]) := ll (S _ _ upd_same) (.cons (tl (S _ _ (A2 _ _ upd_same)) (dI2 5 6)) .nil)
    refine ⟨z, dz, .int 2, .ref l, rfl, upd_same, .inr ⟨2, rfl, (by decide), row_of (says_of dl (by decide +kernel)) fun H8 t s8 e8 => ?_, .inl ⟨_, dl, by decide, by decide, by decide +kernel⟩⟩⟩
    refine ⟨rfl, _, rfl, goF (by rfl) ?_⟩
    have X := A1.trans (A2.trans (S.trans s8))
    have F := F7.ext (ExtN.of X)
    have T := T7.ext X
    clear X dl A1 A2 S s8 e8 n1 nl nz ndz nez F7 T7
    obtain ⟨m, hm, hp⟩ := F.pen
    generalize H8 = Ha at hp T ⊢
    clear F
    refine ⟨len2, fun a1 n1 => ⟨len2, fun a2 n2 => ⟨len2, fun l nl => fun g dg ng ndg neg => ?_⟩⟩⟩
    have A1 := same_new (u := .lst [.int 4, .int 2]) n1
    have A2 := same_new (u := .lst [.int 7, .int 3]) n2
    have A3 := same_new (u := .lst [.ref a1, .ref a2]) nl
    have S := same_ins (C := C) ng ndg neg
    refine ⟨g, dg, 2, .ref l, GTS, rfl, upd_same, (by decide), ⟨l, _, rfl, .inl (.inl (.inl (S _ _ upd_same))), .cons ⟨a1, rfl, .inl (.inl (.inl (S _ _ (A3 _ _ (A2 _ _ upd_same)))))⟩ (.cons ⟨a2, rfl, .inl (.inl (.inl (S _ _ (A3 _ _ upd_same))))⟩ .nil)⟩, (by decide), (by decide +kernel), fun Hb keep gr => ⟨rfl, ?_⟩⟩
    have X : Same Ha Hb := fun b o e => by
      have e3 := A3 _ _ (A2 _ _ (A1 _ _ e))
      exact keep _ _ (S _ _ e3) (ne_of_none e3 ng)
    have F : Fp K C Hb 100 p c0 g tb := ⟨⟨m, hm, hp.same X⟩, gr, T.ext X⟩
    clear X keep gr A1 A2 A3 S n1 n2 nl ng ndg neg hp T
    refine ⟨fun σ H' => ∃ v6, σ = [some (.ref a), some (.ref p), some v2, some (.ref lo), some v4, some (.ref g), some v6, none, none, none] ∧ Fp K C H' 101 p c0 g tb ∧ BadB K H' v6, ?_, ?_⟩
    · refine ⟨_, rfl, len0, fun t0 n0 => ⟨len1, fun t1 n1 => ⟨len3, fun t2 n2 => ⟨len2, fun t3 n3 => ⟨len2, fun t4 n4 => ⟨len2, fun t5 n5 => ⟨len2, fun t6 n6 => ⟨len10, fun l nl => ?_⟩⟩⟩⟩⟩⟩⟩⟩
      have S0 := same_new (u := .tup []) n0
      have S1 := same_new (u := .tup [.int 0]) n1
      have S2 := same_new (u := .tup [.int 0, .int 1, .int 1]) n2
      have S3 := same_new (u := .tup [.int 0, .int 2]) n3
      have S4 := same_new (u := .tup [.int 0, .non]) n4
      have S5 := same_new (u := .tup [.bl true, .int 0]) n5
      have S6 := same_new (u := .tup [.int 0, .str "1"]) n6
      have S7 := same_new (u := .lst [.non, .ref t0, .ref t1, .ref t2, .ref t3, .ref t4, .ref t5, .str "01", .ref t6, .int 5]) nl
      have Z6 := S6.trans S7
      have Z5 := S5.trans Z6
      have Z4 := S4.trans Z5
      have Z3 := S3.trans Z4
      have Z2 := S2.trans Z3
      have Z1 := S1.trans Z2
      have F1 := F.same (S0.trans Z1)
      obtain ⟨m1, hm1, pb⟩ := F1.pen
      refine ⟨p, c0, l, m1, _, rfl, pb, (by omega), pen_lst pb upd_same, .inl (.inl upd_same), (by show 0 < 10; decide), (by show 10 ≤ 1000; decide), fun v6 i6 H6 g6 hp6 b6 => ?_⟩
      have f6 := Stay.pen b6 pb
      exact ⟨v6, rfl, ⟨⟨m1 + 1, (by omega), hp6⟩, F1.gr.firm f6.firm, tabs_but b6 pb F1.tab⟩, (bits_pick (K := K) g6 (Z1 _ _ upd_same) (Z2 _ _ upd_same) (Z3 _ _ upd_same) (Z4 _ _ upd_same) (Z5 _ _ upd_same) (Z6 _ _ upd_same) (S7 _ _ upd_same)).stay f6⟩
    clear F
    rintro σ H6 ⟨v6, rfl, F6, bb⟩
    refine ⟨F6.tab, fun H7 e7 T7 => ?_⟩
    have F7 := F6.ext e7 T7
    have b7 := bb.stay (Stay.extN e7)
    clear F6 bb
    have ⟨dd, od, sh, lz, be⟩ := b7
    refine ⟨_, rfl, _, rfl, g, v6, 2, GTS, dd, rfl, F7.gr, od, lz, be, row_of (says_of od sh) fun H8 t s8 e8 => ?_⟩
    have sy := says_of (dp_stay (Stay.of s8) od) sh
    refine ⟨_, rfl, v6, _, rfl, sy, len2, fun t2 n2 => ?_⟩
    have s9 := same_new (u := .tup [.str "row", .str dd.shown]) n2
    have hs := two_sh (a := "row") (by decide +kernel) (sh_str sh)
    refine ⟨_, _, strs2 (s9 _ _ e8), strs2 upd_same, hs, hs, _, rfl, goF (by rw [two_eqv]; rfl) ?_⟩
    have F := F7.same (s8.trans s9)
    clear hs s9 n2 e8 s8 sy od sh lz be b7 F7 T7 e7
    generalize upd H8 t2 _ = Hd at F ⊢
    refine ⟨len2, fun a1 n1 => ⟨len1, fun l1 m1 => ⟨len2, fun a2 n2 => ⟨len1, fun l2 m2 => ⟨len2, fun a3 n3 => ⟨len1, fun l3 m3 => ⟨len2, fun a4 n4 => ⟨len2, fun a5 n5 => ⟨len2, fun l4 m4 => ⟨len1, fun a6 n6 => ⟨len1, fun l5 m5 => ⟨len2, fun a7 n7 => ⟨len1, fun l6 m6 => ⟨len2, fun a8 n8 => ⟨len1, fun l7 m7 => ⟨len10, fun lo2 nlo => ?_⟩⟩⟩⟩⟩⟩⟩⟩⟩⟩⟩⟩⟩⟩⟩⟩
    have S1 := same_new (u := .tup [.int 0, .int 1]) n1
    have S2 := same_new (u := .lst [.ref a1]) m1
    have S3 := same_new (u := .tup [.int 3, .int 0]) n2
    have S4 := same_new (u := .lst [.ref a2]) m2
    have S5 := same_new (u := .tup [.int 1, .int 2]) n3
    have S6 := same_new (u := .lst [.ref a3]) m3
    have S7 := same_new (u := .tup [.int 1, .int 0]) n4
    have S8 := same_new (u := .tup [.int 1, .int 0]) n5
    have S9 := same_new (u := .lst [.ref a4, .ref a5]) m4
    have S10 := same_new (u := .tup [.int 1]) n6
    have S11 := same_new (u := .lst [.ref a6]) m5
    have S12 := same_new (u := .tup [.bl true, .int 1]) n7
    have S13 := same_new (u := .lst [.ref a7]) m6
    have S14 := same_new (u := .tup [.int 1, .non]) n8
    have S15 := same_new (u := .lst [.ref a8]) m7
    have S16 := same_new (u := .lst [.non, .int 5, .ref l1, .ref l2, .ref l3, .ref l4, .ref l5, .ref l6, .ref l7, .str "ab"]) nlo
    have Z15 := S15.trans S16
    have Z14 := S14.trans Z15
    have Z13 := S13.trans Z14
    have Z12 := S12.trans Z13
    have Z11 := S11.trans Z12
    have Z10 := S10.trans Z11
    have Z9 := S9.trans Z10
    have Z8 := S8.trans Z9
    have Z7 := S7.trans Z8
    have Z6 := S6.trans Z7
    have Z5 := S5.trans Z6
    have Z4 := S4.trans Z5
    have Z3 := S3.trans Z4
    have Z2 := S2.trans Z3
    have F1 := F.same (S1.trans Z2)
    obtain ⟨m1, hm1, pb⟩ := F1.pen
    refine ⟨fun σ H' => ∃ v7, σ = [some (.ref a), some (.ref p), some v2, some (.ref lo2), some v4, some (.ref g), some v6, some v7, none, none] ∧ Fp K C H' 102 p c0 g tb ∧ BadL K H' v7, ?_, ?_⟩
    · refine ⟨_, rfl, _, rfl, p, c0, lo2, m1, _, rfl, pb, (by omega), pen_lst pb upd_same, .inl (.inl upd_same), (by show 0 < 10; decide), (by show 10 ≤ 1000; decide), fun v7 i7 H7 g7 hp7 b7 => ?_⟩
      have f7 := Stay.pen b7 pb
      exact ⟨v7, rfl, ⟨⟨m1 + 1, (by omega), hp7⟩, F1.gr.firm f7.firm, tabs_but b7 pb F1.tab⟩, (known_pick (K := K) g7 (Z2 _ _ upd_same) (Z3 _ _ upd_same) (Z4 _ _ upd_same) (Z5 _ _ upd_same) (Z6 _ _ upd_same) (Z7 _ _ upd_same) (Z8 _ _ upd_same) (Z9 _ _ upd_same) (Z10 _ _ upd_same) (Z11 _ _ upd_same) (Z12 _ _ upd_same) (Z13 _ _ upd_same) (Z14 _ _ upd_same) (Z15 _ _ upd_same) (S16 _ _ upd_same)).stay f7⟩
    clear F F1 pb Z2 Z3 Z4 Z5 Z6 Z7 Z8 Z9 Z10 Z11 Z12 Z13 Z14 Z15 S1 S2 S3 S4 S5 S6 S7 S8 S9 S10 S11 S12 S13 S14 S15 S16 n1 n2 n3 n4 n5 n6 n7 n8 m2 m3 m4 m5 m6 m7 nlo
    rintro σ H6 ⟨v7, rfl, F6, bb⟩
    refine ⟨F6.tab, fun H7 e7 T7 => ?_⟩
    have F7 := F6.ext e7 T7
    have b7 := bb.stay (Stay.extN e7)
    clear F6 bb
    refine ⟨_, rfl, len1, fun t6 n6 => ⟨_, rfl, ?_⟩⟩
    have S6 := same_new (u := .tup [.int 6]) n6
    have b8 := b7.stay (Stay.of S6)
    have ⟨bk, dd, od, sh⟩ := b8
    refine ⟨g, .ref t6, v7, 2, GTS, rfl, (F7.same S6).gr, bk, row_of (says_of od sh) fun H8 t s8 e8 => ?_⟩
    have sy := says_of (dp_stay (Stay.of s8) od) sh
    refine ⟨_, rfl, v7, _, rfl, sy, len2, fun t2 n2 => ?_⟩
    have s9 := same_new (u := .tup [.str "row", .str dd.shown]) n2
    have hs := two_sh (a := "row") (by decide +kernel) (sh_str sh)
    refine ⟨_, _, strs2 (s9 _ _ e8), strs2 upd_same, hs, hs, _, rfl, goF (by rw [two_eqv]; rfl) ?_⟩
    have gr := (F7.same (S6.trans (s8.trans s9))).gr
    clear hs s9 n2 e8 s8 sy od sh bk b7 b8 F7 T7 e7 S6 n6
    generalize upd H8 t2 _ = He at gr ⊢
    refine ⟨fun σ H' => ∃ r gv gi so, σ = [some (.ref a), some (.ref p), some v2, some (.ref so), some v4, some (.ref g), some v6, some v7, some (.ref r), some (.ref gv)] ∧ GraphAt K C H' g 2 GTS ∧ H' r = some (.lst [.int 0, .int 1]) ∧ H' gi = some (.lst [.int 2, .int 1]) ∧ H' gv = some (.lst [.ref gi]) ∧ H' so = some (.lst [.int 6, .int 9]), ?_, ?_⟩
    · refine ⟨len2, fun r nr => ⟨len2, fun gi ngi => ⟨len1, fun gv ngv => ⟨len2, fun so nso => ⟨_, _, _, rfl, ?_⟩⟩⟩⟩⟩
      have S1 := same_new (u := .lst [.int 0, .int 1]) nr
      have S2 := same_new (u := .lst [.int 2, .int 1]) ngi
      have S3 := same_new (u := .lst [.ref gi]) ngv
      have S4 := same_new (u := .lst [.int 6, .int 9]) nso
      exact ⟨r, gv, gi, so, rfl, gr.firm (Firm.of (S1.trans (S2.trans (S3.trans S4)))), S4 _ _ (S3 _ _ (S2 _ _ upd_same)), S4 _ _ (S3 _ _ upd_same), S4 _ _ upd_same, upd_same⟩
    clear gr
    rintro σ H6 ⟨r, gv, gi, so, rfl, gr, h1, h2, h3, h4⟩
    refine ⟨_, rfl, _, rfl, g, .ref r, GTS, [0, 1], rfl, gr, ⟨r, rfl, .inl (.inl (.inl h1))⟩, (by decide : ∀ z ∈ ([0, 1] : List Int), z = 0 ∨ z = 1), (by decide +kernel), (by decide), (by decide), fun H7 t7 s7 _ => ?_⟩
    have gr := gr.firm (Firm.of s7)
    have h1 := s7 _ _ h1
    have h2 := s7 _ _ h2
    have h3 := s7 _ _ h3
    have h4 := s7 _ _ h4
    refine ⟨_, rfl, _, rfl, _, rfl, g, .ref gv, .ref so, 2, GTS, [(2, 1)], [6, 9], rfl, gr, ⟨gv, [.ref gi], rfl, .inl ⟨.inl (.inl h3), .cons ⟨gi, rfl, .inl (.inl h2)⟩ .nil⟩⟩, ⟨by decide, by decide⟩, (by decide), ⟨so, rfl, .inl (.inl (.inl h4))⟩, (by decide), (by decide), (by decide +kernel), lits_in, (by decide), fun H8 t8 g8 u8 s8 _ _ _ => ?_⟩
    have gr := gr.firm (Firm.of s8)
    have h1 := s8 _ _ h1
    have h2 := s8 _ _ h2
    have h3 := s8 _ _ h3
    have h4 := s8 _ _ h4
    refine ⟨_, rfl, _, rfl, g, .ref so, 2, GTS, [6, 9], rfl, gr, ⟨so, rfl, .inl (.inl (.inl h4))⟩, (by decide), (by decide), (by decide +kernel), lits_in, (by decide), fun H9 t9 g9 u9 s9 _ _ _ => ?_⟩
    have gr := gr.firm (Firm.of s9)
    have h1 := s9 _ _ h1
    have h2 := s9 _ _ h2
    have h3 := s9 _ _ h3
    have h4 := s9 _ _ h4
    refine ⟨_, rfl, _, rfl, g, .ref so, 2, GTS, [6, 9], rfl, gr, ⟨so, rfl, .inl (.inl (.inl h4))⟩, (by decide), (by decide), (by decide +kernel), lits_in, (by decide), fun H10 t10 g10 u10 s10 _ _ _ => ?_⟩
    have h1 := s10 _ _ h1
    have h2 := s10 _ _ h2
    have h3 := s10 _ _ h3
    have h4 := s10 _ _ h4
    refine ⟨_, rfl, _, rfl, _, rfl, len3, fun t nt => ⟨len2, fun r' nr => ⟨len2, fun gi' ngi => ⟨len1, fun gv' ngv => ⟨len2, fun so' nso => ⟨len3, fun t' nt' => ?_⟩⟩⟩⟩⟩⟩
    have A0 := same_new (u := .tup [.ref r, .ref gv, .ref so]) nt
    have A1 := same_new (u := .lst [.int 0, .int 1]) nr
    have A2 := same_new (u := .lst [.int 2, .int 1]) ngi
    have A3 := same_new (u := .lst [.ref gi']) ngv
    have A4 := same_new (u := .lst [.int 6, .int 9]) nso
    have A5 := same_new (u := .tup [.ref r', .ref gv', .ref so']) nt'
    have Z4 := A4.trans A5
    have Z3 := A3.trans Z4
    have Z2 := A2.trans Z3
    have Z1 := A1.trans Z2
    have Z0 := A0.trans Z1
    refine ⟨endD, endD, end_dp (Z1 _ _ upd_same) (Z0 _ _ h1) (Z0 _ _ h2) (Z0 _ _ h3) (Z0 _ _ h4), end_dp upd_same (Z2 _ _ upd_same) (Z3 _ _ upd_same) (Z4 _ _ upd_same) (A5 _ _ upd_same), end_sh, end_sh, ?_⟩
    rw [end_eq]
    exact q _
end
end Zk
namespace E19
open PySem PySem.Spec PyProof.Rows L2 Pen Dat Ki Fi Gr No Lf Bd Be Bf Bg Bo Bw Bx Cb Cc Wy Yd Yh Xg Xk Xh Yt Zk Gd He
def ds_is_between : DefD := ⟨("is_between", none), "is_between", "is_between", defArgs sBetween, defBody sBetween, defScope sBetween, [], []⟩
def ds_is_from : DefD := ⟨("is_from", none), "is_from", "is_from", defArgs sFrom, defBody sFrom, defScope sFrom, [], []⟩
def ds_is_row : DefD := ⟨("is_row", none), "is_row", "is_row", defArgs sRow, defBody sRow, defScope sRow, [], []⟩
def ds_is_row_between : DefD := ⟨("is_row_between", none), "is_row_between", "is_row_between", defArgs sRowB, defBody sRowB, defScope sRowB, [], []⟩
def ds_need_leaves : DefD := ⟨("need_leaves", none), "need_leaves", "need_leaves", defArgs sNeed, defBody sNeed, defScope sNeed, [], []⟩
def ds_are_gates : DefD := ⟨("are_gates", none), "are_gates", "are_gates", defArgs sGates, defBody sGates, defScope sGates, [], []⟩
def ds_node_values : DefD := ⟨("node_values", none), "node_values", "node_values", defArgs sNode, defBody sNode, defScope sNode, [], []⟩
def ds_literal_in : DefD := ⟨("literal_in", none), "literal_in", "literal_in", defArgs sLitIn, defBody sLitIn, defScope sLitIn, [], []⟩
def ds_put_into : DefD := ⟨("put_into", none), "put_into", "put_into", defArgs sPut, defBody sPut, defScope sPut, [], []⟩
def ds_own_leaves : DefD := ⟨("own_leaves", none), "own_leaves", "own_leaves", defArgs sOwnL, defBody sOwnL, defScope sOwnL, [], []⟩
def ds_made_anew : DefD := ⟨("made_anew", none), "made_anew", "made_anew", defArgs sAnew, defBody sAnew, defScope sAnew, [], []⟩
def ds_plain : DefD := ⟨("plain", none), "plain", "plain", defArgs sPlain, defBody sPlain, defScope sPlain, [], []⟩
def ds_needed_gates : DefD := ⟨("needed_gates", none), "needed_gates", "needed_gates", defArgs sNeeded, defBody sNeeded, defScope sNeeded, [], []⟩
def ds_cone : DefD := ⟨("cone", none), "cone", "cone", defArgs sCone, defBody sCone, defScope sCone, [], []⟩
def ds_are_known : DefD := ⟨("are_known", none), "are_known", "are_known", defArgs sKnown, defBody sKnown, defScope sKnown, [], []⟩
def ds_with_known : DefD := ⟨("with_known", none), "with_known", "with_known", defArgs sWith, defBody sWith, defScope sWith, [], []⟩
def ds__law_pen : DefD := ⟨("_law_pen", none), "_law_pen", "_law_pen", defArgs sPen, defBody sPen, defScope sPen, [], []⟩
def ds__law_draw : DefD := ⟨("_law_draw", none), "_law_draw", "_law_draw", defArgs sDraw, defBody sDraw, defScope sDraw, [], []⟩
def ds__law_pick : DefD := ⟨("_law_pick", none), "_law_pick", "_law_pick", defArgs sPick, defBody sPick, defScope sPick, [], []⟩
def ds__law_why : DefD := ⟨("_law_why", none), "_law_why", "_law_why", defArgs sWhy, defBody sWhy, defScope sWhy, [], []⟩
def ds_law : DefD := ⟨("law", none), "law", "law", defArgs sLaw, defBody sLaw, defScope sLaw, [], []⟩
def di_BadNumber___init__ : DefD := ⟨("BadNumber", some "__init__"), "__init__", "BadNumber.__init__", defArgs sNumI, defBody sNumI, defScope sNumI, [], []⟩
def di_BadRow___init__ : DefD := ⟨("BadRow", some "__init__"), "__init__", "BadRow.__init__", defArgs sRowI, defBody sRowI, defScope sRowI, [], []⟩
def di_Graph___init__ : DefD := ⟨("Graph", some "__init__"), "__init__", "Graph.__init__", defArgs sInit, defBody sInit, defScope sInit, [], []⟩
def di_Builder___init__ : DefD := ⟨("Builder", some "__init__"), "__init__", "Builder.__init__", defArgs sBInit, defBody sBInit, defScope sBInit, [], []⟩
def di_Builder_graph : DefD := ⟨("Builder", some "graph"), "graph", "Builder.graph", defArgs sBGraph, defBody sBGraph, defScope sBGraph, [], []⟩
def di_Builder_and_of : DefD := ⟨("Builder", some "and_of"), "and_of", "Builder.and_of", defArgs sAnd, defBody sAnd, defScope sAnd, [], []⟩
def fn : List DefD := [ds_is_between, ds_is_from, ds_is_row, ds_is_row_between, ds_need_leaves, ds_are_gates, ds_node_values, ds_literal_in, ds_put_into, ds_own_leaves, ds_made_anew, ds_plain, ds_needed_gates, ds_cone, ds_are_known, ds_with_known, ds__law_pen, ds__law_draw, ds__law_pick, ds__law_why, ds_law, di_BadNumber___init__, di_BadRow___init__, di_Graph___init__, di_Builder___init__, di_Builder_graph, di_Builder_and_of]
def fa : List Fa := [.glo "is_between", .glo "is_from", .glo "is_row", .glo "is_row_between", .glo "need_leaves", .glo "are_gates", .glo "node_values", .glo "literal_in", .glo "put_into", .glo "own_leaves", .glo "made_anew", .glo "plain", .glo "needed_gates", .glo "cone", .glo "are_known", .glo "with_known", .glo "_law_pen", .glo "_law_draw", .glo "_law_pick", .glo "_law_why", .glo "law", .glo "Graph", .glo "Builder", .glo "BadNumber", .glo "BadRow", .free "isinstance", .free "int", .free "bool", .free "tuple", .free "list", .free "len", .free "all", .free "abs", .free "range", .free "repr", .free "min", .free "max", .free "reversed", .cls "Graph", .mkr "Graph", .noat "Graph" "leaves", .noat "Graph" "gates", .cls "Builder", .mkr "Builder", .noat "Builder" "leaves", .noat "Builder" "gates", .noat "Builder" "standing", .meth "Builder" "and_of", .meth "Builder" "graph"]
abbrev cGraph (K : PySem.W.Frag) : Addr := ga K "Graph"
abbrev cBuilder (K : PySem.W.Frag) : Addr := ga K "Builder"
def exB (K : PySem.W.Frag) : Bool := (decide (PySem.W.findIn K (.ref (cGraph K)) "__class__" = some (some (.builtin "object.__class__"))) && (decide (PySem.W.specialIn K (.builtin "object.__class__") "__get__" = some (some (.builtin "getset_descriptor.__get__"))) && (decide (PySem.W.takesIn K (.builtin "object.__class__") = some true) && (decide (PySem.W.mroIn K (cGraph K) (.type "object") = some true) && (decide (PySem.W.kitOne K (.ref (cGraph K)) (.ref (cGraph K)) = some true) && (decide (PySem.W.kitOne K (.type "tuple") (.ref (cGraph K)) = some false) && (decide (PySem.W.exmOne K (.ref (ga K "BadNumber")) (.ref (ga K "BadNumber")) = some true) && (decide (PySem.W.exmOne K (.ref (ga K "BadRow")) (.ref (ga K "BadNumber")) = some false) && (decide (PySem.W.exmOne K (.ref (ga K "BadRow")) (.ref (ga K "BadRow")) = some true) && (decide (xfB K (ga K "BadNumber") = true) && (decide (xfB K (ga K "BadRow") = true) && (decide (PySem.W.findIn K (.ref (ga K "BadNumber")) "what" = some none) && (decide (PySem.W.findIn K (.ref (ga K "BadNumber")) "number" = some none) && (decide (PySem.W.findIn K (.ref (ga K "BadRow")) "row" = some none) && (decide (Exo.okB K (ga K "BadNumber") = true) && (decide (Exo.okB K (ga K "BadRow") = true) && (decide (PySem.W.findIn K (.ref (ga K "BadNumber")) "__init__" = some (some (.ref (fAd K ("BadNumber", some "__init__"))))) && (decide (PySem.W.typeIn K (.ref (fAd K ("BadNumber", some "__init__"))) = some (.type "function")) && (decide (PySem.W.findIn K (.ref (ga K "BadRow")) "__init__" = some (some (.ref (fAd K ("BadRow", some "__init__"))))) && (decide (PySem.W.typeIn K (.ref (fAd K ("BadRow", some "__init__"))) = some (.type "function")) && true))))))))))))))))))))
abbrev R : PySem.W.OpenRow := PySem.W.OpenLaw.row PySem.Challenge.rw_everycycle_k19_graphs_refused
abbrev hk : PySem.W.Hook := hookX 6 fa fn [] [("law", none)] exB
def ob (s : PySem.W.SharedT) : AlX := obsX 6 fa fn [] [("law", none)] exB (HandSHeadRun.getT s)
theorem ob_eq (s : PySem.W.SharedT) : ob s = hk.obs s.abs := obsX_eq (HandSHeadRun.getT_eq s)
theorem run (w : World) : HandSHeadRun.RunEq R (PySem.W.view R.prog [29]) hk ob 4000 [("CycleError" : PySem.Str), ("BadNumber" : PySem.Str), ("BadRow" : PySem.Str), ("is_between" : PySem.Str), ("is_from" : PySem.Str), ("is_row" : PySem.Str), ("is_row_between" : PySem.Str), ("Graph" : PySem.Str), ("need_leaves" : PySem.Str), ("are_gates" : PySem.Str), ("node_values" : PySem.Str), ("Builder" : PySem.Str), ("literal_in" : PySem.Str), ("put_into" : PySem.Str), ("own_leaves" : PySem.Str), ("made_anew" : PySem.Str), ("plain" : PySem.Str), ("needed_gates" : PySem.Str), ("cone" : PySem.Str), ("are_known" : PySem.Str), ("with_known" : PySem.Str), ("_law_pen" : PySem.Str), ("_law_draw" : PySem.Str), ("_law_pick" : PySem.Str), ("_law_why" : PySem.Str)] w := by
  intro os
  kernel_rfl
theorem and2 {a b : Bool} (h : (a && b) = true) : a = true ∧ b = true := Bool.and_eq_true_iff.mp h
theorem facts {P : Program} {w : World} {K : PySem.W.Frag} {h : Heap} {mg : Str → Option Value} {f : Addr} (X : K.In h) (G : h.Ns mainGlobals mg) (hfa : mg ("law" : Str) = some (.ref f)) (c : SaysX fa fn [] [("law", none)] exB w h K) :
    ∃ fd : FuncData, (∀ (s : Shared) (v : Value), BindsTo s fd ⟨[v], []⟩ [("_law_script", v)]) ∧ ∀ base : Heap, K.In base → base.Ns mainGlobals mg → LamX.TabB base mg (cT K ("law", none)).1 (cT K ("law", none)).2 → FnG P w K mg base CX0 9 f fd ["_law_script"] (Zk.spLaw K (cT K ("law", none)).2) := by
  have cd := c.t.d
  obtain ⟨fd0, F0⟩ := cd.def_ 0 (d := ds_is_between) rfl
  obtain ⟨fd1, F1⟩ := cd.def_ 1 (d := ds_is_from) rfl
  obtain ⟨fd2, F2⟩ := cd.def_ 2 (d := ds_is_row) rfl
  obtain ⟨fd3, F3⟩ := cd.def_ 3 (d := ds_is_row_between) rfl
  obtain ⟨fd4, F4⟩ := cd.def_ 4 (d := ds_need_leaves) rfl
  obtain ⟨fd5, F5⟩ := cd.def_ 5 (d := ds_are_gates) rfl
  obtain ⟨fd6, F6⟩ := cd.def_ 6 (d := ds_node_values) rfl
  obtain ⟨fd7, F7⟩ := cd.def_ 7 (d := ds_literal_in) rfl
  obtain ⟨fd8, F8⟩ := cd.def_ 8 (d := ds_put_into) rfl
  obtain ⟨fd9, F9⟩ := cd.def_ 9 (d := ds_own_leaves) rfl
  obtain ⟨fd10, F10⟩ := cd.def_ 10 (d := ds_made_anew) rfl
  obtain ⟨fd11, F11⟩ := cd.def_ 11 (d := ds_plain) rfl
  obtain ⟨fd12, F12⟩ := cd.def_ 12 (d := ds_needed_gates) rfl
  obtain ⟨fd13, F13⟩ := cd.def_ 13 (d := ds_cone) rfl
  obtain ⟨fd14, F14⟩ := cd.def_ 14 (d := ds_are_known) rfl
  obtain ⟨fd15, F15⟩ := cd.def_ 15 (d := ds_with_known) rfl
  obtain ⟨fd16, F16⟩ := cd.def_ 16 (d := ds__law_pen) rfl
  obtain ⟨fd17, F17⟩ := cd.def_ 17 (d := ds__law_draw) rfl
  obtain ⟨fd18, F18⟩ := cd.def_ 18 (d := ds__law_pick) rfl
  obtain ⟨fd19, F19⟩ := cd.def_ 19 (d := ds__law_why) rfl
  obtain ⟨fd20, F20⟩ := cd.def_ 20 (d := ds_law) rfl
  obtain ⟨fd21, F21⟩ := cd.def_ 21 (d := di_BadNumber___init__) rfl
  obtain ⟨fd22, F22⟩ := cd.def_ 22 (d := di_BadRow___init__) rfl
  obtain ⟨fd23, F23⟩ := cd.def_ 23 (d := di_Graph___init__) rfl
  obtain ⟨fd24, F24⟩ := cd.def_ 24 (d := di_Builder___init__) rfl
  obtain ⟨fd25, F25⟩ := cd.def_ 25 (d := di_Builder_graph) rfl
  obtain ⟨fd26, F26⟩ := cd.def_ 26 (d := di_Builder_and_of) rfl
  have glo : ∀ i x, fa[i]? = some (Fa.glo x) → mg x = some (.ref (ga K x)) := fun i x e => glo_ok X G (cd.fact i e)
  have fre : ∀ i x, fa[i]? = some (Fa.free x) → mg x = none := fun i x e => free_ok X G (cd.fact i e)
  have e := hfa.symm.trans (glo 20 "law" rfl)
  cases e
  have b0 : Binds K fd0 ["value", "least", "most"] [] := F0.bindsN fun _ _ _ _ _ _ us hl => match us, hl with | [_, _, _], _ => rfl
  have b1 : Binds K fd1 ["value", "least"] [] := F1.bindsN fun _ _ _ _ _ _ us hl => match us, hl with | [_, _], _ => rfl
  have b2 : Binds K fd2 ["value"] [] := F2.bindsN fun _ _ _ _ _ _ us hl => match us, hl with | [_], _ => rfl
  have b3 : Binds K fd3 ["value", "many", "least", "most"] [] := F3.bindsN fun _ _ _ _ _ _ us hl => match us, hl with | [_, _, _, _], _ => rfl
  have b4 : Binds K fd4 ["leaves"] [] := F4.bindsN fun _ _ _ _ _ _ us hl => match us, hl with | [_], _ => rfl
  have b5 : Binds K fd5 ["leaves", "value"] [] := F5.bindsN fun _ _ _ _ _ _ us hl => match us, hl with | [_, _], _ => rfl
  have b6 : Binds K fd6 ["graph", "bits"] [] := F6.bindsN fun _ _ _ _ _ _ us hl => match us, hl with | [_, _], _ => rfl
  have b7 : Binds K fd7 ["places", "literal"] [] := F7.bindsN fun _ _ _ _ _ _ us hl => match us, hl with | [_, _], _ => rfl
  have b8 : Binds K fd8 ["builder", "graph", "leaves", "literals"] [] := F8.bindsN fun _ _ _ _ _ _ us hl => match us, hl with | [_, _, _, _], _ => rfl
  have b9 : Binds K fd9 ["graph"] [] := F9.bindsN fun _ _ _ _ _ _ us hl => match us, hl with | [_], _ => rfl
  have b10 : Binds K fd10 ["graph", "leaves", "literals"] [] := F10.bindsN fun _ _ _ _ _ _ us hl => match us, hl with | [_, _, _], _ => rfl
  have b11 : Binds K fd11 ["graph", "literals"] [] := F11.bindsN fun _ _ _ _ _ _ us hl => match us, hl with | [_, _], _ => rfl
  have b12 : Binds K fd12 ["graph", "literals"] [] := F12.bindsN fun _ _ _ _ _ _ us hl => match us, hl with | [_, _], _ => rfl
  have b13 : Binds K fd13 ["graph", "literals"] [] := F13.bindsN fun _ _ _ _ _ _ us hl => match us, hl with | [_, _], _ => rfl
  have b14 : Binds K fd14 ["leaves", "value"] [] := F14.bindsN fun _ _ _ _ _ _ us hl => match us, hl with | [_, _], _ => rfl
  have b15 : Binds K fd15 ["graph", "literals", "known"] [] := F15.bindsN fun _ _ _ _ _ _ us hl => match us, hl with | [_, _, _], _ => rfl
  have b16 : Binds K fd16 ["_law_script"] [] := F16.bindsN fun _ _ _ _ _ _ us hl => match us, hl with | [_], _ => rfl
  have b17 : Binds K fd17 ["_law_pen_here", "_law_many"] [] := F17.bindsN fun _ _ _ _ _ _ us hl => match us, hl with | [_, _], _ => rfl
  have b18 : Binds K fd18 ["_law_pen_here", "_law_some"] [] := F18.bindsN fun _ _ _ _ _ _ us hl => match us, hl with | [_, _], _ => rfl
  have b19 : Binds K fd19 ["_law_call"] [] := F19.bindsN fun _ _ _ _ _ _ us hl => match us, hl with | [_], _ => rfl
  have b21 : Binds K fd21 ["self", "what", "number"] [] := F21.bindsN fun _ _ _ _ _ _ us hl => match us, hl with | [_, _, _], _ => rfl
  have b22 : Binds K fd22 ["self", "row"] [] := F22.bindsN fun _ _ _ _ _ _ us hl => match us, hl with | [_, _], _ => rfl
  have b23 : Binds K fd23 ["self", "leaves", "gates"] [] := F23.bindsN fun _ _ _ _ _ _ us hl => match us, hl with | [_, _, _], _ => rfl
  have b24 : Binds K fd24 ["self", "leaves"] [] := F24.bindsN fun _ _ _ _ _ _ us hl => match us, hl with | [_, _], _ => rfl
  have b25 : Binds K fd25 ["self"] [] := F25.bindsN fun _ _ _ _ _ _ us hl => match us, hl with | [_], _ => rfl
  have b26 : Binds K fd26 ["self", "one", "other"] [] := F26.bindsN fun _ _ _ _ _ _ us hl => match us, hl with | [_, _, _], _ => rfl
  have b := FunD.bindsA (ps := ["_law_script"]) F20 fun _ _ _ _ _ _ us hl => match us, hl with | [_], _ => rfl
  have g0 := glo 0 "is_between" rfl
  have g1 := glo 1 "is_from" rfl
  have g2 := glo 2 "is_row" rfl
  have g3 := glo 3 "is_row_between" rfl
  have g4 := glo 4 "need_leaves" rfl
  have g5 := glo 5 "are_gates" rfl
  have g6 := glo 6 "node_values" rfl
  have g7 := glo 7 "literal_in" rfl
  have g8 := glo 8 "put_into" rfl
  have g9 := glo 9 "own_leaves" rfl
  have g10 := glo 10 "made_anew" rfl
  have g11 := glo 11 "plain" rfl
  have g12 := glo 12 "needed_gates" rfl
  have g13 := glo 13 "cone" rfl
  have g14 := glo 14 "are_known" rfl
  have g15 := glo 15 "with_known" rfl
  have g16 := glo 16 "_law_pen" rfl
  have g17 := glo 17 "_law_draw" rfl
  have g18 := glo 18 "_law_pick" rfl
  have g19 := glo 19 "_law_why" rfl
  have g20 := glo 20 "law" rfl
  have gGraph := glo 21 "Graph" rfl
  have gBuilder := glo 22 "Builder" rfl
  have gBadNumber := glo 23 "BadNumber" rfl
  have gBadRow := glo 24 "BadRow" rfl
  have z_isinstance := fre 25 "isinstance" rfl
  have z_int := fre 26 "int" rfl
  have z_bool := fre 27 "bool" rfl
  have z_tuple := fre 28 "tuple" rfl
  have z_list := fre 29 "list" rfl
  have z_len := fre 30 "len" rfl
  have z_all := fre 31 "all" rfl
  have z_abs := fre 32 "abs" rfl
  have z_range := fre 33 "range" rfl
  have z_repr := fre 34 "repr" rfl
  have z_min := fre 35 "min" rfl
  have z_max := fre 36 "max" rfl
  have z_reversed := fre 37 "reversed" rfl
  have clGraph := cls_ok (cd.fact 38 (f := .cls "Graph") rfl)
  have mkGraph := mkr_ok (cd.fact 39 (f := .mkr "Graph") rfl)
  have nGraph_leaves := noat_ok (cd.fact 40 (f := .noat "Graph" "leaves") rfl)
  have nGraph_gates := noat_ok (cd.fact 41 (f := .noat "Graph" "gates") rfl)
  have clBuilder := cls_ok (cd.fact 42 (f := .cls "Builder") rfl)
  have mkBuilder := mkr_ok (cd.fact 43 (f := .mkr "Builder") rfl)
  have nBuilder_leaves := noat_ok (cd.fact 44 (f := .noat "Builder" "leaves") rfl)
  have nBuilder_gates := noat_ok (cd.fact 45 (f := .noat "Builder" "gates") rfl)
  have nBuilder_standing := noat_ok (cd.fact 46 (f := .noat "Builder" "standing") rfl)
  have meBuilder_and_of := meth_ok (cd.fact 47 (f := .meth "Builder" "and_of") rfl)
  have meBuilder_graph := meth_ok (cd.fact 48 (f := .meth "Builder" "graph") rfl)
  have r0 := c.more
  obtain ⟨q0, r1⟩ := and2 r0
  have e1 := of_decide_eq_true q0
  obtain ⟨q1, r2⟩ := and2 r1
  have e2 := of_decide_eq_true q1
  obtain ⟨q2, r3⟩ := and2 r2
  have e3 := of_decide_eq_true q2
  obtain ⟨q3, r4⟩ := and2 r3
  have e4 := of_decide_eq_true q3
  obtain ⟨q4, r5⟩ := and2 r4
  have e5 := of_decide_eq_true q4
  obtain ⟨q5, r6⟩ := and2 r5
  have e6 := of_decide_eq_true q5
  obtain ⟨q6, r7⟩ := and2 r6
  have x1 := of_decide_eq_true q6
  obtain ⟨q7, r8⟩ := and2 r7
  have x2 := of_decide_eq_true q7
  obtain ⟨q8, r9⟩ := and2 r8
  have x3 := of_decide_eq_true q8
  obtain ⟨q9, r10⟩ := and2 r9
  have x4 := of_decide_eq_true q9
  obtain ⟨q10, r11⟩ := and2 r10
  have x5 := of_decide_eq_true q10
  obtain ⟨q11, r12⟩ := and2 r11
  have y1 := of_decide_eq_true q11
  obtain ⟨q12, r13⟩ := and2 r12
  have y2 := of_decide_eq_true q12
  obtain ⟨q13, r14⟩ := and2 r13
  have y3 := of_decide_eq_true q13
  obtain ⟨q14, r15⟩ := and2 r14
  have o1 := of_decide_eq_true q14
  obtain ⟨q15, r16⟩ := and2 r15
  have o2 := of_decide_eq_true q15
  obtain ⟨q16, r17⟩ := and2 r16
  have i1 := of_decide_eq_true q16
  obtain ⟨q17, r18⟩ := and2 r17
  have i2 := of_decide_eq_true q17
  obtain ⟨q18, r19⟩ := and2 r18
  have j1 := of_decide_eq_true q18
  obtain ⟨q19, r20⟩ := and2 r19
  have j2 := of_decide_eq_true q19
  have ki : Ki.Tx mg := ⟨z_isinstance, z_int, z_bool, z_tuple, z_list, z_len, z_all⟩
  have pt : Pen.Txt mg := ⟨z_len, z_int, z_list⟩
  have lf : Lf.Tx mg := ⟨pt, z_abs, z_range, z_tuple⟩
  have tg : Gr.Tx K mg (cGraph K) := ⟨ki, clGraph, nGraph_leaves, nGraph_gates, gGraph, e1, e2, e3, fun e => .ins e clGraph e1 e2 e3 e4, e5, e6⟩
  have tB : Bd.Tx K mg (cBuilder K) := ⟨ki, clBuilder, nBuilder_leaves, nBuilder_gates, nBuilder_standing⟩
  have tY : Be.Ty K mg (cBuilder K) _ := ⟨tB, meBuilder_and_of⟩
  have tz : Bo.Tz mg := ⟨z_min, z_max, z_int⟩
  have tw : Bw.Tw K mg (cGraph K) (cBuilder K) _ _ := ⟨tg, lf, tY, meBuilder_graph, tz⟩
  have tc : Cb.Tc K mg (cGraph K) (cBuilder K) _ _ := ⟨tw, z_reversed⟩
  have wy : Yh.Tw K mg (ga K "BadNumber") (ga K "BadRow") := ⟨gBadNumber, gBadRow, x1, x2, x3, xfB_ok x4, xfB_ok x5, y1, y2, y3, z_repr⟩
  have XT : Xg.Te K mg (ga K "BadNumber") (ga K "BadRow") (fAd K ("BadNumber", some "__init__")) (fAd K ("BadRow", some "__init__")) := ⟨wy, ⟨(Exo.okB_ok o1).oe, i1, i2⟩, ⟨(Exo.okB_ok o2).oe, j1, j2⟩⟩
  refine ⟨fd20, fun s v => b s [v] rfl, fun base _ _ TB => ?_⟩
  have hcv : ∀ cv, fd20.code = cv → cv = .ref (cT K ("law", none)).1 := fun cv hc => by
    obtain ⟨_, _, _, _, _, _, _, cdv, _, _, e, lk, hcd, _, _⟩ := F20.ex
    obtain ⟨c0, rfl⟩ := codeIn_ref hcd
    have hf : fd20.code = .ref c0 := by rw [e]
    rw [← hc, hf]
    exact congrArg Value.ref (codeOf_eq (p := ("law", none)) lk hf).symm
  have G0 : FnOk P w K mg base CX0 _ _ _ _ _ := ok_between F0 ki
  have G1 : FnOk P w K mg base CX0 _ _ _ _ _ := ok_from F1 ki
  have G2 : FnOk P w K mg base CX0 _ _ _ _ _ := ok_row F2 ki
  have G3 : FnOk P w K mg base CX0 _ _ _ _ _ := ok_rowB F3 ki F0 g0 F2 g2
  have G4 : FnOk P w K mg base CX0 _ _ _ _ _ := ok_need F4 ki F1 g1
  have G5 : FnOk P w K mg base CX0 _ _ _ _ _ := ok_gates F5 ki F2 g2 F3 g3 F0 g0
  have G23 : FnOk P w K mg base CX0 _ _ _ _ _ := ok_init F23 tg G4 g4 F4.kp b4 G5 g5 F5.kp b5
  have G24 : FnOk P w K mg base CX0 _ _ _ _ _ := ok_binit F24 tB G4 g4 F4.kp b4
  have G25 : FnOk P w K mg base CX0 _ _ _ _ _ := ok_bgraph F25 tB tg mkGraph G23 b23
  have G26 : FnOk P w K mg base CX0 _ _ _ _ _ := ok_and F26 tB
  have G6 : FnOk P w K mg base CX0 _ _ _ _ _ := ok_node F6 tg G3 g3 F3.kp b3
  have G7 : FnOk P w K mg base CX0 _ _ _ _ _ := ok_litin F7
  have G8 : FnOk P w K mg base CX0 _ _ _ _ _ := ok_put F8 tY tg G26 b26 F7 g7
  have G9 : FnOk P w K mg base CX0 _ _ _ _ _ := ok_ownl F9 tc
  have G10 : FnOk P w K mg base CX0 _ _ _ _ _ := ok_anew F10 tw G25 b25 G8 g8 F8.kp b8 mkBuilder G24 gBuilder b24
  have G11 : FnOk P w K mg base CX0 _ _ _ _ _ := ok_plain F11 G10 g10 F10.kp b10 G9 g9 F9.kp b9
  have G12 : FnOk P w K mg base CX0 _ _ _ _ _ := ok_needed F12 tc
  have G13 : FnOk P w K mg base CX0 _ _ _ _ _ := ok_cone F13 tc G12 g12 F12.kp b12 G9 g9 F9.kp b9 G7 g7 F7.kp b7 mkGraph G23 gGraph b23
  have G14 : FnOk P w K mg base CX0 _ _ _ _ _ := ok_known F14 tg G2 g2 F2.kp b2 G0 g0 F0.kp b0
  have G15 : FnOk P w K mg base CX0 _ _ _ _ _ := ok_with F15 tg G14 g14 F14.kp b14 G9 g9 F9.kp b9 G10 g10 F10.kp b10
  have G16 : FnOk P w K mg base CX0 _ _ _ _ _ := ok_pen F16 pt
  have G17 : FnOk P w K mg base CX0 _ _ _ _ _ := ok_draw F17 pt
  have G18 : FnOk P w K mg base CX0 _ _ _ _ _ := ok_pick F18 pt F17 g17
  have G21 : FnOk P w K mg base CX0 _ _ _ _ _ := Xg.ok_numi F21 XT
  have G22 : FnOk P w K mg base CX0 _ _ _ _ _ := Xg.ok_rowi F22 XT
  have GRD : FnOk P w K mg base CX0 1 _ _ _ (spRowD K) := ok_rowD F2 ki
  have GGD : FnOk P w K mg base CX0 3 _ _ _ (spGatesD K) := ok_gatesD F5 GRD g2 F2.kp b2
  have GL2 : FnOk P w K mg base (L2.CX P w) 3 _ _ _ (spNeed2 K (ga K "BadNumber")) := ok_need2 F4 XT G1 g1 F1.kp b1 G21 b21
  have GIX : FnOk P w K mg base (L2.CX P w) 4 _ _ _ (spGIX K (cGraph K) (ga K "BadNumber") (ga K "BadRow")) := ok_gix F23 XT GL2 g4 F4.kp b4 (fn_or G5 GGD) g5 F5.kp b5 G22 b22
  have GBX : FnOk P w K mg base (L2.CX P w) 4 _ _ _ (spBIX K (cBuilder K) (ga K "BadNumber")) := ok_bix F24 GL2 g4 F4.kp b4
  have GVX : FnOk P w K mg base (L2.CX P w) 3 _ _ _ (spNodeX K (cGraph K) (ga K "BadRow")) := ok_nodex F6 tg XT G3 g3 F3.kp b3 G22 b22
  have GKX : FnOk P w K mg base CX0 2 _ _ _ (spKnownX K) := ok_knownX F14 tg G2 g2 F2.kp b2 G0 g0 F0.kp b0
  have GHX : FnOk P w K mg base (L2.CX P w) 3 _ _ _ (spWithX K (cGraph K) (ga K "BadRow")) := ok_withx F15 tg XT GKX g14 F14.kp b14 G22 b22
  exact ok_law F20 tg XT z_repr TB hcv F19 g19 mkGraph G23 gGraph b23 GIX mkBuilder GBX gBuilder b24 G16 g16 F16.kp b16 G17 g17 F17.kp b17 G18 g18 F18.kp b18 G6 g6 F6.kp b6 G15 g15 F15.kp b15 G11 g11 F11.kp b11 G13 g13 F13.kp b13 GVX GHX
end E19
open PySem PySem.W PySem.Calls PyProof.Rows
theorem PySem.Challenge.cw_everycycle_k19_graphs_refused_holds : PySem.Challenge.rw_everycycle_k19_graphs_refused.Holds := by
  w_on; o_law
  refine HandSHeadRun.head_any (r := OpenLaw.row PySem.Challenge.rw_everycycle_k19_graphs_refused) (q := view (OpenLaw.row PySem.Challenge.rw_everycycle_k19_graphs_refused).prog [29]) (H := E19.hk) (ob := E19.ob) (M := 4000) (loose := [("CycleError" : PySem.Str), ("BadNumber" : PySem.Str), ("BadRow" : PySem.Str), ("is_between" : PySem.Str), ("is_from" : PySem.Str), ("is_row" : PySem.Str), ("is_row_between" : PySem.Str), ("Graph" : PySem.Str), ("need_leaves" : PySem.Str), ("are_gates" : PySem.Str), ("node_values" : PySem.Str), ("Builder" : PySem.Str), ("literal_in" : PySem.Str), ("put_into" : PySem.Str), ("own_leaves" : PySem.Str), ("made_anew" : PySem.Str), ("plain" : PySem.Str), ("needed_gates" : PySem.Str), ("cone" : PySem.Str), ("are_known" : PySem.Str), ("with_known" : PySem.Str), ("_law_pen" : PySem.Str), ("_law_draw" : PySem.Str), ("_law_pick" : PySem.Str), ("_law_why" : PySem.Str)]) (d := HandSHeadRun.topDef (OpenLaw.row PySem.Challenge.rw_everycycle_k19_graphs_refused).prog 29) (kwd := []) E19.ob_eq
    (by kernel_rfl) (fun s => by kernel_rfl) E19.run (by kernel_rfl) (by kernel_rfl) (by kernel_rfl) (by rfl) (by first | assumption | decide +kernel) (by decide +kernel) ⟨rfl, rfl, rfl, rfl, rfl, by decide +kernel⟩ ?hw ?hc
  case hw => w_witness2
  case hc =>
    refine Yt.walk_goT (l := PySem.Challenge.rw_everycycle_k19_graphs_refused) (n := 63) (k := 9) (x := "_law_script") (CX := fun _ => L2.CX0) rfl (by decide) (by kernel_rfl) ⟨rfl, by decide, by decide⟩ ?F (fun _ _ _ _ _ z => z)
    intro w mg fa h Y G hmg0
    obtain ⟨K, KX, c⟩ := Y
    have hmg : mg ("law" : PySem.Str) = some (.ref fa) := by
      have e : (HandSHeadRun.topDef (OpenLaw.row PySem.Challenge.rw_everycycle_k19_graphs_refused).prog 29).name = ("law" : PySem.Str) := by kernel_rfl
      rw [← e]
      exact hmg0
    obtain ⟨fd, hb, hF⟩ := E19.facts (P := (PySem.Challenge.rw_everycycle_k19_graphs_refused).prog) (w := w) KX G hmg c
    exact ⟨K, fd, Zk.spLaw K (He.cT K ("law", none)).2, (He.cT K ("law", none)).1, (He.cT K ("law", none)).2, KX, c.empty _ List.mem_cons_self, c.out _ List.mem_cons_self, c.hd _ List.mem_cons_self, hb, fun H a ns hl hT hS => ⟨a, ns, rfl, hS, hl, hT, fun _ => rfl⟩, hF⟩
