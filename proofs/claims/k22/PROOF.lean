import PyProof.Rows.All
import Wide.All
import OpenK.AllK
import Wide.FinOn
import Lean
import HandS.ForMost
import HandS.Codes
import HandS.Defaults
import HandS.Wide
import HandS.DeepEq
import HandS.Exc
import HandS.ExcInit
import HandS.ExcValue
import HandS.IsInst
import HandS.TupAny
import HandS.OwnEq
import HandS.Star
import HandS.SortInts
import HandS.Conv
import HandS.Style
import HandS.Head0
import HandS.Head1
import HandS.Head2
import HandS.HeadEnd
import HandS.HeadHook1
import HandS.HeadHook2
import HandS.HeadHook3
import HandS.HeadHook4
import HandS.ExcIs
import HandS.ExcField
import KE.KExcIs
import KE.GoesEnum
import HandS.Lambda
import HandS.EndTab
import HandS.ExcField
import HandS.ExcInit
import HandS.ExcIs
import HandS.NoneIn
import PySem.Challenge.RW_everycycle_k22_whole_unrolled_cycles
import HandS.Deep
import HandS.TupMul
import HandS.CallLocal
set_option Elab.async false
set_option linter.all false
set_option maxRecDepth 100000
set_option maxHeartbeats 4000000
namespace Gd
open PySem PySem.Spec PyProof.Rows L2
/-! ## What a def does where no repr is under way: the promise of FnOk, for such callers alone -/
structure FnG (P : Program) (w : World) (K : PySem.W.Frag) (mg : Str → Option Value) (base : Heap) (CX : CXT) (k : Nat) (f : Addr) (fd : FuncData) (ps : List Str) (sp : Sp) : Prop where
  many : ∀ vs H Q E, sp vs H Q E → vs.length = ps.length
  go : ∀ (A : Around) (fs : List Env) (s : Shared) (H : Hp) (ag : Args) (us : List Value) (vs : List V) (Q : VK) (E : XK), A.guards = some [] → Room k A → Env0 P w K mg base A fs s H →
    BindsTo s fd ag (ps.zip us) → Vals vs us → sp vs H Q E → codeAny (model P w) A (.call (.ref f) ag) (CR CX fs P w H s Q E) s
section
variable {P : Program} {w : World} {K : PySem.W.Frag} {mg : Str → Option Value} {base : Heap} {CX : CXT} {k : Nat} {f : Addr} {fd : FuncData} {ps : List Str} {sp : Sp}
theorem FnG.of (F : FnOk P w K mg base CX k f fd ps sp) : FnG P w K mg base CX k f fd ps sp := ⟨F.len, fun A fs s H ag us vs Q E _ => F.run A fs s H ag us vs Q E⟩
/-- from the def's body -/
theorem FnG.mk_of {x qual : Str} {params : Arguments} {body : List Stmt} {scope : Scope} {dvs : List V} {kws : List (Str × V)} {N : List Str}
    (F : FunD K x qual params body scope dvs kws f fd) (S : FnScope N ps scope) (many : ∀ vs H Q E, sp vs H Q E → vs.length = ps.length)
    (walk : ∀ (cv : Value) (A : Around) (fs : List Env) (s : Shared) (H : Hp) (vs : List V) (Q : VK) (E : XK), A.guards = some [] → Room k (A.deeper (envOfC qual scope s.heap.objs.size f cv)) → sp vs H Q E →
      ∃ t, PSs (cxOf CX P w K mg base N qual scope f cv A fs s H E) body t ∧ t { nx := fun _ H' => Q .non H', rt := Q } (start N vs) H) :
    FnG P w K mg base CX (k + 1) f fd ps sp := by
  obtain ⟨_, _, _, _, _, _, _, cv, _, _, rfl, look, code, _, _⟩ := F.ex
  refine ⟨many, fun A fs s H ag us vs Q E hg room e bind rel prom => ?_⟩
  have kin : K.In s.heap := e.mod.kin.keeps fun b u z => (e.bs b u z).1
  have kinds : ∀ y ∈ ps.zip us, scope.names.lookup y.1 = some .local ∨ (scope.names.lookup y.1 = some .cell ∧ ((cellsFrom (s.heap.objs.size + 1) scope.names []).lookup y.1).isSome = true) := by
    rintro ⟨y, u⟩ hy
    rcases S.par y (List.of_mem_zip hy).1 with q | q
    · exact Or.inl q
    · exact Or.inr ⟨q, PySem.W.cellsFrom_some _ _ _ (Or.inl q)⟩
  refine codeAny_call_function room.depth (kin _ _ look) rfl S.co S.gen rfl (PySem.W.codeRec_of kin code) (bind _ _ _ _ ?_)
  refine wpAny_newFunctionEnv_cells S.kind kinds ?_
  rintro env rfl s1 hs1
  refine ⟨(e.mod.nolimit.keeps fun b u z => (e.bs b u z).1).keeps hs1.toInCall.keep, codeAny_func ?_⟩
  obtain ⟨t, ht, q⟩ := walk cv A fs s H vs Q E hg (room.deeper _) prom
  have I := inv_start (CX := CX) (E := E) S room.hd e (many _ _ _ _ prom) rel hs1
  refine wpAny_mono (ht.run [] s1 (start N vs) H _ I q) (fun fl s2 z => ?_) (fun _ _ z => z)
  match fl, z with
  | .ret u, ⟨v, σ', H', J, rv, q⟩ => exact ⟨v, H', J.os, J.bare, J.base, J.hok, rv, q⟩
  | .next, ⟨σ', H', J, q⟩ => exact ⟨V.non, H', J.os, J.bare, J.base, J.hok, rfl, q⟩
  | .brk, ⟨_, _, _, q⟩ => exact q.elim
  | .cont, ⟨_, _, _, q⟩ => exact q.elim
end
/-- the script's object -/
abbrev scr (vs : List Value) : Obj := { cls := .type "list", data := .seq vs.toArray }
/-- the heap in which the script alone is tracked, if the top did not write it -/
def onlyScr (K : PySem.W.Frag) (a : Addr) (vs : List Value) (ns : List Int) : Hp := fun b => if b = a ∧ (K.lookup a).isNone = true then some (.frz (scr vs) (.lst (ns.map V.int))) else none
theorem onlyScr_get {K : PySem.W.Frag} {a b : Addr} {vs : List Value} {ns : List Int} {o : HO} (h : onlyScr K a vs ns b = some o) : b = a ∧ K.lookup a = none ∧ o = .frz (scr vs) (.lst (ns.map V.int)) := by
  unfold onlyScr at h
  split at h
  · rename_i c
    exact ⟨c.1, Option.isNone_iff_eq_none.mp c.2, (Option.some.inj h).symm⟩
  · cases h
/-- the law is called with its script -/
theorem law_go {P : Program} {w : World} {K : PySem.W.Frag} {mg mb : Str → Option Value} {CX : CXT} {k : Nat} {f a : Addr} {fd : FuncData} {x : Str} {sp : Sp} {s : Shared} {vs : List Value} {ns : List Int}
    (kin : K.In s.heap) (hm : s.heap.Ns mainGlobals mg) (hb : s.heap.Ns builtinsNs mb) (hbb : ∀ y : Str, y ≠ "__name__" → mb y = bootBuiltins y) (lim : s.heap.NoLimit) (hgen : s.gens = #[])
    (ha : s.heap.get? a = some (scr vs)) (hi : IntsAre vs ns) (hl : ns.length ≤ sizeLine) (hr : Room k callerA)
    (F : ∀ base : Heap, K.In base → base.Ns mainGlobals mg → FnG P w K mg base CX k f fd [x] sp) (bind : ∀ (s : Shared) (u : Value), BindsTo s fd ⟨[u], []⟩ [(x, u)])
    (prom : ∀ H : Hp, Only H → SqL K H a (ns.map V.int) → sp [.ref a] H (fun v _ => v = .bl true) fun _ _ _ => False)
    (none_out : ∀ H e s', CX [] H s (fun _ _ _ => False) e s' → False) :
    codeAny (model P w) callerA (.call (.ref f) ⟨[.ref a], []⟩) (fun r s' => r = .ok (.ret (.bool true)) ∧ OldK s.heap s'.heap ∧ s'.os = s.os ∧ AllBare s'.gens) s := by
  have hv := vals_ints hi
  have hlen := hi.length
  let H := onlyScr K a vs ns
  have gone : ∀ {b : Addr} {o : Obj}, K.lookup b = some o → H b = none := fun {b o} q => by
    cases e : H b with
    | none => rfl
    | some u =>
      obtain ⟨rfl, n, _⟩ := onlyScr_get e
      rw [n] at q
      cases q
  have ns_free : ∀ {b : Addr} {o : Obj} {es : Array DictEntry} {ep : Nat}, s.heap.get? b = some o → o.data = .dict es ep → H b = none := fun {b o es ep} q d => by
    cases e : H b with
    | none => rfl
    | some u =>
      obtain ⟨rfl, _, _⟩ := onlyScr_get e
      rw [ha] at q
      cases q
      cases d
  have stays : ∀ {b : Addr} {m : Str → Option Value}, s.heap.Ns b m → (hidT s.heap H).Ns b m := fun ⟨o, es, ep, q, d, r⟩ => ⟨o, es, ep, hidT_get q (ns_free q d), d, r⟩
  have kinT : K.In (hidT s.heap H) := fun b o q => hidT_get (kin b o q) (gone q)
  have hok : HOk P w H s.heap := fun b u q => by
    obtain ⟨rfl, _, rfl⟩ := onlyScr_get q
    exact ⟨ha, by rw [List.length_map]; exact hl, vs, _, hv, ha⟩
  have hO : Only H := fun b => by
    cases e : H b with
    | none => exact Or.inl rfl
    | some u =>
      obtain ⟨_, _, rfl⟩ := onlyScr_get e
      exact Or.inr ⟨_, _, rfl⟩
  have hS : SqL K H a (ns.map V.int) := by
    cases e : K.lookup a with
    | none => exact .inl (.inr ⟨scr vs, if_pos ⟨rfl, by rw [e]; rfl⟩⟩)
    | some o =>
      have q := kin a o e
      rw [ha] at q
      cases q
      exact .inr ⟨_, vs.toArray, _, e, rfl, rfl, rfl, by rw [List.size_toArray, hlen]; exact hl, by simpa using hv⟩
  obtain ⟨mc, l1, l2⟩ := lim
  have e0 : Env0 P w K mg (hidT s.heap H) callerA [] s H := by
    refine ⟨rfl, ⟨kinT, stays hm, ⟨mb, stays hb, hbb⟩, ⟨mc, stays l1, l2⟩⟩, fun b o q => of_hidT q, Nat.le_of_eq (hidT_size _ _), trivial, fun b q => ?_, hok, .of_eq hgen⟩
    cases q
  refine codeAny_mono ((F _ kinT (stays hm)).go callerA [] s H ⟨[.ref a], []⟩ [.ref a] [.ref a] _ _ rfl hr e0 (bind s (.ref a)) (.cons rfl .nil) (prom H hO hS)) fun r s' h => ?_
  match r, h with
  | .error e, h => exact (none_out H e s' h).elim
  | .ok .next, h => exact h.elim
  | .ok .brk, h => exact h.elim
  | .ok .cont, h => exact h.elim
  | .ok (.ret u), ⟨v, H', os, bare, un, hok', rv, q⟩ =>
    have q' : v = .bl true := q
    subst q'
    have hu : u = Value.bool true := rv
    subst hu
    refine ⟨rfl, OldK.of_keep fun b o z => ?_, os, bare⟩
    cases e : H b with
    | none => exact un.keep b o z e (by intro y; cases y) (by simp)
    | some t =>
      obtain ⟨rfl, _, rfl⟩ := onlyScr_get e
      rw [ha] at z
      cases z
      exact (hok' b _ (un.frzs b _ _ e)).1
/-- the end of a law -/
theorem walk_go {l : PySem.W.OpenLaw} {n k : Nat} {q : Program} {loose : List Str} {XP : (Str → Option Value) → Heap → Prop} {YP : World → Heap → Prop} {d : DefRec} {CX : CXT} {x : Str}
    (hn : l.most = some n) (hn2 : n ≤ sizeLine) (hdf : d.params.defaults = []) (hr : Room k callerA)
    (F : ∀ (w : World) (mg : Str → Option Value) (f : Addr) (h : Heap), YP w h → h.Ns mainGlobals mg → mg d.name = some (.ref f) → ∃ (K : PySem.W.Frag) (fd : FuncData) (sp : Sp), K.In h ∧ (∀ (s : Shared) (u : Value), BindsTo s fd ⟨[u], []⟩ [(x, u)]) ∧
      (∀ (H : Hp) (a : Addr) (ns : List Int), ns.length ≤ n → Only H → SqL K H a (ns.map V.int) → sp [.ref a] H (fun v _ => v = .bl true) fun _ _ _ => False) ∧ ∀ base : Heap, K.In base → base.Ns mainGlobals mg → FnG l.prog w K mg base CX k f fd [x] sp)
    (none_out : ∀ (H : Hp) (s : Shared) (e : Value) (s' : Shared), CX [] H s (fun _ _ _ => False) e s' → False) : PySem.W.WalkO q loose XP YP l.row.toRowW d [] (fun f vs => PySem.call f vs) :=
  Att.attach_call hn hdf fun w _ s _ _ f _ _ _ _ a _ ns G Y _ _ _ hmg hobj hints hlen hgen =>
    let ⟨_, _, _, kin, bind, prom, ok⟩ := F w _ f _ Y G.T.g hmg
    law_go kin G.T.g G.T.b G.T.builtins G.T.nolimit hgen hobj hints (Nat.le_trans hlen hn2) hr ok bind (fun H hO hS => prom H a ns hlen hO hS) fun H e s' => none_out H s e s'
/-! ## repr of data -/
section
variable {X : Cx}
/-- repr(x), x data of any depth but dicts -/
def rRepr (K : PySem.W.Frag) : List V → Hp → VK → Prop := fun xs H Q => ∃ (a : Addr) (d : PyData), xs = [.ref a] ∧ Dp K H (.ref a) d ∧ d.showable = true ∧ d.hasDict = false ∧ d.depth ≤ 60 ∧ d.shown.length ≤ sizeLine ∧ Q (.str d.shown) H
theorem call_repr {k : Nat} (hg : X.A.guards = some []) (hr : Room k X.A) : CallR X (.builtin "repr") (rRepr X.K) := by
  intro pins s σ H xs us Q I r h
  obtain ⟨a, d, rfl, hd, h1, h2, h3, h4, q⟩ := h
  obtain ⟨u, rfl, ru⟩ := vals1 r
  obtain ⟨as, rd⟩ := Dp.reads I d _ u hd ru
  have hu : u = Value.ref a := ru
  subst hu
  have room := hr.un
  refine repr_of_reads' rd h1 (fun z => by rw [h2] at z; cases z) hg (by omega) (fun _ _ e => e) (fun h' t tk hk => ?_) h4
  exact ⟨.str d.shown, H, I.kept hk, ⟨t, rfl⟩, q⟩
end
end Gd
namespace Gv
open PySem PySem.Spec PyProof.Rows L2
/-- repr(x), x any data but dicts -/
def rReprV (K : PySem.W.Frag) : List V → Hp → VK → Prop := fun xs H Q => ∃ (v : V) (d : PyData), xs = [v] ∧ Dp K H v d ∧ d.showable = true ∧ d.hasDict = false ∧ d.depth ≤ 60 ∧ d.shown.length ≤ sizeLine ∧ Q (.str d.shown) H
theorem call_reprV {X : Cx} {k : Nat} (hg : X.A.guards = some []) (hr : Room k X.A) : CallR X (.builtin "repr") (rReprV X.K) := by
  intro pins s σ H xs us Q I r h
  obtain ⟨v, d, rfl, hd, h1, h2, h3, h4, q⟩ := h
  cases hd with
  | lst a b => exact Gd.call_repr hg hr pins s σ H _ us Q I r ⟨_, _, rfl, .lst a b, h1, h2, h3, h4, q⟩
  | tup a b => exact Gd.call_repr hg hr pins s σ H _ us Q I r ⟨_, _, rfl, .tup a b, h1, h2, h3, h4, q⟩
  | non =>
    obtain ⟨u, rfl, ru⟩ := vals1 r
    have hu : u = Value.none := ru
    subst hu
    exact PySem.P.repr_of_none ⟨.str "None", H, I.tok _, ⟨_, rfl⟩, q⟩
  | bl b =>
    obtain ⟨u, rfl, ru⟩ := vals1 r
    have hu : u = Value.bool b := ru
    subst hu
    exact PySem.P.repr_of_bool ⟨.str _, H, I.tok _, ⟨_, rfl⟩, q⟩
  | int i =>
    obtain ⟨u, rfl, t, rfl⟩ := vals1 r
    exact PySem.P.repr_of_int (of_decide_eq_true h1) ⟨.str _, H, I.tok _, ⟨_, rfl⟩, q⟩
  | str x =>
    obtain ⟨u, rfl, t, rfl⟩ := vals1 r
    exact PySem.P.repr_of_str ⟨.str _, H, I.tok _, ⟨_, rfl⟩, q⟩ h4
end Gv
namespace Wy
open PySem PySem.Spec PyProof.Rows L2
/-! ## try: body, except x as n: suite, except y as n: suite, .. -/
abbrev TA1 := Addr → Value → Option Addr → TS
/-- the ends of a suite whose name, slot i, goes -/
def gone (i : Nat) (D : Ends) : Ends := ⟨fun σ2 H2 => D.nx (σ2.set i none) H2, D.rt, fun σ2 H2 => D.bk (σ2.set i none) H2, fun σ2 H2 => D.ct (σ2.set i none) H2⟩
/-- what the clauses wish of an exception; slot i is the name's -/
def wAll (K : PySem.W.Frag) (i : Nat) (Wo : WX) (D : Ends) : List (Value × TA1) → WX
  | [] => Wo
  | q :: r => fun cls d σ H => ∃ b, PySem.W.exmOne K cls q.1 = some b ∧ (b = true → ∀ a, H a = none → q.2 a cls d (gone i D) (σ.set i (some (.ref a))) H) ∧ (b = false → wAll K i Wo D r cls d σ H)
inductive Hds (X : Cx) (n : Str) : List ExceptHandler → List (Value × TA1) → Prop
  | nil : Hds X n [] []
  | cons {x : Str} {c : Value} {ts : TA1} {b0 : Stmt} {su : List Stmt} {p1 p2 : Pos} {hs : List ExceptHandler} {l : List (Value × TA1)} (names : Names X x c)
      (walk : ∀ (a : Addr) (oe : Obj) (cls : Value) (d : Option Addr) (pn : List (Addr × Obj)), Zc cls d oe → (∃ vs, oe.data = .fields vs) → PSs (X.suite a ((a, oe) :: pn)) (b0 :: su) (ts a cls d))
      (rest : Hds X n hs l) : Hds X n (.ExceptHandler (some (.Name x p1)) (some n) (b0 :: su) p2 :: hs) ((c, ts) :: l)
section
variable {X : Cx} {n : Str} {i : Nat} {body : List Stmt} {h0 : ExceptHandler} {hs : List ExceptHandler} {l : List (Value × TA1)} {pos : Pos} {tb : WX → TS} {Wo : WX}
theorem ps_try_all (stk : X.stack = X.env :: X.outer) (fr : X.env.frame = some X.env.locals) (nd : X.N.Nodup) (at_ : X.N[i]? = some n) (isL : X.env.kindOf n = some .local) (tk : Takes X Wo)
    (wb : ∀ (W : WX) (pn : List (Addr × Obj)) (xe : Value → Shared → Prop), Takes (X.tr pn xe) W → PassesOwn (model X.prog X.w) X.A X.env xe → PSs (X.tr pn xe) body (tb W)) (wh : Hds X n (h0 :: hs) l) :
    PS X (.Try body (h0 :: hs) [] [] pos) fun D σ H => tb (fun cls d σ1 H1 => σ1.length = X.N.length → wAll X.K i Wo D l cls d σ1 H1) D σ H := by
  refine ⟨fun pins s σ H D I prom => ?_⟩
  have ok := I.ok
  have frames : X.A.frames = some (X.env :: X.outer) := by rw [ok.frames, stk]
  refine wpAny_Try_except (wpAny_mono ((wb (fun cls d σ1 H1 => σ1.length = X.N.length → wAll X.K i Wo D l cls d σ1 H1) (X.pn ++ pins) (fun e s1 => wpAny (model X.prog X.w) X.A (noteFrame e X.env) (fun _ s2 => wpAny (model X.prog X.w) X.A (setFlight e none) (fun _ s3 =>
    wpAny (model X.prog X.w) X.A (handleBy e X.env (h0 :: hs)) (SP X pins D) X.xe s3) X.xe s2) X.xe s1) ?_ PassesOwn.looking).run [] s σ H D (I.toTry _) prom) ?_ fun _ _ z => z)
  · rintro u s1 ⟨a, B, s0, pins', σ1, H1, cls, d, rfl, J0, nb, up, sky, na, os, ag, w⟩
    have J : Inv X pins σ1 H1 s0 := J0.ofTry ok
    rw [show (X.tr (X.pn ++ pins) _).stack = X.env :: X.outer from stk] at sky
    show wpAny (model X.prog X.w) X.A (noteFrame (.ref a) X.env) _ _ _
    refine Sky.land Zc.steady frames fr sky fun h1 fl1 up1 => ?_
    have J1 : Inv X pins σ1 H1 { s1 with heap := h1 } := J.landed nb fl1.1 (up.trans up1) os ag
    obtain ⟨o1, f1, e1, z1, d1⟩ := fl1.there
    have nfr : a ∉ frs (X.env :: X.outer) := fun m => by
      obtain ⟨_, o2, e2, no⟩ := fl1.2.2.1.mem m
      rw [e1] at e2
      cases e2
      exact no _ d1
    have nL : a ≠ X.env.locals := fun z => nfr (List.mem_filterMap.mpr ⟨X.env, List.mem_cons_self, by rw [fr, z]⟩)
    have nF : a ∉ X.fs := fun m => by
      obtain ⟨e, he, q⟩ := List.mem_filterMap.mp m
      exact nfr (List.mem_filterMap.mpr ⟨e, List.mem_cons_of_mem _ he, q⟩)
    have S1 := J1.suite e1 d1 na nL nF
    suffices go : ∀ {hs' : List ExceptHandler} {l' : List (Value × TA1)}, Hds X n hs' l' → wAll X.K i Wo D l' cls d σ1 H1 → wpAny (model X.prog X.w) X.A (handleBy (.ref a) X.env hs') (SP X pins D) X.xe { s1 with heap := h1 } from go wh (w J.len)
    intro hs' l' k
    induction k with
    | nil =>
      intro w
      refine wpAny_handleBy_nil ?_
      obtain ⟨_, _, _, o3, f3, T, _, _, e3, _, d3, g3, _⟩ := id fl1
      unfold PySem.passOn
      refine wpAny_bind (wpAny_field e3 d3 g3 ?_)
      rw [if_neg (by simp : ¬ ((Value.ref T == Value.none) = true))]
      have last : wpAny (model X.prog X.w) X.A (setFlight (.ref a) X.env.frame) (fun _ s4 => wpAny (model X.prog X.w) X.A (throw (.ref a) : Sem Flow) (SP X pins D) X.xe s4) X.xe { s1 with heap := h1 } := by
        rw [fr]
        exact HandSPX.setFlight_upZ fl1 fun h4 hh4 up4 => wpAny_throw (tk _ _ ⟨a, B, s0, pins, σ1, H1, cls, d, rfl, J, nb, (up.trans up1).trans up4, .inr (.inr (by rw [stk]; exact hh4)), na, os, ag, w⟩)
      first
        | exact wpAny_bind (wpAny_pure (wpAny_bind last))
        | exact wpAny_bind last
    | @cons x c ts b0 su p1 p2 hs2 l2 names walk rest ih =>
      intro w
      obtain ⟨b, hit, yes, no⟩ := w
      refine wpAny_handleBy_cons (codeAny_handlers_test ?_) (by intro q; cases q)
      have look : PySem.W.Looks (model X.prog X.w) h1 (typeOf (.ref a)) cls := fun A Q E s k q => wpAny_typeOf_ref (k _ _ e1) (by rw [z1.1]; exact q)
      have LM := PySem.W.exm_one (M := model X.prog X.w) J1.kIn look hit
      have test : ∀ {Q E : Value → Shared → Prop}, Q c { s1 with heap := h1 } → wpAny (model X.prog X.w) (X.A.mark (some (.ref a))) (eval (.Name x p1) X.env) Q E { s1 with heap := h1 } := fun {Q E} q => by
        obtain ⟨g, db, m | ⟨m, v, nn⟩⟩ := names
        · exact ld_glob (X := X.suite a ((a, o1) :: (X.pn ++ pins))) S1 g m q db
        · exact ld_blt (X := X.suite a ((a, o1) :: (X.pn ++ pins))) S1 g m v q nn db
      refine test (LM.here ?_)
      cases b with
      | false => exact ih (no rfl)
      | true =>
        refine codeAny_handlers_suite_as (HandSPX.lands_againZ fl1 fun h4 fl4 up4 => ?_)
        have J4 : Inv X pins σ1 H1 { s1 with heap := h4 } := J.landed nb fl4.1 ((up.trans up1).trans up4) os ag
        obtain ⟨o4, f4, e4, z4, d4⟩ := fl4.there
        refine store_ok (X := X.suite a ((a, o4) :: (X.pn ++ pins))) (v := .ref a) (J4.suite e4 d4 na nL nF) nd at_ (.inl isL) rfl (fun s5 S5 => ?_) (.inr isL)
        refine wpAny_mono ((walk a o4 cls d (X.pn ++ pins) z4 ⟨_, d4⟩).run [] s5 _ H1 _ S5 (yes rfl a na)) (fun f s6 z => ?_) fun _ _ z => False.elim z
        have bye : ∀ {σ6 : L2.St} {H6 : Hp} {Q : Shared → Prop}, Inv (X.suite a ((a, o4) :: (X.pn ++ pins))) [] σ6 H6 s6 → (∀ s7, Inv X pins (σ6.set i none) H6 s7 → Q s7) →
            wpAny (model X.prog X.w) X.A (do bindName X.env n .none; unbindBehindTheSuite X.env n p2) (fun _ s7 => Q s7) X.xe s6 := fun {σ6 H6 Q} S6 q => gone_ok (S6.unsuite ok) nd at_ isL q
        match f, z with
        | .next, ⟨_, _, S6, q6⟩ => exact bye S6 fun s7 J7 => ⟨_, _, J7, q6⟩
        | .brk, ⟨_, _, S6, q6⟩ => exact bye S6 fun s7 J7 => ⟨_, _, J7, q6⟩
        | .cont, ⟨_, _, S6, q6⟩ => exact bye S6 fun s7 J7 => ⟨_, _, J7, q6⟩
        | .ret u, ⟨_, _, _, S6, r6, q6⟩ => exact bye S6 fun s7 J7 => ⟨_, _, _, J7, r6, q6⟩
  · intro f s1 z
    match f, z with
    | .next, ⟨_, _, J, q⟩ => exact wpAny_execs_nil ⟨_, _, J.ofTry ok, q⟩
    | .brk, ⟨_, _, J, q⟩ => exact ⟨_, _, J.ofTry ok, q⟩
    | .cont, ⟨_, _, J, q⟩ => exact ⟨_, _, J.ofTry ok, q⟩
    | .ret u, ⟨_, _, _, J, r, q⟩ => exact ⟨_, _, _, J.ofTry ok, r, q⟩
end
/-! ## repr where an exception is handled -/
theorem call_repU {X : Cx} (hg : X.A.guards = some []) (hu : X.A.units + 100 < cLine) : CallR X (.builtin "repr") (Gv.rReprV X.K) := by
  intro pins s σ H xs us Q I r h
  obtain ⟨v, d, rfl, hd, h1, h2, h3, h4, q⟩ := h
  obtain ⟨u, rfl, ru⟩ := vals1 r
  have keep := hd
  cases hd with
  | non => cases (show u = Value.none from ru); exact PySem.P.repr_of_none ⟨.str "None", H, I.tok _, ⟨_, rfl⟩, q⟩
  | bl b => cases (show u = Value.bool b from ru); exact PySem.P.repr_of_bool ⟨.str _, H, I.tok _, ⟨_, rfl⟩, q⟩
  | int i => obtain ⟨t, rfl⟩ := ru; exact PySem.P.repr_of_int (of_decide_eq_true h1) ⟨.str _, H, I.tok _, ⟨_, rfl⟩, q⟩
  | str x => obtain ⟨t, rfl⟩ := ru; exact PySem.P.repr_of_str ⟨.str _, H, I.tok _, ⟨_, rfl⟩, q⟩ h4
  | lst a b =>
    obtain ⟨as, rd⟩ := Dp.reads I _ _ u keep ru
    cases (show u = Value.ref _ from ru)
    exact repr_of_reads' rd h1 (fun z => by rw [h2] at z; cases z) hg (by omega) (fun _ _ e => e) (fun h' t tk hk => ⟨.str _, H, I.kept hk, ⟨t, rfl⟩, q⟩) h4
  | tup a b =>
    obtain ⟨as, rd⟩ := Dp.reads I _ _ u keep ru
    cases (show u = Value.ref _ from ru)
    exact repr_of_reads' rd h1 (fun z => by rw [h2] at z; cases z) hg (by omega) (fun _ _ e => e) (fun h' t tk hk => ⟨.str _, H, I.kept hk, ⟨t, rfl⟩, q⟩) h4
theorem call_repK {X : Cx} {K : PySem.W.Frag} (hK : X.K = K) (hg : X.A.guards = some []) (hu : X.A.units + 100 < cLine) : CallR X (.builtin "repr") (Gv.rReprV K) := hK ▸ call_repU hg hu
theorem pe_xfK {X : Cx} {K : PySem.W.Frag} {a C : Addr} {oe : Obj} {cls : Value} {d : Option Addr} {pn : List (Addr × Obj)} {e : Expr} {te : TE} {pos : Pos} {n : Str} (T : XfC K C) (hK : X.K = K) (hno : NoAttr K C n) (hz : Zc cls d oe) (hf : ∃ vs, oe.data = .fields vs)
    (he : PE (X.suite a ((a, oe) :: pn)) e te) (hb : attributeBase e n X.env (eval e X.env) = eval e X.env) : PE (X.suite a ((a, oe) :: pn)) (.Attribute e n pos) (tXf a cls d C n te) := by
  subst hK
  exact pe_xf T hno hz hf he hb
end Wy
namespace Dat
open PySem PySem.Spec PyProof.Rows L2
/-! ## Data of any depth: its kind, and that it stays -/
def isIntD : PyData → Bool
  | .int _ => true
  | .bool _ => true
  | _ => false
def isBoolD : PyData → Bool
  | .bool _ => true
  | _ => false
def isRowD : PyData → Bool
  | .list _ => true
  | .tuple _ => true
  | _ => false
def clsD : PyData → String
  | .none => "NoneType"
  | .bool _ => "bool"
  | .int _ => "int"
  | .str _ => "str"
  | .list _ => "list"
  | .tuple _ => "tuple"
  | .dict _ => "dict"
section
variable {K : PySem.W.Frag} {H H' : Hp} {v : V} {d : PyData}
theorem ty_list {a : Addr} {xs : List V} (h : SqL K H a xs) : TyX K H (.ref a) (.type "list") := by
  rcases h with (h | ⟨o, h⟩) | ⟨o, its, n, h1, h2, _⟩
  · exact .base (.lst h)
  · exact .base (.frz h)
  · exact .kList h1 h2
theorem ty_tup {a : Addr} {xs : List V} (h : SqT K H a xs) : TyX K H (.ref a) (.type "tuple") := by
  rcases h with (h | ⟨o, h⟩) | ⟨o, its, n, h1, h2, _⟩
  · exact .base (.tup h)
  · exact .fTuple h
  · exact .kTuple h1 h2
theorem ty_of (h : Dp K H v d) : TyX K H v (.type (clsD d)) := by
  cases h with
  | non => exact .base .non
  | bl b => exact .base (.bl b)
  | int i => exact .base (.int i)
  | str x => exact .base (.str x)
  | lst hs _ => exact ty_list hs
  | tup hs _ => exact ty_tup hs
theorem kit_int (h : Dp K H v d) : PySem.W.kitOne K (.type (clsD d)) (.type "int") = some (isIntD d) := by
  cases h with
  | non => exact kit_ty (a := "NoneType") (b := "int") (r := false) (by decide +kernel)
  | bl _ => exact kit_ty (a := "bool") (b := "int") (r := true) (by decide +kernel)
  | int _ => exact kit_ty (a := "int") (b := "int") (r := true) (by decide +kernel)
  | str _ => exact kit_ty (a := "str") (b := "int") (r := false) (by decide +kernel)
  | lst _ _ => exact kit_ty (a := "list") (b := "int") (r := false) (by decide +kernel)
  | tup _ _ => exact kit_ty (a := "tuple") (b := "int") (r := false) (by decide +kernel)
theorem kit_bool (h : Dp K H v d) : PySem.W.kitOne K (.type (clsD d)) (.type "bool") = some (isBoolD d) := by
  cases h with
  | non => exact kit_ty (a := "NoneType") (b := "bool") (r := false) (by decide +kernel)
  | bl _ => exact kit_ty (a := "bool") (b := "bool") (r := true) (by decide +kernel)
  | int _ => exact kit_ty (a := "int") (b := "bool") (r := false) (by decide +kernel)
  | str _ => exact kit_ty (a := "str") (b := "bool") (r := false) (by decide +kernel)
  | lst _ _ => exact kit_ty (a := "list") (b := "bool") (r := false) (by decide +kernel)
  | tup _ _ => exact kit_ty (a := "tuple") (b := "bool") (r := false) (by decide +kernel)
theorem kit_row (h : Dp K H v d) : PySem.W.kitAny K (.type (clsD d)) [.type "tuple", .type "list"] = some (isRowD d) := by
  cases h with
  | non => exact kitAny_cons (b := false) (kit_ty (a := "NoneType") (b := "tuple") (r := false) (by decide +kernel)) (fun _ => kitAny_cons (b := false) (kit_ty (a := "NoneType") (b := "list") (r := false) (by decide +kernel)) (fun _ => rfl) (fun z => by cases z)) (fun z => by cases z)
  | bl _ => exact kitAny_cons (b := false) (kit_ty (a := "bool") (b := "tuple") (r := false) (by decide +kernel)) (fun _ => kitAny_cons (b := false) (kit_ty (a := "bool") (b := "list") (r := false) (by decide +kernel)) (fun _ => rfl) (fun z => by cases z)) (fun z => by cases z)
  | int _ => exact kitAny_cons (b := false) (kit_ty (a := "int") (b := "tuple") (r := false) (by decide +kernel)) (fun _ => kitAny_cons (b := false) (kit_ty (a := "int") (b := "list") (r := false) (by decide +kernel)) (fun _ => rfl) (fun z => by cases z)) (fun z => by cases z)
  | str _ => exact kitAny_cons (b := false) (kit_ty (a := "str") (b := "tuple") (r := false) (by decide +kernel)) (fun _ => kitAny_cons (b := false) (kit_ty (a := "str") (b := "list") (r := false) (by decide +kernel)) (fun _ => rfl) (fun z => by cases z)) (fun z => by cases z)
  | lst _ _ => exact kitAny_cons (b := false) (kit_ty (a := "list") (b := "tuple") (r := false) (by decide +kernel)) (fun _ => kitAny_cons (b := true) (kit_ty (a := "list") (b := "list") (r := true) (by decide +kernel)) (fun z => by cases z) (fun _ => rfl)) (fun z => by cases z)
  | tup _ _ => exact kitAny_cons (b := true) (kit_ty (a := "tuple") (b := "tuple") (r := true) (by decide +kernel)) (fun z => by cases z) (fun _ => rfl)
theorem seqT_same {a : Addr} {xs : List V} (s : Same H H') (h : SqT K H a xs) : SqT K H' a xs :=
  h.elim (fun h => .inl (h.elim (fun h => .inl (s _ _ h)) fun ⟨o, h⟩ => .inr ⟨o, s _ _ h⟩)) .inr
mutual
theorem dp_same (s : Same H H') : ∀ {d : PyData} {v : V}, Dp K H v d → Dp K H' v d
  | .none, _, h => by
    cases h
    exact .non
  | .bool b, _, h => by
    cases h
    exact .bl b
  | .int i, _, h => by
    cases h
    exact .int i
  | .str x, _, h => by
    cases h
    exact .str x
  | .list ds, _, h => by
    cases h with
    | lst hs ha => exact .lst (s.seq hs) (dps_same s ha)
  | .tuple ds, _, h => by
    cases h with
    | tup hs ha => exact .tup (seqT_same s hs) (dps_same s ha)
  | .dict _, _, h => by cases h
theorem dps_same (s : Same H H') : ∀ {ds : List PyData} {vs : List V}, DpAll K H vs ds → DpAll K H' vs ds
  | [], _, h => by
    cases h
    exact .nil
  | d :: ds, _, h => by
    cases h with
    | cons h1 h2 => exact .cons (dp_same s h1) (dps_same s h2)
end
theorem dps_len : ∀ {vs : List V} {ds : List PyData}, DpAll K H vs ds → vs.length = ds.length
  | _, [], h => by
    cases h
    rfl
  | _, _ :: _, h => by
    cases h with
    | cons _ h2 => exact congrArg Nat.succ (dps_len h2)
theorem dps_get : ∀ {vs : List V} {ds : List PyData}, DpAll K H vs ds → ∀ {i : Nat} {v : V}, vs[i]? = some v → ∃ d, ds[i]? = some d ∧ Dp K H v d
  | _, [], h, i, v, e => by
    cases h
    simp at e
  | _, d :: ds, h, i, v, e => by
    cases h with
    | cons h1 h2 =>
      cases i with
      | zero =>
        simp at e
        subst e
        exact ⟨d, rfl, h1⟩
      | succ i =>
        simp at e
        obtain ⟨d', q1, q2⟩ := dps_get h2 e
        exact ⟨d', by simpa using q1, q2⟩
end
end Dat
namespace Us
open PySem PySem.Spec PyProof.Rows L2
def rListOf (K : PySem.W.Frag) : List V → Hp → VK → Prop := fun xs H Q => ∃ p ys, xs = [V.ref p] ∧ (SqL K H p ys ∨ SqT K H p ys) ∧ ∀ l, H l = none → Q (.ref l) (upd H l (.lst ys))
/-- the block of a comprehension within a comprehension -/
theorem blkOk_in {N : List Str} {sc scopeO scope2 : Scope} {own : List (Str × Nat)} {cl : List (Str × Addr)} {C : Addr} {env : Env} (h : blkC N (relS scopeO sc) scope2 own = true) (e : env.scope = sc) : BlkOk N (compEnvC scopeO cl C env).scope scope2 own := by
  subst e
  exact blkOk_by h
section
variable {X : Cx} {K : PySem.W.Frag} {pos : Pos}
theorem pi_listK {tg l : Expr} {tl : TE} (hK : X.K = K) (hl : PE X l tl) : PI X tg l (iList K tl) := hK ▸ pi_list hl
theorem pi_tupK {tg l : Expr} {tl : TE} (hK : X.K = K) (hl : PE X l tl) : PI X tg l (iTup K tl) := hK ▸ pi_tup hl
theorem pg_tupK {es : List Expr} {k : Nat} {t : TGs} {n : Nat} (hK : X.K = K) (hc : X.calm = true) (h : PGs X es t)
    (hn : (assignEach es X.env).length = n := by rfl) (hst : (assignEach es X.env).findIdx? (·.1) = none := by rfl) : PG X (.Tuple es k pos) (gTup K n t) := hK ▸ pg_tup hc h hn hst
theorem pg_unlK {es : List Expr} {k : Nat} {t : TGs} {n : Nat} (hK : X.K = K) (hc : X.calm = true) (h : PGs X es t)
    (hn : (assignEach es X.env).length = n := by rfl) (hst : (assignEach es X.env).findIdx? (·.1) = none := by rfl) : PG X (.Tuple es k pos) (gUnl K n t) := hK ▸ pg_unl hc h hn hst
theorem pe_fldK {e : Expr} {f : Str} {ta : TE} (hK : X.K = K) (he : PE X e ta) (hb : attributeBase e f X.env (eval e X.env) = eval e X.env) : PE X (.Attribute e f pos) (tFld K ta f) := hK ▸ pe_fld he hb
end
end Us
namespace Pen
open PySem
def top (i : Nat) : Stmt := PySem.Challenge.pw_everycycle_k22_whole_unrolled_cycles.main.body.getD i (.Pass ⟨0, 0, 0, 0⟩)
abbrev cCyc : Stmt := top 1
abbrev cBadN : Stmt := top 2
abbrev cBadR : Stmt := top 3
abbrev sBetween : Stmt := top 5
abbrev sFrom : Stmt := top 6
abbrev sRow : Stmt := top 7
abbrev sRowB : Stmt := top 8
abbrev sRowsBits : Stmt := top 9
abbrev sKeptR : Stmt := top 10
abbrev cGraph : Stmt := top 12
abbrev sNeed : Stmt := top 13
abbrev sGates : Stmt := top 14
abbrev sNode : Stmt := top 15
abbrev sLit : Stmt := top 16
abbrev cBuild : Stmt := top 17
abbrev sLitIn : Stmt := top 18
abbrev sPut : Stmt := top 19
abbrev cMach : Stmt := top 21
abbrev sPlayed : Stmt := top 22
abbrev sBreaks : Stmt := top 23
abbrev cUnr : Stmt := top 24
abbrev sUnrolled : Stmt := top 25
abbrev sPen : Stmt := top 27
abbrev sDraw : Stmt := top 28
abbrev sPick : Stmt := top 29
abbrev sDrawn : Stmt := top 30
abbrev sValues : Stmt := top 31
abbrev sBit : Stmt := top 32
abbrev sXor : Stmt := top 33
abbrev sFlip : Stmt := top 34
abbrev sMach : Stmt := top 35
abbrev sMade : Stmt := top 36
abbrev sTick : Stmt := top 37
abbrev sLonger : Stmt := top 38
abbrev sRows : Stmt := top 39
abbrev sWhy : Stmt := top 40
abbrev sLIs : Stmt := top 41
abbrev sLDrawnBits : Stmt := top 42
abbrev sLSomeRows : Stmt := top 43
abbrev sLPlayed : Stmt := top 44
abbrev sLUnrolledRight : Stmt := top 45
abbrev sLaw : Stmt := top 46
end Pen
namespace Pen
open PySem PySem.Spec PyProof.Rows L2
/-! ## The pen: the source of all draws. Its three defs, once for each law -/
abbrev FnP (K : PySem.W.Frag) (x : Str) (st : Stmt) (f : Addr) (fd : FuncData) : Prop := FunD K x x (defArgs st) (defBody st) (defScope st) [] [] f fd
/-- the pen's pairs: cells, at, digits, count, fold -/
def cols (c : Addr) (a d n f : Int) : List (Key × V) := [(.inr "cells", .ref c), (.inr "at", .int a), (.inr "digits", .int d), (.inr "count", .int n), (.inr "fold", .int f)]
section
variable {c : Addr} {a d n f z : Int}
theorem get_cells : valV (cols c a d n f) (.inr "cells" : Key) = some (.ref c) := by rfl
theorem get_at : valV (cols c a d n f) (.inr "at" : Key) = some (.int a) := by rfl
theorem get_digits : valV (cols c a d n f) (.inr "digits" : Key) = some (.int d) := by rfl
theorem get_count : valV (cols c a d n f) (.inr "count" : Key) = some (.int n) := by rfl
theorem get_fold : valV (cols c a d n f) (.inr "fold" : Key) = some (.int f) := by rfl
theorem put_at : putK (cols c a d n f) (.inr "at" : Key) (.int z) = cols c z d n f := by rfl
theorem put_digits : putK (cols c a d n f) (.inr "digits" : Key) (.int z) = cols c a z n f := by rfl
theorem put_count : putK (cols c a d n f) (.inr "count" : Key) (.int z) = cols c a d z f := by rfl
theorem put_fold : putK (cols c a d n f) (.inr "fold" : Key) (.int z) = cols c a d n z := by rfl
variable {H : Hp} {p : Addr}
theorem dg_cells (h : H p = some (.dK (cols c a d n f))) : DGet H p (.str "cells") (some (.ref c)) := DGet.k (k := .inr "cells") h
theorem dg_at (h : H p = some (.dK (cols c a d n f))) : DGet H p (.str "at") (some (.int a)) := DGet.k (k := .inr "at") h
theorem dg_digits (h : H p = some (.dK (cols c a d n f))) : DGet H p (.str "digits") (some (.int d)) := DGet.k (k := .inr "digits") h
theorem dg_count (h : H p = some (.dK (cols c a d n f))) : DGet H p (.str "count") (some (.int n)) := DGet.k (k := .inr "count") h
theorem dg_fold (h : H p = some (.dK (cols c a d n f))) : DGet H p (.str "fold") (some (.int f)) := DGet.k (k := .inr "fold") h
theorem five : 5 < sizeLine := by decide
theorem dp_at (h : H p = some (.dK (cols c a d n f))) : DPut H p (.str "at") (.int z) (upd H p (.dK (cols c z d n f))) := DPut.k (k := .inr "at") h five
theorem dp_digits (h : H p = some (.dK (cols c a d n f))) : DPut H p (.str "digits") (.int z) (upd H p (.dK (cols c a z n f))) := DPut.k (k := .inr "digits") h five
theorem dp_count (h : H p = some (.dK (cols c a d n f))) : DPut H p (.str "count") (.int z) (upd H p (.dK (cols c a d z f))) := DPut.k (k := .inr "count") h five
theorem dp_fold (h : H p = some (.dK (cols c a d n f))) : DPut H p (.str "fold") (.int z) (upd H p (.dK (cols c a d n z))) := DPut.k (k := .inr "fold") h five
end
/-- a pen stands at p, its cells at c; so many draws were made at most -/
def PenC (H : Hp) (p c : Addr) (m : Nat) : Prop :=
  ∃ (ns : List Int) (a d n f : Int), H p = some (.dK (cols c a d n f)) ∧ H c = some (.lst (ns.map V.int)) ∧ ns.length ≤ 1000 ∧ 0 ≤ a ∧ 0 ≤ n ∧ n ≤ m ∧ 0 ≤ f ∧ f < 2147483648
/-- all but the object at p stands as it stood -/
def But (p : Addr) (H H' : Hp) : Prop := ∀ b o, H b = some o → b ≠ p → H' b = some o
theorem But.upd {p : Addr} {H : Hp} {o : HO} : But p H (upd H p o) := fun b o e h => by
  rw [upd_ne h]
  exact e
theorem But.trans {p : Addr} {H H1 H2 : Hp} (a : But p H H1) (b : But p H1 H2) : But p H H2 := fun c o e h => b c o (a c o e h) h
theorem But.refl {p : Addr} {H : Hp} : But p H H := fun _ _ e _ => e
theorem But.of_same {p : Addr} {H H' : Hp} (s : Same H H') : But p H H' := fun c o e _ => s c o e
theorem PenC.same {H H' : Hp} {p c : Addr} {m : Nat} (h : PenC H p c m) (s : Same H H') : PenC H' p c m := by
  obtain ⟨ns, a, d, n, f, h1, h2, r⟩ := h
  exact ⟨ns, a, d, n, f, s _ _ h1, s _ _ h2, r⟩
theorem PenC.more {H : Hp} {p c : Addr} {m m' : Nat} (h : PenC H p c m) (s : m ≤ m') : PenC H p c m' := by
  obtain ⟨ns, a, d, n, f, h1, h2, h3, ha, h4, h5, r⟩ := h
  exact ⟨ns, a, d, n, f, h1, h2, h3, ha, h4, by omega, r⟩
theorem PenC.upd {H : Hp} {p c q : Addr} {m : Nat} {o : HO} (h : PenC H p c m) (n1 : q ≠ p) (n2 : q ≠ c) : PenC (upd H q o) p c m := by
  obtain ⟨ns, a, d, n, f, h1, h2, r⟩ := h
  exact ⟨ns, a, d, n, f, by rw [upd_ne n1.symm]; exact h1, by rw [upd_ne n2.symm]; exact h2, r⟩
theorem PenC.free {H : Hp} {p c q : Addr} {m : Nat} (h : PenC H p c m) (e : H q = none) : q ≠ p ∧ q ≠ c := by
  obtain ⟨ns, a, d, n, f, h1, h2, r⟩ := h
  refine ⟨fun z => ?_, fun z => ?_⟩
  · rw [z, h1] at e
    cases e
  · rw [z, h2] at e
    cases e
/-- the script, as each def is handed it -/
def spPen (K : PySem.W.Frag) : Sp := fun vs H Q _ => ∃ (a : Addr) (ns : List Int), vs = [.ref a] ∧ SqL K H a (ns.map V.int) ∧ ns.length ≤ 63 ∧
  ∀ (p c : Addr) (H' : Hp), H p = none → Same H H' → PenC H' p c 0 → Q (.ref p) H'
def spDraw : Sp := fun vs H Q _ => ∃ (p c : Addr) (m : Nat) (many : Int), vs = [.ref p, .int many] ∧ PenC H p c m ∧ m ≤ 1000000000000 ∧ 0 < many ∧ many < 1073741824 ∧
  ∀ (r : Int) (H' : Hp), 0 ≤ r → r < many → PenC H' p c (m + 1) → But p H H' → Q (.int r) H'
def spPick (K : PySem.W.Frag) : Sp := fun vs H Q _ => ∃ (p c l : Addr) (m : Nat) (xs : List V), vs = [.ref p, .ref l] ∧ PenC H p c m ∧ m ≤ 1000000000000 ∧ l ≠ p ∧ SqL K H l xs ∧ 0 < xs.length ∧ xs.length ≤ 1000 ∧
  ∀ (v : V) (i : Nat) (H' : Hp), xs[i]? = some v → PenC H' p c (m + 1) → But p H H' → Q v H'
abbrev pN : List Str := ["_law_script", "_law_fold", "_law_cell"]
abbrev dN : List Str := ["_law_pen_here", "_law_many", "_law_cell", "_law_digit", "_law_blend"]
abbrev kN : List Str := ["_law_pen_here", "_law_some"]
theorem int_item {ns : List Int} {i : Nat} {y : V} (h : (ns.map V.int)[i]? = some y) : ∃ z, y = V.int z := by
  rw [List.getElem?_map] at h
  cases e : ns[i]? with
  | none =>
    rw [e] at h
    cases h
  | some u =>
    rw [e] at h
    exact ⟨u, (Option.some.inj h).symm⟩
structure Txt (mg : Str → Option Value) : Prop where
  len : mg "len" = none
  int : mg "int" = none
  list : mg "list" = none
section
variable {P : Program} {w : World} {K : PySem.W.Frag} {mg : Str → Option Value} {base : Heap} {f : Addr} {fd : FuncData}
theorem scPen : FnScope pN ["_law_script"] (defScope sPen) := ⟨rfl, rfl, rfl, by decide +kernel, rfl, by decide +kernel, by decide +kernel⟩
theorem scDraw : FnScope dN ["_law_pen_here", "_law_many"] (defScope sDraw) := ⟨rfl, rfl, rfl, by decide +kernel, rfl, by decide +kernel, by decide +kernel⟩
theorem scPick : FnScope kN ["_law_pen_here", "_law_some"] (defScope sPick) := ⟨rfl, rfl, rfl, by decide +kernel, rfl, by decide +kernel, by decide +kernel⟩
theorem ok_pen {CX : CXT} (F : FnP K "_law_pen" sPen f fd) (T : Txt mg) : FnOk P w K mg base CX 1 f fd ["_law_script"] (spPen K) := by
  refine F.ok scPen (fun vs H Q E h => ?_) (fun cdv A outer s H vs Q E hr h => ?_)
  · obtain ⟨a, ns, rfl, _⟩ := h
    rfl
  · obtain ⟨a, ns, rfl, hS, hl, k⟩ := h
    refine ⟨_, PSs.nox (pss_cons (ps_set (i := 1) scPen.nd rfl (Or.inl rfl) pe_int)
      (pss_cons (ps_for PassesOwn.never rfl (pi_list (pv 0)) (pg_name (i := 2) scPen.nd rfl (Or.inl rfl))
        (pss_one (ps_set (i := 1) scPen.nd rfl (Or.inl rfl) (pe_op op_mod (pe_callTy call_int1 (by rfl) T.int (by decide +kernel) (pa_cons (pe_op op_add (pe_op op_mul (pv 1) pe_int) (pv 2)) pa_nil)) pe_int))))
      (pss_one (ps_ret (pe_disp (pps_cons pe_str (pe_callTy call_list_of (by rfl) T.list (by decide +kernel) (pa_cons (pv 0) pa_nil)) (pps_cons pe_str pe_int (pps_cons pe_str pe_int (pps_cons pe_str pe_int (pps_cons pe_str (pv 1) pps_nil))))) (by rfl) (by rfl) (fun z => by cases z) (by decide)))))), ?_⟩
    refine ⟨_, rfl, a, rfl, ⟨_, hS⟩, for_list (K := K) (a := a) (xs := ns.map V.int) (fun i σ H2 => ∃ (z : Int) (v : Option V), σ = [some (.ref a), some (.int z), v] ∧ H2 = H ∧ 0 ≤ z ∧ z < 1000000007)
      ⟨0, none, rfl, rfl, by decide, by decide⟩ (fun i σ H2 _ ⟨_, _, _, e, _⟩ => by rw [e]; exact hS) ?_ ?_⟩
    · rintro i y σ H2 hi ⟨z, v, rfl, rfl, h0, h1⟩
      obtain ⟨u, rfl⟩ := int_item hi
      refine ⟨_, rfl, _, _, rfl, rfl, .inr ⟨by decide, by decide⟩, _, rfl, _, _, rfl, rfl, .inl ⟨_, rfl, _, _, rfl, rfl, (by show (0 : Int) < 1000000007; decide), ?_⟩⟩
      exact ⟨_, _, rfl, rfl, Int.emod_nonneg _ (by decide), Int.emod_lt_of_pos _ (by decide)⟩
    · rintro σ H2 ⟨z, v, rfl, rfl, h0, h1⟩
      intro p hp
      have sp : Same H2 (upd H2 p (.dK [])) := fun b o e => by
        rw [upd_ne (ne_of_none e hp)]
        exact e
      refine ⟨_, rfl, a, _, rfl, .inl (sp.seq hS), fun l hl0 => ?_⟩
      have npl : p ≠ l := fun q => by
        rw [← q, upd_same] at hl0
        cases hl0
      have hl1 : H2 l = none := by
        rw [upd_ne npl.symm] at hl0
        exact hl0
      refine ⟨_, rfl, by rw [upd_ne npl, upd_same], cols l 0 0 0 z, rfl, (by show 5 ≤ 15; decide), ?_⟩
      refine k p l _ hp (fun b o e => ?_) ⟨ns, 0, 0, 0, z, upd_same, ?_, by omega, by decide, by decide, by decide, h0, by omega⟩
      · rw [upd_ne (ne_of_none e hp), upd_ne (ne_of_none e hl1), upd_ne (ne_of_none e hp)]
        exact e
      · rw [upd_ne npl.symm, upd_same]
theorem ok_draw {CX : CXT} (F : FnP K "_law_draw" sDraw f fd) (T : Txt mg) : FnOk P w K mg base CX 1 f fd ["_law_pen_here", "_law_many"] spDraw := by
  refine F.ok scDraw (fun vs H Q E h => ?_) (fun cdv A outer s H vs Q E hr h => ?_)
  · obtain ⟨p, c, m, many, rfl, _⟩ := h
    rfl
  · obtain ⟨p, c, m, many, rfl, ⟨ns, a, d, n, fo, hp, hc, hz, a0, n0, nm, f0, f1⟩, hm, m0, m1, k⟩ := h
    have hu := hu_of hr
    have ncp : c ≠ p := ne_of hc hp (by intro z; cases z)
    refine ⟨_, PSs.nox (pss_cons (ps_dput hu (pv 0) pe_str (pe_op op_add (pe_dget hu (pv 0) pe_str (fun _ _ => rfl)) pe_int) rfl)
      (C8.pss_cut (ps_if (PW.pt (pw_and (pt_cmpR op_eq (pe_dget hu (pv 0) pe_str (fun _ _ => rfl)) pe_int (nomark _))
          (pw_and1 (pt_cmpR op_lt (pe_dget hu (pv 0) pe_str (fun _ _ => rfl)) (pe_callB call_len_seq (by rfl) T.len PySem.boot_len (pa_cons (pe_dget hu (pv 0) pe_str (fun _ _ => rfl)) pa_nil)) (nomark _)))))
        (pss_cons (ps_set (i := 2) scDraw.nd rfl (Or.inl rfl) (pe_ix ix_list (pe_dget hu (pv 0) pe_str (fun _ _ => rfl)) (pe_dget hu (pv 0) pe_str (fun _ _ => rfl)) (fun _ _ => rfl)))
        (pss_cons (ps_dput hu (pv 0) pe_str (pe_op op_add (pe_dget hu (pv 0) pe_str (fun _ _ => rfl)) pe_int) rfl)
        (pss_one (ps_if (pt_cmpR op_ge (pv 2) (pe_op op_pow pe_int pe_int) (nomark _))
          (pss_one (ps_dput hu (pv 0) pe_str (pe_op op_sub (pv 2) (pe_op op_pow pe_int pe_int)) rfl))
          (pss_one (ps_dput hu (pv 0) pe_str (pe_op op_mod (pe_callTy call_int1 (by rfl) T.int (by decide +kernel) (pa_cons (pe_op op_add (pe_op op_mul (pe_dget hu (pv 0) pe_str (fun _ _ => rfl)) pe_int) (pv 2)) pa_nil)) pe_int) rfl))))))
        pss_nil)
      (pss_cons (ps_if (pt_cmpR op_gt (pe_dget hu (pv 0) pe_str (fun _ _ => rfl)) pe_int (nomark _))
        (pss_cons (ps_set (i := 3) scDraw.nd rfl (Or.inl rfl) (pe_op op_mod (pe_callTy call_int1 (by rfl) T.int (by decide +kernel) (pa_cons (pe_dget hu (pv 0) pe_str (fun _ _ => rfl)) pa_nil)) (pv 1)))
        (pss_cons (ps_dput hu (pv 0) pe_str (pe_op op_fdiv (pe_dget hu (pv 0) pe_str (fun _ _ => rfl)) (pv 1)) rfl)
        (pss_one (ps_ret (pv 3)))))
        pss_nil)
      (pss_cons (ps_set (i := 4) scDraw.nd rfl (Or.inl rfl) (pe_op op_add (pe_op op_add (pe_dget hu (pv 0) pe_str (fun _ _ => rfl)) (pe_op op_mul (pe_dget hu (pv 0) pe_str (fun _ _ => rfl)) pe_int)) pe_int))
      (pss_one (ps_ret (pe_op op_mod (pe_op op_fdiv (pe_callTy call_int1 (by rfl) T.int (by decide +kernel) (pa_cons (pe_op op_mod (pe_op op_pow (pv 4) pe_int) pe_int) pa_nil)) pe_int) (pv 1)))))))), ?_⟩
    -- count
    refine ⟨_, rfl, _, _, rfl, dg_count hp, _, _, rfl, rfl, _, rfl, p, _, rfl, dp_count hp, ?_⟩
    have hp1 : ∀ {o : HO}, upd H p o p = some o := upd_same
    have hc1 : ∀ {o : HO}, upd H p o c = some (.lst (ns.map V.int)) := by
      intro o
      rw [upd_ne ncp]
      exact hc
    refine ⟨fun σ H2 => ∃ (a' d' fo' : Int) (cell : Option V), σ = [some (.ref p), some (.int many), cell, none, none] ∧ H2 = upd H p (.dK (cols c a' d' (n + 1) fo')) ∧ 0 ≤ a' ∧ 0 ≤ fo' ∧ fo' < 2147483648, ?_, ?_⟩
    · refine ⟨_, rfl, _, _, rfl, dg_digits hp1, rfl, _, rfl, ?_⟩
      refine ite2 (fun _ => ?_) (fun _ => ?_)
      · refine ⟨_, rfl, _, _, rfl, dg_at hp1, _, rfl, _, _, rfl, dg_cells hp1, _, _, rfl, .inl (SqL.of hc1), _, _, rfl, rfl, _, rfl, ?_⟩
        refine ite2 (fun hlt => ?_) (fun _ => ?_)
        · have hlt := of_decide_eq_true hlt
          have hj : a.toNat < (ns.map V.int).length := by omega
          obtain ⟨u, hu2⟩ := int_item (List.getElem?_eq_getElem hj)
          have hit : (ns.map V.int)[a.toNat]? = some (V.int u) := by
            rw [List.getElem?_eq_getElem hj, hu2]
          refine ⟨_, rfl, _, _, rfl, dg_cells hp1, _, rfl, _, _, rfl, dg_at hp1, _, _, _, _, rfl, rfl, SqL.of hc1, at_of (j := a.toNat) (by omega) hit, ?_⟩
          refine ⟨_, rfl, _, _, rfl, dg_at hp1, _, _, rfl, rfl, _, rfl, p, _, rfl, dp_at hp1, ?_⟩
          rw [upd_upd]
          refine ⟨_, rfl, _, _, rfl, rfl, ⟨by decide, by decide, by decide⟩, _, _, rfl, rfl, _, rfl, ?_⟩
          refine ite2 (fun _ => ?_) (fun _ => ?_)
          · refine ⟨_, rfl, _, _, rfl, rfl, ⟨by decide, by decide, by decide⟩, _, _, rfl, rfl, _, rfl, p, _, rfl, dp_digits hp1, ?_⟩
            rw [upd_upd]
            exact ⟨_, _, _, _, rfl, rfl, by omega, f0, f1⟩
          · refine ⟨_, rfl, _, _, rfl, dg_fold hp1, _, _, rfl, rfl, .inr ⟨by decide, by decide⟩, _, rfl, _, _, rfl, rfl, .inl ⟨_, rfl, _, _, rfl, rfl, (by show (0 : Int) < 2147483587; decide), ?_⟩⟩
            refine ⟨_, rfl, p, _, rfl, dp_fold hp1, ?_⟩
            rw [upd_upd]
            exact ⟨_, _, _, _, rfl, rfl, by omega, Int.emod_nonneg _ (by decide), Int.lt_trans (Int.emod_lt_of_pos _ (by decide)) (by decide)⟩
        · exact ⟨_, _, _, _, rfl, rfl, a0, f0, f1⟩
      · exact ⟨_, _, _, _, rfl, rfl, a0, f0, f1⟩
    · rintro σ H2 ⟨a', d', fo', cell, rfl, rfl, h0, g0, g1⟩
      refine ⟨_, rfl, _, _, rfl, dg_digits hp1, _, _, rfl, rfl, _, rfl, ?_⟩
      refine ite2 (fun _ => ?_) (fun _ => ?_)
      · refine ⟨_, rfl, _, _, rfl, dg_digits hp1, .inl ⟨_, rfl, _, rfl, _, _, rfl, rfl, m0, ?_⟩⟩
        refine ⟨_, rfl, _, _, rfl, dg_digits hp1, _, rfl, _, _, rfl, rfl, ⟨m0, m1⟩, _, rfl, p, _, rfl, dp_digits hp1, ?_⟩
        rw [upd_upd]
        refine ⟨_, rfl, k _ _ (Int.emod_nonneg _ (by omega)) (Int.emod_lt_of_pos _ m0) ⟨ns, _, _, _, _, hp1, hc1, hz, h0, by omega, by omega, g0, g1⟩ But.upd⟩
      · refine ⟨_, rfl, _, _, rfl, dg_fold hp1, _, rfl, _, _, rfl, dg_count hp1, _, _, rfl, rfl, .inr ⟨by decide, by decide⟩, _, _, rfl, rfl, _, _, rfl, rfl, ?_⟩
        refine ⟨_, rfl, _, _, rfl, rfl, ⟨by decide, by decide, ?_⟩, _, _, rfl, rfl, (by show (0 : Int) < 2305843009213693951; decide), .inl ⟨_, rfl, _, _, rfl, rfl, ⟨by decide, by decide⟩, _, rfl, _, _, rfl, rfl, m0, ?_⟩⟩
        · omega
        · exact k _ _ (Int.emod_nonneg _ (by omega)) (Int.emod_lt_of_pos _ m0) ⟨ns, _, _, _, _, hp1, hc1, hz, h0, by omega, by omega, g0, g1⟩ But.upd
theorem ok_pick {CX : CXT} {fD : Addr} {fdD : FuncData} (F : FnP K "_law_pick" sPick f fd) (T : Txt mg) (FD : FnP K "_law_draw" sDraw fD fdD) (gD : mg "_law_draw" = some (.ref fD)) (hCX : ∀ X, Passes CX X E0 := by exact fun X => pass0) : FnOk P w K mg base CX 2 f fd ["_law_pen_here", "_law_some"] (spPick K) := by
  have GD : FnOk P w K mg base CX0 1 fD fdD ["_law_pen_here", "_law_many"] spDraw := ok_draw FD T
  have bD : Binds K fdD ["_law_pen_here", "_law_many"] [] := FD.bindsN fun _ _ _ _ _ _ us hl => match us, hl with | [_, _], _ => rfl
  refine F.ok scPick (fun vs H Q E h => ?_) (fun cdv A outer s H vs Q E hr h => ?_)
  · obtain ⟨p, c, l, m, xs, rfl, _⟩ := h
    rfl
  · obtain ⟨p, c, l, m, xs, rfl, hP, hm, hlp, hS, h0, h1, k⟩ := h
    refine ⟨_, PSs.nox (pss_one (ps_ret (pe_ix ix_list (pv 1) (pe_call GD hr rfl gD FD.kp bD .nil pass0 (pa_cons (pv 0) (pa_cons (pe_callB call_len_seq (by rfl) T.len PySem.boot_len (pa_cons (pv 1) pa_nil)) pa_nil))) (fun _ _ => rfl)))), ?_⟩
    refine ⟨_, rfl, _, rfl, _, rfl, _, _, rfl, .inl hS, p, c, m, _, rfl, hP, hm, by omega, by omega, fun r H' r0 r1 hP' hB => ?_⟩
    have hj : r.toNat < xs.length := by omega
    have hS' : SqL K H' l xs := by
      rcases hS with (h | ⟨o, h⟩) | h
      · exact .inl (.inl (hB _ _ h hlp))
      · exact .inl (.inr ⟨o, hB _ _ h hlp⟩)
      · exact .inr h
    exact ⟨_, _, _, _, rfl, rfl, hS', at_of (j := r.toNat) (by omega) (List.getElem?_eq_getElem hj), k _ _ _ (List.getElem?_eq_getElem hj) hP' hB⟩
end
end Pen
namespace Yg
open PySem PySem.Spec PyProof.Rows L2 LamX Pen Wy
/-! ## The def that tells what a call raised -/
structure Tells (K : PySem.W.Frag) (H : Hp) (v : V) (d : PyData) : Prop where
  dp : Dp K H v d
  show_ : d.showable = true
  dict : d.hasDict = false
  deep : d.depth ≤ 60
  long : d.shown.length ≤ sizeLine
theorem Tells.repr {K : PySem.W.Frag} {H : Hp} {v : V} {d : PyData} {Q : VK} (t : Tells K H v d) (q : Q (.str d.shown) H) : Gv.rReprV K [v] H Q := ⟨v, d, rfl, t.dp, t.show_, t.dict, t.deep, t.long, q⟩
theorem len3 {a b c : V} : [a, b, c].length ≤ sizeLine := (by decide : 3 ≤ sizeLine)
theorem len2 {a b : V} : [a, b].length ≤ sizeLine := (by decide : 2 ≤ sizeLine)
/-- what the telling def asks of the exception -/
def WhyE (K : PySem.W.Frag) (CN CR : Addr) (Q : VK) : XK := fun cls d H1 => ∃ dd fs, d = some dd ∧ H1 dd = some (.xd fs) ∧
  ((cls = .ref CN ∧ ∃ (m : Str) (v : V) (dat : PyData), fs.lookup ("what" : Str) = some (.str m) ∧ fs.lookup ("number" : Str) = some v ∧ Tells K H1 v dat ∧ ∀ t, H1 t = none → Q (.ref t) (upd H1 t (.tup [.str "number", .str m, .str dat.shown]))) ∨
   (cls = .ref CR ∧ ∃ (v : V) (dat : PyData), fs.lookup ("row" : Str) = some v ∧ Tells K H1 v dat ∧ ∀ t, H1 t = none → Q (.ref t) (upd H1 t (.tup [.str "row", .str dat.shown]))))
/-- what it makes of the call's reading -/
def TWhy (K : PySem.W.Frag) (CN CR : Addr) : (XK → Hp → VK → Prop) → Hp → VK → Prop := fun tl H Q => tl (WhyE K CN CR Q) H fun _ H1 => Q .non H1
abbrev yN : List Str := ["_law_call", "e"]
theorem scWhy : FnScope yN ["_law_call"] (defScope sWhy) := ⟨rfl, rfl, rfl, by decide +kernel, rfl, by decide +kernel, by decide +kernel⟩
structure Tw (K : PySem.W.Frag) (mg : Str → Option Value) (CN CR : Addr) : Prop where
  mN : mg "BadNumber" = some (.ref CN)
  mR : mg "BadRow" = some (.ref CR)
  nn : PySem.W.exmOne K (.ref CN) (.ref CN) = some true
  rn : PySem.W.exmOne K (.ref CR) (.ref CN) = some false
  rr : PySem.W.exmOne K (.ref CR) (.ref CR) = some true
  xN : XfC K CN
  xR : XfC K CR
  nw : NoAttr K CN "what"
  nb : NoAttr K CN "number"
  nr : NoAttr K CR "row"
  rep : mg "repr" = none
abbrev whyX (X : Cx) (g : Addr) (cdg : Value) (s : Shared) (H : Hp) : Cx := (cxOf C8.CX0 X.prog X.w X.K X.mg X.base yN "_law_why" (defScope sWhy) g cdg X.A X.stack s H C8.E0).nox
theorem why_gives {X : Cx} {q : Str} {g CN CR : Addr} {cdg : Value} {k : Nat} (T : Tw X.K X.mg CN CR) (hg : X.A.guards = some []) (hr : Room (k + 1) X.A) : GivesTo X yN "_law_why" (defScope sWhy) g cdg (defBody sWhy) "_law_call" q (TWhy X.K CN CR) := by
  intro f c' s H Q tl act hc h
  have un := hr.un
  refine ⟨_, pss_cons (ps_try_all (i := 1) (n := "e") (X := whyX X g cdg s H)
      (tb := fun W D σ H => ∃ Ech : XK, (∀ cls d σ' H', Ech cls d H' → W cls d σ' H') ∧ σ[0]? = some (some (.ref f)) ∧ H c' = some (CodeO c' q) ∧ tl Ech H fun _ H1 => D.nx σ H1)
      rfl rfl scWhy.nd rfl (by rfl) takes0 (fun W pn xe tk _ => ?_)
      (.cons (c := .ref CN) ⟨by rfl, by decide, .inl T.mN⟩ (fun a oe cls d pn hz hf => pss_one (ps_ret (pe_tup (pa_cons pe_str (pa_cons (pe_xfK T.xN rfl T.nw hz hf (pv 1) rfl) (pa_cons (pe_callB (id := "repr") (r := Gv.rReprV X.K) (call_repK (X := (whyX X g cdg s H).suite a ((a, oe) :: pn)) (K := X.K) rfl hg (by show X.A.units + 3 + 100 < cLine; omega)) (by rfl) T.rep (by decide +kernel) (pa_cons (pe_xfK T.xN rfl T.nb hz hf (pv 1) rfl) pa_nil)) pa_nil))))))
      (.cons (c := .ref CR) ⟨by rfl, by decide, .inl T.mR⟩ (fun a oe cls d pn hz hf => pss_one (ps_ret (pe_tup (pa_cons pe_str (pa_cons (pe_callB (id := "repr") (r := Gv.rReprV X.K) (call_repK (X := (whyX X g cdg s H).suite a ((a, oe) :: pn)) (K := X.K) rfl hg (by show X.A.units + 3 + 100 < cLine; omega)) (by rfl) T.rep (by decide +kernel) (pa_cons (pe_xfK T.xR rfl T.nr hz hf (pv 1) rfl) pa_nil)) pa_nil)))))
      .nil)))
    (pss_one (ps_ret pe_non)), ?_⟩
  · refine ⟨fun pins s' σ H' D I h' => ?_⟩
    obtain ⟨Ech, hW, h1, h2, h3⟩ := h'
    exact (pss_one (ps_expr (act W pn xe Ech _ _ tk hW))).run pins s' σ H' D I ⟨h1, h2, h3⟩
  · refine ⟨_, fun cls d σ' H1 x lz => ?_, rfl, hc, h⟩
    obtain ⟨dd, fs, rfl, hd, x⟩ := x
    obtain ⟨w0, w1, rfl⟩ : ∃ w0 w1 : Option V, σ' = [w0, w1] := match σ', lz with | [w0, w1], _ => ⟨w0, w1, rfl⟩
    rcases x with ⟨rfl, m, v, dat, f1, f2, tl, q⟩ | ⟨rfl, v, dat, f2, tl, q⟩
    · refine ⟨true, T.nn, fun _ a na => ?_, fun z => by cases z⟩
      refine ⟨_, rfl, rfl, rfl, dd, fs, .str m, rfl, hd, f1, ?_⟩
      exact ⟨_, rfl, rfl, rfl, dd, fs, v, rfl, hd, f2, v, dat, rfl, tl.dp, tl.show_, tl.dict, tl.deep, tl.long, len3, q⟩
    · refine ⟨false, T.rn, (fun z => by cases z), fun _ => ⟨true, T.rr, fun _ a na => ?_, fun z => by cases z⟩⟩
      exact ⟨_, rfl, rfl, rfl, dd, fs, v, rfl, hd, f2, v, dat, rfl, tl.dp, tl.show_, tl.dict, tl.deep, tl.long, len2, q⟩
end Yg
namespace Ki
open PySem PySem.Spec PyProof.Rows L2 Pen Dat
/-! ## Of which kind a value is -/
structure Tx (mg : Str → Option Value) : Prop where
  isi : mg "isinstance" = none
  int : mg "int" = none
  bool : mg "bool" = none
  tuple : mg "tuple" = none
  list : mg "list" = none
  len : mg "len" = none
  all : mg "all" = none
def betD (d : PyData) (lo hi : Int) : Bool :=
  match d with
  | .int i => decide (lo ≤ i) && decide (i ≤ hi)
  | _ => false
def fromD (d : PyData) (lo : Int) : Bool :=
  match d with
  | .int i => decide (i ≥ lo)
  | _ => false
def rowsD (d : PyData) : List PyData :=
  match d with
  | .list ds => ds
  | .tuple ds => ds
  | _ => []
def rowB (d : PyData) (many lo hi : Int) : Bool := isRowD d && (decide (((rowsD d).length : Int) = many) && (rowsD d).all fun e => betD e lo hi)
def spBetween (K : PySem.W.Frag) : Sp := fun vs H Q _ => ∃ (v : V) (lo hi : Int) (d : PyData), vs = [v, .int lo, .int hi] ∧ Dp K H v d ∧ Q (.bl (betD d lo hi)) H
def spFrom (K : PySem.W.Frag) : Sp := fun vs H Q _ => ∃ (v : V) (lo : Int) (d : PyData), vs = [v, .int lo] ∧ Dp K H v d ∧ Q (.bl (fromD d lo)) H
def spRow (K : PySem.W.Frag) : Sp := fun vs H Q _ => ∃ (v : V) (d : PyData), vs = [v] ∧ Dp K H v d ∧ ∀ H', Same H H' → Q (.bl (isRowD d)) H'
def spRowB (K : PySem.W.Frag) : Sp := fun vs H Q _ => ∃ (v : V) (many lo hi : Int) (d : PyData), vs = [v, .int many, .int lo, .int hi] ∧ Dp K H v d ∧ (rowsD d).length ≤ 1000 ∧ ∀ H', Same H H' → Q (.bl (rowB d many lo hi)) H'
section
variable {P : Program} {w : World} {K : PySem.W.Frag} {mg : Str → Option Value} {base : Heap} {f : Addr} {fd : FuncData}
theorem same_new {H : Hp} {p : Addr} {u : HO} (np : H p = none) : Same H (upd H p u) := fun b o e => by
  rw [upd_ne (ne_of_none e np)]
  exact e
theorem scBetween : FnScope ["value", "least", "most"] ["value", "least", "most"] (defScope sBetween) := ⟨rfl, rfl, rfl, by decide +kernel, rfl, by decide +kernel, by decide +kernel⟩
theorem scFrom : FnScope ["value", "least"] ["value", "least"] (defScope sFrom) := ⟨rfl, rfl, rfl, by decide +kernel, rfl, by decide +kernel, by decide +kernel⟩
theorem scRow : FnScope ["value"] ["value"] (defScope sRow) := ⟨rfl, rfl, rfl, by decide +kernel, rfl, by decide +kernel, by decide +kernel⟩
abbrev rbN : List Str := ["value", "many", "least", "most", "part"]
theorem scRowB : FnScope rbN ["value", "many", "least", "most"] (defScope sRowB) := ⟨rfl, rfl, rfl, by decide +kernel, rfl, by decide +kernel, by decide +kernel⟩
theorem ok_between (F : FnP K "is_between" sBetween f fd) (T : Tx mg) : FnOk P w K mg base CX0 1 f fd ["value", "least", "most"] (spBetween K) := by
  refine F.ok scBetween (fun vs H Q E h => ?_) (fun cdv A outer s H vs Q E hr h => ?_)
  · obtain ⟨v, lo, hi, d, rfl, _⟩ := h
    rfl
  · obtain ⟨v, lo, hi, d, rfl, hd, q⟩ := h
    refine ⟨_, PSs.nox (pss_one (ps_ret (pe_and (pe_callB call_isi (by rfl) T.isi (by decide +kernel) (pa_cons (pv 0) (pa_cons (pe_bltn (v := .ty "int") (by rfl) T.int (by decide +kernel) rfl) pa_nil)))
      (pe_and (pe_not (pe_callB call_isi (by rfl) T.isi (by decide +kernel) (pa_cons (pv 0) (pa_cons (pe_bltn (v := .ty "bool") (by rfl) T.bool (by decide +kernel) rfl) pa_nil))))
      (pe_one (pe_chain op_le op_le (pv 1) (pv 0) (pv 2))))))), ?_⟩
    refine ⟨_, rfl, _, _, _, _, _, rfl, .ty _, ty_of hd, kit_int hd, _, rfl, ?_⟩
    have kb := kit_bool hd
    have tb := ty_of hd
    cases hd with
    | non => exact iteF q
    | str x => exact iteF q
    | lst _ _ => exact iteF q
    | tup _ _ => exact iteF q
    | bl b => exact iteT ⟨_, rfl, _, _, _, _, _, rfl, .ty _, tb, kb, _, rfl, _, rfl, iteF q⟩
    | int i =>
      refine iteT ⟨_, rfl, _, _, _, _, _, rfl, .ty _, tb, kb, _, rfl, _, rfl, iteT ?_⟩
      refine ⟨_, rfl, _, rfl, _, _, rfl, rfl, _, rfl, ite2 (fun h1 => ?_) (fun h1 => ?_)⟩
      · refine ⟨_, rfl, _, _, rfl, rfl, ?_⟩
        have e : (decide (lo ≤ i) && decide (i ≤ hi)) = decide (i ≤ hi) := by
          rw [h1]
          rfl
        show Q (V.bl (decide (i ≤ hi))) H
        rw [← e]
        exact q
      · have e : (decide (lo ≤ i) && decide (i ≤ hi)) = false := by
          rw [Bool.eq_false_iff.mpr h1]
          rfl
        show Q (V.bl false) H
        rw [← e]
        exact q
theorem ok_from (F : FnP K "is_from" sFrom f fd) (T : Tx mg) : FnOk P w K mg base CX0 1 f fd ["value", "least"] (spFrom K) := by
  refine F.ok scFrom (fun vs H Q E h => ?_) (fun cdv A outer s H vs Q E hr h => ?_)
  · obtain ⟨v, lo, d, rfl, _⟩ := h
    rfl
  · obtain ⟨v, lo, d, rfl, hd, q⟩ := h
    refine ⟨_, PSs.nox (pss_one (ps_ret (pe_and (pe_callB call_isi (by rfl) T.isi (by decide +kernel) (pa_cons (pv 0) (pa_cons (pe_bltn (v := .ty "int") (by rfl) T.int (by decide +kernel) rfl) pa_nil)))
      (pe_and (pe_not (pe_callB call_isi (by rfl) T.isi (by decide +kernel) (pa_cons (pv 0) (pa_cons (pe_bltn (v := .ty "bool") (by rfl) T.bool (by decide +kernel) rfl) pa_nil))))
      (pe_one (pe_cmpR op_ge (pv 0) (pv 1) (nomark _))))))), ?_⟩
    refine ⟨_, rfl, _, _, _, _, _, rfl, .ty _, ty_of hd, kit_int hd, _, rfl, ?_⟩
    have kb := kit_bool hd
    have tb := ty_of hd
    cases hd with
    | non => exact iteF q
    | str x => exact iteF q
    | lst _ _ => exact iteF q
    | tup _ _ => exact iteF q
    | bl b => exact iteT ⟨_, rfl, _, _, _, _, _, rfl, .ty _, tb, kb, _, rfl, _, rfl, iteF q⟩
    | int i =>
      refine iteT ⟨_, rfl, _, _, _, _, _, rfl, .ty _, tb, kb, _, rfl, _, rfl, iteT ?_⟩
      exact ⟨_, rfl, _, rfl, _, _, rfl, rfl, q⟩
theorem ok_row (F : FnP K "is_row" sRow f fd) (T : Tx mg) : FnOk P w K mg base CX0 1 f fd ["value"] (spRow K) := by
  refine F.ok scRow (fun vs H Q E h => ?_) (fun cdv A outer s H vs Q E hr h => ?_)
  · obtain ⟨v, d, rfl, _⟩ := h
    rfl
  · obtain ⟨v, d, rfl, hd, q⟩ := h
    refine ⟨_, PSs.nox (pss_one (ps_ret (pe_callB call_isiT (by rfl) T.isi (by decide +kernel) (pa_cons (pv 0) (pa_cons (pe_tup (pa_cons (pe_bltn (v := .ty "tuple") (by rfl) T.tuple (by decide +kernel) rfl) (pa_cons (pe_bltn (v := .ty "list") (by rfl) T.list (by decide +kernel) rfl) pa_nil))) pa_nil))))), ?_⟩
    refine ⟨_, rfl, (by show 2 ≤ sizeLine; decide), fun p np => ?_⟩
    exact ⟨_, _, _, _, _, _, rfl, upd_same, .cons (.ty _) (.cons (.ty _) .nil), ty_of (dp_same (same_new np) hd), kit_row hd, q _ (same_new np)⟩
theorem take_more {α : Type} {xs : List α} {i : Nat} {x : α} (h : xs[i]? = some x) : xs.take (i + 1) = xs.take i ++ [x] := by
  rw [List.take_succ, h]
  rfl
theorem yes_of {σ : L2.St} {H : Hp} {A B : Hp → Prop} (h : A H) : tYes σ H fun b H3 => if b = true then A H3 else B H3 := by
  show if true = true then A H else B H
  exact iteT h
theorem ok_rowB {fB fR : Addr} {fdB fdR : FuncData} (F : FnP K "is_row_between" sRowB f fd) (T : Tx mg) (FB : FnP K "is_between" sBetween fB fdB) (gB : mg "is_between" = some (.ref fB)) (FR : FnP K "is_row" sRow fR fdR) (gR : mg "is_row" = some (.ref fR)) :
    FnOk P w K mg base CX0 2 f fd ["value", "many", "least", "most"] (spRowB K) := by
  have GB : FnOk P w K mg base CX0 1 fB fdB ["value", "least", "most"] (spBetween K) := ok_between FB T
  have GR : FnOk P w K mg base CX0 1 fR fdR ["value"] (spRow K) := ok_row FR T
  have bB : Binds K fdB ["value", "least", "most"] [] := FB.bindsN fun _ _ _ _ _ _ us hl => match us, hl with | [_, _, _], _ => rfl
  have bR : Binds K fdR ["value"] [] := FR.bindsN fun _ _ _ _ _ _ us hl => match us, hl with | [_], _ => rfl
  refine F.ok scRowB (fun vs H Q E h => ?_) (fun cdv A outer s H vs Q E hr h => ?_)
  · obtain ⟨v, many, lo, hi, d, rfl, _⟩ := h
    rfl
  · obtain ⟨v, many, lo, hi, d, rfl, hd, hz, q⟩ := h
    cases hd with
    | lst hs ha =>
      rename_i a vs ds
      have hlen := dps_len ha
      have hz' : ds.length ≤ 1000 := hz
      refine ⟨_, PSs.nox (pss_one (ps_ret (pe_and (pe_call GR hr (by rfl) gR FR.kp bR .nil pass0 (pa_cons (pv 0) pa_nil))
        (pe_and (pe_cmpR op_eq (pe_callB call_len_seq (by rfl) T.len PySem.boot_len (pa_cons (pv 0) pa_nil)) (pv 1) (nomark _))
        (pe_one (pe_callB (cr_all rfl) (by rfl) T.all (by decide +kernel) (pa_cons
          (pe_lc (own := [("part", 4)]) (g := gName 4) (tt := tYes) rfl scRowB.nd (pi_list (pv 0)) (blkOk_by (N := rbN) (sc := defScope sRowB) (by decide +kernel)) (fun _ _ _ _ _ => pg_name (i := 4) scRowB.nd rfl (Or.inl rfl)) (fun _ _ _ _ _ => pts_nil)
            (fun _ _ _ _ _ => pe_call GB hr (by rfl) gB FB.kp bB .nil pass0 (pa_cons (pv 4) (pa_cons (pv 2) (pa_cons (pv 3) pa_nil))))) pa_nil))))))), ?_⟩
      refine ⟨_, rfl, _, _, rfl, .lst hs ha, fun H1 s1 => ⟨_, rfl, iteT ?_⟩⟩
      refine ⟨_, rfl, _, _, rfl, .inl (s1.seq hs), _, rfl, rfl, _, rfl, ite2 (fun e1 => ?_) (fun e1 => ?_)⟩
      · have e2 : (ds.length : Int) = many := by
          rw [← hlen]
          exact V.int.inj (of_decide_eq_true e1)
        refine ⟨_, rfl, a, rfl, ⟨_, s1.seq hs⟩, fun D nD => ?_⟩
        have sD : Same H1 (upd H1 D (.lst [])) := same_new nD
        refine lc_list (K := K) (a := a) (xs := vs) (fun i H2 => Same H1 H2 ∧ H2 D = some (.lst ((ds.take i).map fun e => V.bl (betD e lo hi)))) ⟨sD, by rw [upd_same]; rfl⟩ (fun i H2 _ ⟨s2, _⟩ => s2.seq (s1.seq hs)) ?_ ?_
        · rintro i v H2 hi ⟨s2, h2⟩
          obtain ⟨e, he, hv⟩ := dps_get ha hi
          refine ⟨rfl, yes_of ?_⟩
          refine ⟨_, rfl, _, rfl, _, rfl, _, _, _, e, rfl, dp_same (s1.trans s2) hv, _, h2, ?_, fun b o z => ?_, ?_⟩
          · rw [List.length_map, List.length_take]
            exact Nat.lt_of_le_of_lt (Nat.min_le_right _ _) (Nat.lt_of_le_of_lt hz' (by decide))
          · rw [upd_ne (ne_of_none z nD)]
            exact s2 _ _ z
          · rw [upd_same, take_more he, List.map_append]
            rfl
        · rintro H2 ⟨s2, h2⟩
          rw [hlen, List.take_length] at h2
          refine ⟨D, ds.map fun e => betD e lo hi, rfl, SqL.of ?_, ?_⟩
          · rw [h2, List.map_map]
            rfl
          · have e3 : rowB (.list ds) many lo hi = (ds.map fun e => betD e lo hi).all id := by
              show (true && (decide ((ds.length : Int) = many) && ds.all fun e => betD e lo hi)) = _
              rw [decide_eq_true e2, List.all_map]
              rfl
            rw [← e3]
            exact q _ (s1.trans s2)
      · have e2 : ¬ (ds.length : Int) = many := fun z => e1 (decide_eq_true (by rw [hlen, z]))
        have e3 : rowB (.list ds) many lo hi = false := by
          show (true && (decide ((ds.length : Int) = many) && ds.all fun e => betD e lo hi)) = false
          rw [decide_eq_false e2]
          rfl
        rw [← e3]
        exact q _ s1
    | tup hs ha =>
      rename_i a vs ds
      have hlen := dps_len ha
      have hz' : ds.length ≤ 1000 := hz
      refine ⟨_, PSs.nox (pss_one (ps_ret (pe_and (pe_call GR hr (by rfl) gR FR.kp bR .nil pass0 (pa_cons (pv 0) pa_nil))
        (pe_and (pe_cmpR op_eq (pe_callB call_len_seq (by rfl) T.len PySem.boot_len (pa_cons (pv 0) pa_nil)) (pv 1) (nomark _))
        (pe_one (pe_callB (cr_all rfl) (by rfl) T.all (by decide +kernel) (pa_cons
          (pe_lc (own := [("part", 4)]) (g := gName 4) (tt := tYes) rfl scRowB.nd (pi_tup (pv 0)) (blkOk_by (N := rbN) (sc := defScope sRowB) (by decide +kernel)) (fun _ _ _ _ _ => pg_name (i := 4) scRowB.nd rfl (Or.inl rfl)) (fun _ _ _ _ _ => pts_nil)
            (fun _ _ _ _ _ => pe_call GB hr (by rfl) gB FB.kp bB .nil pass0 (pa_cons (pv 4) (pa_cons (pv 2) (pa_cons (pv 3) pa_nil))))) pa_nil))))))), ?_⟩
      refine ⟨_, rfl, _, _, rfl, .tup hs ha, fun H1 s1 => ⟨_, rfl, iteT ?_⟩⟩
      refine ⟨_, rfl, _, _, rfl, .inr (seqT_same s1 hs), _, rfl, rfl, _, rfl, ite2 (fun e1 => ?_) (fun e1 => ?_)⟩
      · have e2 : (ds.length : Int) = many := by
          rw [← hlen]
          exact V.int.inj (of_decide_eq_true e1)
        refine ⟨_, rfl, a, rfl, ⟨_, seqT_same s1 hs⟩, fun D nD => ?_⟩
        have sD : Same H1 (upd H1 D (.lst [])) := same_new nD
        refine lc_tup (K := K) (a := a) (xs := vs) (fun i H2 => Same H1 H2 ∧ H2 D = some (.lst ((ds.take i).map fun e => V.bl (betD e lo hi)))) ⟨sD, by rw [upd_same]; rfl⟩ (fun i H2 _ ⟨s2, _⟩ => seqT_same s2 (seqT_same s1 hs)) ?_ ?_
        · rintro i v H2 hi ⟨s2, h2⟩
          obtain ⟨e, he, hv⟩ := dps_get ha hi
          refine ⟨rfl, yes_of ?_⟩
          refine ⟨_, rfl, _, rfl, _, rfl, _, _, _, e, rfl, dp_same (s1.trans s2) hv, _, h2, ?_, fun b o z => ?_, ?_⟩
          · rw [List.length_map, List.length_take]
            exact Nat.lt_of_le_of_lt (Nat.min_le_right _ _) (Nat.lt_of_le_of_lt hz' (by decide))
          · rw [upd_ne (ne_of_none z nD)]
            exact s2 _ _ z
          · rw [upd_same, take_more he, List.map_append]
            rfl
        · rintro H2 ⟨s2, h2⟩
          rw [hlen, List.take_length] at h2
          refine ⟨D, ds.map fun e => betD e lo hi, rfl, SqL.of ?_, ?_⟩
          · rw [h2, List.map_map]
            rfl
          · have e3 : rowB (.tuple ds) many lo hi = (ds.map fun e => betD e lo hi).all id := by
              show (true && (decide ((ds.length : Int) = many) && ds.all fun e => betD e lo hi)) = _
              rw [decide_eq_true e2, List.all_map]
              rfl
            rw [← e3]
            exact q _ (s1.trans s2)
      · have e2 : ¬ (ds.length : Int) = many := fun z => e1 (decide_eq_true (by rw [hlen, z]))
        have e3 : rowB (.tuple ds) many lo hi = false := by
          show (true && (decide ((ds.length : Int) = many) && ds.all fun e => betD e lo hi)) = false
          rw [decide_eq_false e2]
          rfl
        rw [← e3]
        exact q _ s1
    | non =>
      refine ⟨_, PSs.nox (pss_one (ps_ret (pe_and (pe_call GR hr (by rfl) gR FR.kp bR .nil pass0 (pa_cons (pv 0) pa_nil))
        (pe_and (pe_cmpR op_eq (pe_callB call_len_seq (by rfl) T.len PySem.boot_len (pa_cons (pv 0) pa_nil)) (pv 1) (nomark _))
        (pe_one (pe_callB (cr_all rfl) (by rfl) T.all (by decide +kernel) (pa_cons
          (pe_lc (own := [("part", 4)]) (g := gName 4) (tt := tYes) rfl scRowB.nd (pi_list (pv 0)) (blkOk_by (N := rbN) (sc := defScope sRowB) (by decide +kernel)) (fun _ _ _ _ _ => pg_name (i := 4) scRowB.nd rfl (Or.inl rfl)) (fun _ _ _ _ _ => pts_nil)
            (fun _ _ _ _ _ => pe_call GB hr (by rfl) gB FB.kp bB .nil pass0 (pa_cons (pv 4) (pa_cons (pv 2) (pa_cons (pv 3) pa_nil))))) pa_nil))))))), ?_⟩
      exact ⟨_, rfl, _, _, rfl, .non, fun H1 s1 => ⟨_, rfl, iteF (q _ s1)⟩⟩
    | bl b =>
      refine ⟨_, PSs.nox (pss_one (ps_ret (pe_and (pe_call GR hr (by rfl) gR FR.kp bR .nil pass0 (pa_cons (pv 0) pa_nil))
        (pe_and (pe_cmpR op_eq (pe_callB call_len_seq (by rfl) T.len PySem.boot_len (pa_cons (pv 0) pa_nil)) (pv 1) (nomark _))
        (pe_one (pe_callB (cr_all rfl) (by rfl) T.all (by decide +kernel) (pa_cons
          (pe_lc (own := [("part", 4)]) (g := gName 4) (tt := tYes) rfl scRowB.nd (pi_list (pv 0)) (blkOk_by (N := rbN) (sc := defScope sRowB) (by decide +kernel)) (fun _ _ _ _ _ => pg_name (i := 4) scRowB.nd rfl (Or.inl rfl)) (fun _ _ _ _ _ => pts_nil)
            (fun _ _ _ _ _ => pe_call GB hr (by rfl) gB FB.kp bB .nil pass0 (pa_cons (pv 4) (pa_cons (pv 2) (pa_cons (pv 3) pa_nil))))) pa_nil))))))), ?_⟩
      exact ⟨_, rfl, _, _, rfl, .bl b, fun H1 s1 => ⟨_, rfl, iteF (q _ s1)⟩⟩
    | int i =>
      refine ⟨_, PSs.nox (pss_one (ps_ret (pe_and (pe_call GR hr (by rfl) gR FR.kp bR .nil pass0 (pa_cons (pv 0) pa_nil))
        (pe_and (pe_cmpR op_eq (pe_callB call_len_seq (by rfl) T.len PySem.boot_len (pa_cons (pv 0) pa_nil)) (pv 1) (nomark _))
        (pe_one (pe_callB (cr_all rfl) (by rfl) T.all (by decide +kernel) (pa_cons
          (pe_lc (own := [("part", 4)]) (g := gName 4) (tt := tYes) rfl scRowB.nd (pi_list (pv 0)) (blkOk_by (N := rbN) (sc := defScope sRowB) (by decide +kernel)) (fun _ _ _ _ _ => pg_name (i := 4) scRowB.nd rfl (Or.inl rfl)) (fun _ _ _ _ _ => pts_nil)
            (fun _ _ _ _ _ => pe_call GB hr (by rfl) gB FB.kp bB .nil pass0 (pa_cons (pv 4) (pa_cons (pv 2) (pa_cons (pv 3) pa_nil))))) pa_nil))))))), ?_⟩
      exact ⟨_, rfl, _, _, rfl, .int i, fun H1 s1 => ⟨_, rfl, iteF (q _ s1)⟩⟩
    | str x =>
      refine ⟨_, PSs.nox (pss_one (ps_ret (pe_and (pe_call GR hr (by rfl) gR FR.kp bR .nil pass0 (pa_cons (pv 0) pa_nil))
        (pe_and (pe_cmpR op_eq (pe_callB call_len_seq (by rfl) T.len PySem.boot_len (pa_cons (pv 0) pa_nil)) (pv 1) (nomark _))
        (pe_one (pe_callB (cr_all rfl) (by rfl) T.all (by decide +kernel) (pa_cons
          (pe_lc (own := [("part", 4)]) (g := gName 4) (tt := tYes) rfl scRowB.nd (pi_list (pv 0)) (blkOk_by (N := rbN) (sc := defScope sRowB) (by decide +kernel)) (fun _ _ _ _ _ => pg_name (i := 4) scRowB.nd rfl (Or.inl rfl)) (fun _ _ _ _ _ => pts_nil)
            (fun _ _ _ _ _ => pe_call GB hr (by rfl) gB FB.kp bB .nil pass0 (pa_cons (pv 4) (pa_cons (pv 2) (pa_cons (pv 3) pa_nil))))) pa_nil))))))), ?_⟩
      exact ⟨_, rfl, _, _, rfl, .str x, fun H1 s1 => ⟨_, rfl, iteF (q _ s1)⟩⟩
end
end Ki
namespace Fi
open PySem PySem.Spec PyProof.Rows L2 Pen Dat
/-! ## What never changes: tuples, locked things, instances -/
def firm : HO → Bool
  | .tup _ => true
  | .frz _ _ => true
  | .ins _ _ _ => true
  | _ => false
def Firm (H H' : Hp) : Prop := ∀ b o, H b = some o → firm o = true → H' b = some o
theorem Firm.refl (H : Hp) : Firm H H := fun _ _ e _ => e
theorem Firm.trans {H H1 H2 : Hp} (a : Firm H H1) (b : Firm H1 H2) : Firm H H2 := fun c o e h => b c o (a c o e h) h
theorem Firm.of {H H' : Hp} (s : Same H H') : Firm H H' := fun b o e _ => s b o e
theorem Firm.upd {H : Hp} {a : Addr} {u o : HO} (h : H a = some u) (hu : firm u = false) : Firm H (upd H a o) := fun b z e hz => by
  rw [upd_ne (fun q => by rw [q, h] at e; cases e; rw [hu] at hz; cases hz)]
  exact e
theorem Firm.but {H H' : Hp} {p : Addr} {u : HO} (c : But p H H') (h : H p = some u) (hu : firm u = false) : Firm H H' := fun b z e hz =>
  c b z e fun q => by
    rw [q, h] at e
    cases e
    rw [hu] at hz
    cases hz
theorem Firm.pen {H H' : Hp} {p c : Addr} {m : Nat} (b : But p H H') (h : PenC H p c m) : Firm H H' := by
  obtain ⟨_, _, _, _, _, h1, _⟩ := h
  exact Firm.but b h1 rfl
/-! ### two lists, item by item -/
inductive All2 {α : Type} (R : V → α → Prop) : List V → List α → Prop
  | nil : All2 R [] []
  | cons {v : V} {x : α} {vs : List V} {xs : List α} : R v x → All2 R vs xs → All2 R (v :: vs) (x :: xs)
section
variable {α : Type} {R R' : V → α → Prop}
theorem All2.len : ∀ {vs : List V} {xs : List α}, All2 R vs xs → vs.length = xs.length
  | _, _, .nil => rfl
  | _, _, .cons _ h => congrArg Nat.succ h.len
theorem All2.imp (f : ∀ v x, R v x → R' v x) : ∀ {vs : List V} {xs : List α}, All2 R vs xs → All2 R' vs xs
  | _, _, .nil => .nil
  | _, _, .cons h t => .cons (f _ _ h) (t.imp f)
theorem All2.get : ∀ {vs : List V} {xs : List α}, All2 R vs xs → ∀ {i : Nat} {v : V}, vs[i]? = some v → ∃ x, xs[i]? = some x ∧ R v x
  | _, _, .nil, i, v, e => by simp at e
  | _, _, .cons (v := v0) (x := x0) h t, 0, v, e => by
    simp at e
    subst e
    exact ⟨x0, rfl, h⟩
  | _, _, .cons h t, i + 1, v, e => by
    simp at e
    obtain ⟨x, q1, q2⟩ := t.get e
    exact ⟨x, by simpa using q1, q2⟩
theorem All2.get' : ∀ {vs : List V} {xs : List α}, All2 R vs xs → ∀ {i : Nat} {x : α}, xs[i]? = some x → ∃ v, vs[i]? = some v ∧ R v x
  | _, _, .nil, i, v, e => by simp at e
  | _, _, .cons (v := v0) (x := x0) h t, 0, v, e => by
    simp at e
    subst e
    exact ⟨v0, rfl, h⟩
  | _, _, .cons h t, i + 1, v, e => by
    simp at e
    obtain ⟨x, q1, q2⟩ := t.get' e
    exact ⟨x, by simpa using q1, q2⟩
theorem All2.snoc {v : V} {x : α} (h : R v x) : ∀ {vs : List V} {xs : List α}, All2 R vs xs → All2 R (vs ++ [v]) (xs ++ [x])
  | _, _, .nil => .cons h .nil
  | _, _, .cons h1 t => .cons h1 (t.snoc h)
theorem All2.append : ∀ {vs ws : List V} {xs ys : List α}, All2 R vs xs → All2 R ws ys → All2 R (vs ++ ws) (xs ++ ys)
  | _, _, _, _, .nil, h => h
  | _, _, _, _, .cons h1 t, h => .cons h1 (t.append h)
theorem All2.take : ∀ {vs : List V} {xs : List α} (n : Nat), All2 R vs xs → All2 R (vs.take n) (xs.take n)
  | _, _, 0, _ => by
    rw [List.take_zero, List.take_zero]
    exact .nil
  | _, _, _ + 1, .nil => .nil
  | _, _, n + 1, .cons h t => .cons h (t.take n)
end
/-! ### pairs, rows of pairs, rows of ints -/
def Pt (K : PySem.W.Frag) (H : Hp) (v : V) (p : Int × Int) : Prop := ∃ q, v = .ref q ∧ SqT K H q [.int p.1, .int p.2]
def Pr (K : PySem.W.Frag) (H : Hp) (v : V) (p : Int × Int) : Prop := ∃ q, v = .ref q ∧ (SqL K H q [.int p.1, .int p.2] ∨ SqT K H q [.int p.1, .int p.2])
def Tu (K : PySem.W.Frag) (H : Hp) (v : V) (r : List Int) : Prop := ∃ q, v = .ref q ∧ H q = some (.tup (r.map V.int))
def GT (K : PySem.W.Frag) (H : Hp) (g : Addr) (gs : List (Int × Int)) : Prop := ∃ vs, SqT K H g vs ∧ All2 (Pt K H) vs gs
def RowG (K : PySem.W.Frag) (H : Hp) (v : V) (gs : List (Int × Int)) : Prop := ∃ r vs, v = .ref r ∧ (SqL K H r vs ∨ SqT K H r vs) ∧ All2 (Pr K H) vs gs
section
variable {K : PySem.W.Frag} {H H' : Hp}
theorem firm_seq {a : Addr} {xs : List V} (s : Firm H H') (h : SqT K H a xs) : SqT K H' a xs :=
  h.elim (fun h => .inl (h.elim (fun h => .inl (s _ _ h rfl)) fun ⟨o, h⟩ => .inr ⟨o, s _ _ h rfl⟩)) .inr
theorem Pt.firm {v : V} {p : Int × Int} (s : Firm H H') (h : Pt K H v p) : Pt K H' v p := by
  obtain ⟨q, e, h⟩ := h
  exact ⟨q, e, firm_seq s h⟩
theorem Tu.firm {v : V} {r : List Int} (s : Firm H H') (h : Tu K H v r) : Tu K H' v r := by
  obtain ⟨q, e, h⟩ := h
  exact ⟨q, e, s _ _ h rfl⟩
theorem GT.firm {g : Addr} {gs : List (Int × Int)} (s : Firm H H') (h : GT K H g gs) : GT K H' g gs := by
  obtain ⟨vs, h1, h2⟩ := h
  exact ⟨vs, firm_seq s h1, h2.imp fun _ _ q => q.firm s⟩
theorem Pr.same {v : V} {p : Int × Int} (s : Same H H') (h : Pr K H v p) : Pr K H' v p := by
  obtain ⟨q, e, h⟩ := h
  exact ⟨q, e, h.elim (fun h => .inl (s.seq h)) fun h => .inr (seqT_same s h)⟩
theorem RowG.same {v : V} {gs : List (Int × Int)} (s : Same H H') (h : RowG K H v gs) : RowG K H' v gs := by
  obtain ⟨r, vs, e, h1, h2⟩ := h
  exact ⟨r, vs, e, h1.elim (fun h => .inl (s.seq h)) fun h => .inr (seqT_same s h), h2.imp fun _ _ q => q.same s⟩
theorem Pt.pr {v : V} {p : Int × Int} (h : Pt K H v p) : Pr K H v p := by
  obtain ⟨q, e, h⟩ := h
  exact ⟨q, e, .inr h⟩
theorem GT.row {g : Addr} {gs : List (Int × Int)} (h : GT K H g gs) : RowG K H (.ref g) gs := by
  obtain ⟨vs, h1, h2⟩ := h
  exact ⟨g, vs, rfl, .inr h1, h2.imp fun _ _ q => q.pr⟩
/-- a row of pairs, as data -/
def pD (p : Int × Int) : PyData := .tuple [.int p.1, .int p.2]
def gD (gs : List (Int × Int)) : PyData := .tuple (gs.map pD)
theorem pt_dp {v : V} {p : Int × Int} (h : Pt K H v p) : Dp K H v (pD p) := by
  obtain ⟨q, rfl, h⟩ := h
  exact .tup h (.cons (.int _) (.cons (.int _) .nil))
theorem pts_dp : ∀ {vs : List V} {gs : List (Int × Int)}, All2 (Pt K H) vs gs → DpAll K H vs (gs.map pD)
  | _, _, .nil => .nil
  | _, _, .cons h t => .cons (pt_dp h) (pts_dp t)
theorem GT.dp {g : Addr} {gs : List (Int × Int)} (h : GT K H g gs) : Dp K H (.ref g) (gD gs) := by
  obtain ⟨vs, h1, h2⟩ := h
  exact .tup h1 (pts_dp h2)
theorem ints_dp : ∀ (r : List Int), DpAll K H (r.map V.int) (r.map PyData.int)
  | [] => .nil
  | _ :: r => .cons (.int _) (ints_dp r)
end
end Fi
namespace Gr
open PySem PySem.Spec PyProof.Rows L2 Pen Dat Ki Fi
/-! ## Graphs -/
structure Tx (K : PySem.W.Frag) (mg : Str → Option Value) (C : Addr) : Prop where
  ki : Ki.Tx mg
  cl : Cls K C
  nL : NoAttr K C "leaves"
  nG : NoAttr K C "gates"
  mgC : mg "Graph" = some (.ref C)
  cls : PySem.W.findIn K (.ref C) "__class__" = some (some (.builtin "object.__class__"))
  spc : PySem.W.specialIn K (.builtin "object.__class__") "__get__" = some (some (.builtin "getset_descriptor.__get__"))
  tak : PySem.W.takesIn K (.builtin "object.__class__") = some true
  met : ∀ {H : Hp} {a dx : Addr} {fs : List (Str × V)}, H a = some (.ins C dx fs) → TyOf K H (.ref a) (.ref C)
  own : PySem.W.kitOne K (.ref C) (.ref C) = some true
  tup : PySem.W.kitOne K (.type "tuple") (.ref C) = some false
def flds (n : Int) (g : Addr) : List (Str × V) := putF "gates" (.ref g) (putF "leaves" (.int n) [])
theorem kLG : ¬ (("leaves" : Str) = "gates") := by decide +kernel
theorem flds_eq (n : Int) (g : Addr) : flds n g = ([("leaves", V.int n), ("gates", V.ref g)] : List (Str × V)) := by
  show (if ("leaves" : Str) = "gates" then [(("leaves" : Str), V.ref g)] else (("leaves" : Str), V.int n) :: putF "gates" (V.ref g) []) = ([("leaves", V.int n), ("gates", V.ref g)] : List (Str × V))
  rw [if_neg kLG]
  all_goals rfl
theorem flds_L (n : Int) (g : Addr) : (flds n g).lookup ("leaves" : Str) = some (.int n) := by
  unfold flds
  rw [lookup_putF, if_neg kLG, lookup_putF, if_pos rfl]
theorem flds_G (n : Int) (g : Addr) : (flds n g).lookup ("gates" : Str) = some (.ref g) := by
  unfold flds
  rw [lookup_putF, if_pos rfl]
def GraphAt (K : PySem.W.Frag) (C : Addr) (H : Hp) (p : Addr) (n : Int) (gs : List (Int × Int)) : Prop := ∃ dx g, H p = some (.ins C dx (flds n g)) ∧ GT K H g gs
theorem GraphAt.firm {K : PySem.W.Frag} {C p : Addr} {H H' : Hp} {n : Int} {gs : List (Int × Int)} (s : Firm H H') (h : GraphAt K C H p n gs) : GraphAt K C H' p n gs := by
  obtain ⟨dx, g, h1, h2⟩ := h
  exact ⟨dx, g, s _ _ h1 rfl, h2.firm s⟩
def goB : Int → List PyData → Bool
  | _, [] => true
  | m, e :: r => rowB e 2 0 m && goB (m + 2) r
def gatesB (n : Int) (d : PyData) : Bool := isRowD d && goB (2 * n + 1) (rowsD d)
def within (a m : Int) : Bool := decide (0 ≤ a) && decide (a ≤ m)
def okG : Int → List (Int × Int) → Bool
  | _, [] => true
  | m, p :: r => (within p.1 m && within p.2 m) && okG (m + 2) r
theorem pr_dp {K : PySem.W.Frag} {H : Hp} {v : V} {p : Int × Int} (h : Pr K H v p) : ∃ e, Dp K H v e ∧ (rowsD e).length ≤ 1000 ∧ ∀ m, rowB e 2 0 m = (within p.1 m && within p.2 m) := by
  obtain ⟨q, rfl, h | h⟩ := h
  · exact ⟨_, .lst h (.cons (.int _) (.cons (.int _) .nil)), by show 2 ≤ 1000; decide, fun m => by show (true && (decide (((2 : Nat) : Int) = 2) && (within p.1 m && (within p.2 m && true)))) = _; rw [decide_eq_true (by rfl), Bool.and_true]; rfl⟩
  · exact ⟨_, .tup h (.cons (.int _) (.cons (.int _) .nil)), by show 2 ≤ 1000; decide, fun m => by show (true && (decide (((2 : Nat) : Int) = 2) && (within p.1 m && (within p.2 m && true)))) = _; rw [decide_eq_true (by rfl), Bool.and_true]; rfl⟩
theorem prs_dp {K : PySem.W.Frag} {H : Hp} : ∀ {vs : List V} {gs : List (Int × Int)}, All2 (Pr K H) vs gs → ∃ ds, DpAll K H vs ds ∧ ds.length = gs.length ∧ (∀ e ∈ ds, (rowsD e).length ≤ 1000) ∧ ∀ m, goB m ds = okG m gs
  | _, _, .nil => ⟨[], .nil, rfl, (fun e z => absurd z List.not_mem_nil), fun m => rfl⟩
  | _, _, .cons h t => by
    obtain ⟨e, e1, e2, e3⟩ := pr_dp h
    obtain ⟨ds, d1, d2, d3, d4⟩ := prs_dp t
    refine ⟨e :: ds, .cons e1 d1, congrArg Nat.succ d2, fun z hz => ?_, fun m => ?_⟩
    · rcases List.mem_cons.mp hz with rfl | hz
      · exact e2
      · exact d3 z hz
    · show (rowB e 2 0 m && goB (m + 2) ds) = _
      rw [e3, d4]
      rfl
theorem row_dp {K : PySem.W.Frag} {H : Hp} {v : V} {gs : List (Int × Int)} (h : RowG K H v gs) : ∃ d, Dp K H v d ∧ (rowsD d).length = gs.length ∧ (∀ e ∈ rowsD d, (rowsD e).length ≤ 1000) ∧ ∀ n, gatesB n d = okG (2 * n + 1) gs := by
  obtain ⟨r, vs, rfl, h1, h2⟩ := h
  obtain ⟨ds, d1, d2, d3, d4⟩ := prs_dp h2
  rcases h1 with h1 | h1
  · exact ⟨.list ds, .lst h1 d1, d2, d3, fun n => d4 _⟩
  · exact ⟨.tuple ds, .tup h1 d1, d2, d3, fun n => d4 _⟩
def spNeed : Sp := fun vs H Q _ => ∃ n : Int, vs = [.int n] ∧ n ≥ 0 ∧ Q .non H
def spGates (K : PySem.W.Frag) : Sp := fun vs H Q _ => ∃ (n : Int) (v : V) (d : PyData), vs = [.int n, v] ∧ Dp K H v d ∧ (rowsD d).length ≤ 1000 ∧ (∀ e ∈ rowsD d, (rowsD e).length ≤ 1000) ∧ ∀ H', Same H H' → Q (.bl (gatesB n d)) H'
def spInit (K : PySem.W.Frag) (C : Addr) : Sp := fun vs H Q _ => ∃ (p dx : Addr) (n : Int) (v : V) (gs : List (Int × Int)), vs = [.ref p, .int n, v] ∧ H p = some (.ins C dx []) ∧ n ≥ 0 ∧ RowG K H v gs ∧ gs.length ≤ 1000 ∧ okG (2 * n + 1) gs = true ∧
  ∀ H', (∀ b o, H b = some o → b ≠ p → H' b = some o) → GraphAt K C H' p n gs → Q .non H'
def spEqG (K : PySem.W.Frag) (C : Addr) : Sp := fun vs H Q _ => ∃ (p : Addr) (v : V) (n : Int) (gs : List (Int × Int)), vs = [.ref p, v] ∧ GraphAt K C H p n gs ∧
  ((∃ (q : Addr) (n' : Int) (gs' : List (Int × Int)), v = .ref q ∧ GraphAt K C H q n' gs' ∧ Q (.bl (decide (n = n') && PyData.eqv (gD gs) (gD gs'))) H) ∨ ∃ (t : Addr) (xs : List V), v = .ref t ∧ SqT K H t xs ∧ Q (.bl false) H)
theorem can_pD : ∀ gs : List (Int × Int), PyData.canLayAll0 (gs.map pD) = true
  | [] => rfl
  | _ :: r => can_pD r
theorem deep_pD : ∀ gs : List (Int × Int), PyData.depthAll (gs.map pD) ≤ 1
  | [] => Nat.zero_le _
  | p :: r => Nat.max_le.mpr ⟨Nat.le_refl _, deep_pD r⟩
theorem shaped_gD (gs : List (Int × Int)) : SeqAt.shaped (gD gs) = true := by
  have h1 := can_pD gs
  have h2 := deep_pD gs
  unfold SeqAt.shaped
  rw [Bool.and_eq_true]
  exact ⟨h1, decide_eq_true (by show PyData.depthAll (gs.map pD) + 1 ≤ 64; omega)⟩
def rTupOf (K : PySem.W.Frag) : List V → Hp → VK → Prop := fun xs H Q => ∃ p ys, xs = [V.ref p] ∧ ((SqL K H p ys ∧ ∀ l, H l = none → Q (.ref l) (upd H l (.tup ys))) ∨ (SqT K H p ys ∧ Q (.ref p) H))
section
variable {P : Program} {w : World} {K : PySem.W.Frag} {mg : Str → Option Value} {base : Heap} {f C : Addr} {fd : FuncData}
theorem start_int (n : Int) : 2 * n + 1 = 2 * n + 1 + 2 * ((0 : Nat) : Int) := by omega
theorem start_eq (n : Int) (a : Addr) : ([some (.int n), some (.ref a), some (.int (2 * n + 1)), none] : List (Option V)) = [some (.int n), some (.ref a), some (.int (2 * n + 1 + 2 * ((0 : Nat) : Int))), none] := by
  rw [← start_int]
theorem scNeed : FnScope ["leaves"] ["leaves"] (defScope sNeed) := ⟨rfl, rfl, rfl, by decide +kernel, rfl, by decide +kernel, by decide +kernel⟩
theorem scGates : FnScope ["leaves", "value", "most", "pair"] ["leaves", "value"] (defScope sGates) := ⟨rfl, rfl, rfl, by decide +kernel, rfl, by decide +kernel, by decide +kernel⟩
abbrev sInit : Stmt := inClass cGraph 0
abbrev sEq : Stmt := inClass cGraph 1
abbrev inN : List Str := ["self", "leaves", "gates", "pair"]
theorem scInit : FnScope inN ["self", "leaves", "gates"] (defScope sInit) := ⟨rfl, rfl, rfl, by decide +kernel, rfl, by decide +kernel, by decide +kernel⟩
theorem scEq : FnScope ["self", "other"] ["self", "other"] (defScope sEq) := ⟨rfl, rfl, rfl, by decide +kernel, rfl, by decide +kernel, by decide +kernel⟩
abbrev FnI (K : PySem.W.Frag) (f : Addr) (fd : FuncData) : Prop := FunD K "__init__" "Graph.__init__" (defArgs sInit) (defBody sInit) (defScope sInit) [] [] f fd
abbrev FnE (K : PySem.W.Frag) (f : Addr) (fd : FuncData) : Prop := FunD K "__eq__" "Graph.__eq__" (defArgs sEq) (defBody sEq) (defScope sEq) [] [] f fd
theorem ok_need {fF : Addr} {fdF : FuncData} (F : FnP K "need_leaves" sNeed f fd) (T : Ki.Tx mg) (FF : FnP K "is_from" sFrom fF fdF) (gF : mg "is_from" = some (.ref fF)) : FnOk P w K mg base CX0 2 f fd ["leaves"] spNeed := by
  have GF : FnOk P w K mg base CX0 1 fF fdF ["value", "least"] (spFrom K) := ok_from FF T
  have bF : Binds K fdF ["value", "least"] [] := FF.bindsN fun _ _ _ _ _ _ us hl => match us, hl with | [_, _], _ => rfl
  refine F.ok scNeed (fun vs H Q E h => ?_) (fun cdv A outer s H vs Q E hr h => ?_)
  · obtain ⟨n, rfl, _⟩ := h
    rfl
  · obtain ⟨n, rfl, hn, q⟩ := h
    refine ⟨_, PSs.nox (pss_one (ps_if (pt_not (pt_val (pe_call GF hr (by rfl) gF FF.kp bF .nil pass0 (pa_cons (pv 0) (pa_cons pe_int pa_nil))))) (pss_one ps_never) pss_nil)), ?_⟩
    refine ⟨_, rfl, _, _, .int n, rfl, .int n, _, rfl, ?_⟩
    exact iteNS hn q
theorem ok_gates {fR fB : Addr} {fdR fdB : FuncData} (F : FnP K "are_gates" sGates f fd) (T : Ki.Tx mg) (FR : FnP K "is_row" sRow fR fdR) (gR : mg "is_row" = some (.ref fR)) (FB : FnP K "is_row_between" sRowB fB fdB) (gB : mg "is_row_between" = some (.ref fB))
    {fW : Addr} {fdW : FuncData} (FW : FnP K "is_between" sBetween fW fdW) (gW : mg "is_between" = some (.ref fW)) : FnOk P w K mg base CX0 3 f fd ["leaves", "value"] (spGates K) := by
  have GR : FnOk P w K mg base CX0 1 fR fdR ["value"] (spRow K) := ok_row FR T
  have GB : FnOk P w K mg base CX0 2 fB fdB ["value", "many", "least", "most"] (spRowB K) := ok_rowB FB T FW gW FR gR
  have bR : Binds K fdR ["value"] [] := FR.bindsN fun _ _ _ _ _ _ us hl => match us, hl with | [_], _ => rfl
  have bB : Binds K fdB ["value", "many", "least", "most"] [] := FB.bindsN fun _ _ _ _ _ _ us hl => match us, hl with | [_, _, _, _], _ => rfl
  refine F.ok scGates (fun vs H Q E h => ?_) (fun cdv A outer s H vs Q E hr h => ?_)
  · obtain ⟨n, v, d, rfl, _⟩ := h
    rfl
  · obtain ⟨n, v, d, rfl, hd, hz, hzz, q⟩ := h
    have hr1 := hr.mono (j := 1) (by decide)
    cases hd with
    | lst hs ha =>
      rename_i a vs ds
      have hlen := dps_len ha
      refine ⟨_, PSs.nox (pss_cons (ps_if (pt_not (pt_val (pe_call GR hr1 (by rfl) gR FR.kp bR .nil pass0 (pa_cons (pv 1) pa_nil)))) (pss_one (ps_ret pe_bl)) pss_nil)
        (pss_cons (ps_set (i := 2) scGates.nd rfl (Or.inl rfl) (pe_op op_add (pe_op op_mul pe_int (pv 0)) pe_int))
        (pss_cons (ps_for PassesOwn.never rfl (pi_list (pv 1)) (pg_name (i := 3) scGates.nd rfl (Or.inl rfl))
          (pss_cons (ps_if (pt_not (pt_val (pe_call GB hr (by rfl) gB FB.kp bB .nil pass0 (pa_cons (pv 3) (pa_cons pe_int (pa_cons pe_int (pa_cons (pv 2) pa_nil))))))) (pss_one (ps_ret pe_bl)) pss_nil)
          (pss_one (ps_aug (i := 2) scGates.nd rfl (Or.inl rfl) pe_int ip_add))))
        (pss_one (ps_ret pe_bl))))), ?_⟩
      refine ⟨_, rfl, _, _, rfl, .lst hs ha, fun H1 s1 => ⟨_, rfl, iteF ?_⟩⟩
      refine ⟨_, rfl, _, _, rfl, rfl, .inl ⟨by decide, by decide⟩, _, _, rfl, rfl, ?_⟩
      refine ⟨_, rfl, a, rfl, ⟨_, s1.seq hs⟩, for_list (K := K) (a := a) (xs := vs) (fun i σ H2 => ∃ v : Option V, σ = [some (.int n), some (.ref a), some (.int (2 * n + 1 + 2 * i)), v] ∧ Same H1 H2 ∧ goB (2 * n + 1) ds = goB (2 * n + 1 + 2 * i) (ds.drop i))
        ⟨none, start_eq n a, Same.refl _, by rw [List.drop_zero]; exact congrArg (fun z => goB z ds) (start_int n)⟩ (fun i σ H2 _ ⟨_, _, s2, _⟩ => s2.seq (s1.seq hs)) ?_ ?_⟩
      · rintro i v σ H2 hi ⟨w0, rfl, s2, e2⟩
        obtain ⟨e, he, hv⟩ := dps_get ha hi
        have hm : e ∈ ds := List.mem_of_getElem? he
        have hdrop : ds.drop i = e :: ds.drop (i + 1) := by
          obtain ⟨hlt, e5⟩ := List.getElem?_eq_some_iff.mp he
          rw [← e5]
          exact List.drop_eq_getElem_cons hlt
        rw [hdrop] at e2
        refine ⟨_, rfl, _, rfl, _, _, _, _, e, rfl, dp_same (s1.trans s2) hv, hzz e hm, fun H3 s3 => ⟨_, rfl, ?_⟩⟩
        cases er : rowB e 2 0 (2 * n + 1 + 2 * i) with
        | false =>
          refine iteT ?_
          have e4 : gatesB n (.list ds) = false := by
            show (true && goB (2 * n + 1) ds) = false
            rw [e2]
            show (rowB e 2 0 (2 * n + 1 + 2 * i) && goB _ _) = false
            rw [er]
            rfl
          show Q (V.bl false) H3
          rw [← e4]
          exact q _ ((s1.trans s2).trans s3)
        | true =>
          refine iteF ?_
          refine ⟨_, rfl, _, _, rfl, rfl, some v, ?_, s2.trans s3, ?_⟩
          · show _ = _
            have e5 : 2 * n + 1 + 2 * (i : Int) + 2 = 2 * n + 1 + 2 * ((i + 1 : Nat) : Int) := by omega
            rw [← e5]
            rfl
          · rw [e2]
            show (rowB e 2 0 (2 * n + 1 + 2 * i) && goB _ _) = _
            rw [er]
            have e5 : 2 * n + 1 + 2 * (i : Int) + 2 = 2 * n + 1 + 2 * ((i + 1 : Nat) : Int) := by omega
            rw [← e5]
            rfl
      · rintro σ H2 ⟨w0, rfl, s2, e2⟩
        rw [hlen, List.drop_length] at e2
        have e4 : gatesB n (.list ds) = true := by
          show (true && goB (2 * n + 1) ds) = true
          rw [e2]
          rfl
        show Q (V.bl true) H2
        rw [← e4]
        exact q _ (s1.trans s2)
    | tup hs ha =>
      rename_i a vs ds
      have hlen := dps_len ha
      refine ⟨_, PSs.nox (pss_cons (ps_if (pt_not (pt_val (pe_call GR hr1 (by rfl) gR FR.kp bR .nil pass0 (pa_cons (pv 1) pa_nil)))) (pss_one (ps_ret pe_bl)) pss_nil)
        (pss_cons (ps_set (i := 2) scGates.nd rfl (Or.inl rfl) (pe_op op_add (pe_op op_mul pe_int (pv 0)) pe_int))
        (pss_cons (ps_for PassesOwn.never rfl (pi_tup (pv 1)) (pg_name (i := 3) scGates.nd rfl (Or.inl rfl))
          (pss_cons (ps_if (pt_not (pt_val (pe_call GB hr (by rfl) gB FB.kp bB .nil pass0 (pa_cons (pv 3) (pa_cons pe_int (pa_cons pe_int (pa_cons (pv 2) pa_nil))))))) (pss_one (ps_ret pe_bl)) pss_nil)
          (pss_one (ps_aug (i := 2) scGates.nd rfl (Or.inl rfl) pe_int ip_add))))
        (pss_one (ps_ret pe_bl))))), ?_⟩
      refine ⟨_, rfl, _, _, rfl, .tup hs ha, fun H1 s1 => ⟨_, rfl, iteF ?_⟩⟩
      refine ⟨_, rfl, _, _, rfl, rfl, .inl ⟨by decide, by decide⟩, _, _, rfl, rfl, ?_⟩
      refine ⟨_, rfl, a, rfl, ⟨_, seqT_same s1 hs⟩, for_tup (K := K) (a := a) (xs := vs) (fun i σ H2 => ∃ v : Option V, σ = [some (.int n), some (.ref a), some (.int (2 * n + 1 + 2 * i)), v] ∧ Same H1 H2 ∧ goB (2 * n + 1) ds = goB (2 * n + 1 + 2 * i) (ds.drop i))
        ⟨none, start_eq n a, Same.refl _, by rw [List.drop_zero]; exact congrArg (fun z => goB z ds) (start_int n)⟩ (fun i σ H2 _ ⟨_, _, s2, _⟩ => seqT_same s2 (seqT_same s1 hs)) ?_ ?_⟩
      · rintro i v σ H2 hi ⟨w0, rfl, s2, e2⟩
        obtain ⟨e, he, hv⟩ := dps_get ha hi
        have hm : e ∈ ds := List.mem_of_getElem? he
        have hdrop : ds.drop i = e :: ds.drop (i + 1) := by
          obtain ⟨hlt, e5⟩ := List.getElem?_eq_some_iff.mp he
          rw [← e5]
          exact List.drop_eq_getElem_cons hlt
        rw [hdrop] at e2
        refine ⟨_, rfl, _, rfl, _, _, _, _, e, rfl, dp_same (s1.trans s2) hv, hzz e hm, fun H3 s3 => ⟨_, rfl, ?_⟩⟩
        cases er : rowB e 2 0 (2 * n + 1 + 2 * i) with
        | false =>
          refine iteT ?_
          have e4 : gatesB n (.tuple ds) = false := by
            show (true && goB (2 * n + 1) ds) = false
            rw [e2]
            show (rowB e 2 0 (2 * n + 1 + 2 * i) && goB _ _) = false
            rw [er]
            rfl
          show Q (V.bl false) H3
          rw [← e4]
          exact q _ ((s1.trans s2).trans s3)
        | true =>
          refine iteF ?_
          refine ⟨_, rfl, _, _, rfl, rfl, some v, ?_, s2.trans s3, ?_⟩
          · show _ = _
            have e5 : 2 * n + 1 + 2 * (i : Int) + 2 = 2 * n + 1 + 2 * ((i + 1 : Nat) : Int) := by omega
            rw [← e5]
            rfl
          · rw [e2]
            show (rowB e 2 0 (2 * n + 1 + 2 * i) && goB _ _) = _
            rw [er]
            have e5 : 2 * n + 1 + 2 * (i : Int) + 2 = 2 * n + 1 + 2 * ((i + 1 : Nat) : Int) := by omega
            rw [← e5]
            rfl
      · rintro σ H2 ⟨w0, rfl, s2, e2⟩
        rw [hlen, List.drop_length] at e2
        have e4 : gatesB n (.tuple ds) = true := by
          show (true && goB (2 * n + 1) ds) = true
          rw [e2]
          rfl
        show Q (V.bl true) H2
        rw [← e4]
        exact q _ (s1.trans s2)
    | non =>
      refine ⟨_, PSs.nox (pss_cons (ps_if (pt_not (pt_val (pe_call GR hr1 (by rfl) gR FR.kp bR .nil pass0 (pa_cons (pv 1) pa_nil)))) (pss_one (ps_ret pe_bl)) pss_nil)
        (pss_cons (ps_set (i := 2) scGates.nd rfl (Or.inl rfl) (pe_op op_add (pe_op op_mul pe_int (pv 0)) pe_int))
        (pss_cons (ps_for PassesOwn.never rfl (pi_list (pv 1)) (pg_name (i := 3) scGates.nd rfl (Or.inl rfl))
          (pss_cons (ps_if (pt_not (pt_val (pe_call GB hr (by rfl) gB FB.kp bB .nil pass0 (pa_cons (pv 3) (pa_cons pe_int (pa_cons pe_int (pa_cons (pv 2) pa_nil))))))) (pss_one (ps_ret pe_bl)) pss_nil)
          (pss_one (ps_aug (i := 2) scGates.nd rfl (Or.inl rfl) pe_int ip_add))))
        (pss_one (ps_ret pe_bl))))), ?_⟩
      exact ⟨_, rfl, _, _, rfl, .non, fun H1 s1 => ⟨_, rfl, iteT (q _ s1)⟩⟩
    | bl b =>
      refine ⟨_, PSs.nox (pss_cons (ps_if (pt_not (pt_val (pe_call GR hr1 (by rfl) gR FR.kp bR .nil pass0 (pa_cons (pv 1) pa_nil)))) (pss_one (ps_ret pe_bl)) pss_nil)
        (pss_cons (ps_set (i := 2) scGates.nd rfl (Or.inl rfl) (pe_op op_add (pe_op op_mul pe_int (pv 0)) pe_int))
        (pss_cons (ps_for PassesOwn.never rfl (pi_list (pv 1)) (pg_name (i := 3) scGates.nd rfl (Or.inl rfl))
          (pss_cons (ps_if (pt_not (pt_val (pe_call GB hr (by rfl) gB FB.kp bB .nil pass0 (pa_cons (pv 3) (pa_cons pe_int (pa_cons pe_int (pa_cons (pv 2) pa_nil))))))) (pss_one (ps_ret pe_bl)) pss_nil)
          (pss_one (ps_aug (i := 2) scGates.nd rfl (Or.inl rfl) pe_int ip_add))))
        (pss_one (ps_ret pe_bl))))), ?_⟩
      exact ⟨_, rfl, _, _, rfl, .bl b, fun H1 s1 => ⟨_, rfl, iteT (q _ s1)⟩⟩
    | int i =>
      refine ⟨_, PSs.nox (pss_cons (ps_if (pt_not (pt_val (pe_call GR hr1 (by rfl) gR FR.kp bR .nil pass0 (pa_cons (pv 1) pa_nil)))) (pss_one (ps_ret pe_bl)) pss_nil)
        (pss_cons (ps_set (i := 2) scGates.nd rfl (Or.inl rfl) (pe_op op_add (pe_op op_mul pe_int (pv 0)) pe_int))
        (pss_cons (ps_for PassesOwn.never rfl (pi_list (pv 1)) (pg_name (i := 3) scGates.nd rfl (Or.inl rfl))
          (pss_cons (ps_if (pt_not (pt_val (pe_call GB hr (by rfl) gB FB.kp bB .nil pass0 (pa_cons (pv 3) (pa_cons pe_int (pa_cons pe_int (pa_cons (pv 2) pa_nil))))))) (pss_one (ps_ret pe_bl)) pss_nil)
          (pss_one (ps_aug (i := 2) scGates.nd rfl (Or.inl rfl) pe_int ip_add))))
        (pss_one (ps_ret pe_bl))))), ?_⟩
      exact ⟨_, rfl, _, _, rfl, .int i, fun H1 s1 => ⟨_, rfl, iteT (q _ s1)⟩⟩
    | str x =>
      refine ⟨_, PSs.nox (pss_cons (ps_if (pt_not (pt_val (pe_call GR hr1 (by rfl) gR FR.kp bR .nil pass0 (pa_cons (pv 1) pa_nil)))) (pss_one (ps_ret pe_bl)) pss_nil)
        (pss_cons (ps_set (i := 2) scGates.nd rfl (Or.inl rfl) (pe_op op_add (pe_op op_mul pe_int (pv 0)) pe_int))
        (pss_cons (ps_for PassesOwn.never rfl (pi_list (pv 1)) (pg_name (i := 3) scGates.nd rfl (Or.inl rfl))
          (pss_cons (ps_if (pt_not (pt_val (pe_call GB hr (by rfl) gB FB.kp bB .nil pass0 (pa_cons (pv 3) (pa_cons pe_int (pa_cons pe_int (pa_cons (pv 2) pa_nil))))))) (pss_one (ps_ret pe_bl)) pss_nil)
          (pss_one (ps_aug (i := 2) scGates.nd rfl (Or.inl rfl) pe_int ip_add))))
        (pss_one (ps_ret pe_bl))))), ?_⟩
      exact ⟨_, rfl, _, _, rfl, .str x, fun H1 s1 => ⟨_, rfl, iteT (q _ s1)⟩⟩
theorem ok_init {fN fA : Addr} {fdN fdA : FuncData} (F : FnI K f fd) (T : Tx K mg C) (GN : FnOk P w K mg base CX0 2 fN fdN ["leaves"] spNeed) (gN : mg "need_leaves" = some (.ref fN)) (kN : PySem.W.keepIn K (.ref fN) = true) (bN : Binds K fdN ["leaves"] [])
    (GA : FnOk P w K mg base CX0 3 fA fdA ["leaves", "value"] (spGates K)) (gA : mg "are_gates" = some (.ref fA)) (kA : PySem.W.keepIn K (.ref fA) = true) (bA : Binds K fdA ["leaves", "value"] []) : FnOk P w K mg base CX0 4 f fd ["self", "leaves", "gates"] (spInit K C) := by
  refine F.ok scInit (fun vs H Q E h => ?_) (fun cdv A outer s H vs Q E hr h => ?_)
  · obtain ⟨p, dx, n, v, gs, rfl, _⟩ := h
    rfl
  · obtain ⟨p, dx, n, v, gs, rfl, hp, hn, hv, hz, hok, q⟩ := h
    have hr2 := hr.mono (j := 2) (by decide)
    obtain ⟨d, d1, d2, d3, d4⟩ := row_dp hv
    obtain ⟨r, vs, rfl, hs, ha⟩ := id hv
    rcases hs with hs | hs
    · refine ⟨_, PSs.nox (pss_cons (ps_expr (pe_call GN hr2 (by rfl) gN kN bN .nil pass0 (pa_cons (pv 1) pa_nil)))
        (pss_cons (ps_if (pt_not (pt_val (pe_call GA hr (by rfl) gA kA bA .nil pass0 (pa_cons (pv 1) (pa_cons (pv 2) pa_nil))))) (pss_one ps_never) pss_nil)
        (pss_cons (ps_fld (pv 0) (pv 1) rfl)
        (pss_one (ps_fld (pv 0) (pe_callTy call_tuple_of (by rfl) T.ki.tuple (by decide +kernel) (pa_cons
          (pe_lc (own := [("pair", 3)]) (g := gName 3) (tt := tYes) rfl scInit.nd (pi_list (pv 2)) (blkOk_by (N := inN) (sc := defScope sInit) (by decide +kernel)) (fun _ _ _ _ _ => pg_name (i := 3) scInit.nd rfl (Or.inl rfl)) (fun _ _ _ _ _ => pts_nil)
            (fun _ _ _ _ _ => pe_callTy (T := "tuple") (r := rTupOf K) (by exact call_tuple_of) (by rfl) T.ki.tuple (by decide +kernel) (pa_cons (pv 3) pa_nil))) pa_nil)) rfl))))), ?_⟩
      refine ⟨_, rfl, n, rfl, hn, ?_⟩
      refine ⟨_, rfl, _, rfl, n, _, d, rfl, d1, by omega, d3, fun H1 s1 => ⟨_, rfl, ?_⟩⟩
      rw [d4, hok]
      refine iteF ?_
      have hp1 := s1 _ _ hp
      refine ⟨_, rfl, _, rfl, p, C, dx, _, rfl, hp1, T.cl, T.nL, (by show 0 < 1000; decide), ?_⟩
      have hrp : ∀ {b : Addr} {u : HO}, H b = some u → (∀ C dx fs, u ≠ .ins C dx fs) → (upd H1 p (.ins C dx (putF "leaves" (.int n) []))) b = some u := fun {b u} e ne => by
        rw [upd_ne (fun z => by rw [z, hp] at e; cases e; exact ne _ _ _ rfl)]
        exact s1 _ _ e
      have hs3 : SqL K (upd H1 p (.ins C dx (putF "leaves" (.int n) []))) r vs := by
        rcases hs with (h | ⟨o, h⟩) | h
        · exact .inl (.inl (hrp h (by intro C dx fs z; cases z)))
        · exact .inl (.inr ⟨o, hrp h (by intro C dx fs z; cases z)⟩)
        · exact .inr h
      have pr3 : ∀ {v : V} {z : Int × Int}, Pr K H v z → Pr K (upd H1 p (.ins C dx (putF "leaves" (.int n) []))) v z := by
        rintro v z ⟨q, e, h⟩
        refine ⟨q, e, ?_⟩
        rcases h with ((h | ⟨o, h⟩) | h) | ((h | ⟨o, h⟩) | h)
        · exact .inl (.inl (.inl (hrp h (by intro C dx fs z; cases z))))
        · exact .inl (.inl (.inr ⟨o, hrp h (by intro C dx fs z; cases z)⟩))
        · exact .inl (.inr h)
        · exact .inr (.inl (.inl (hrp h (by intro C dx fs z; cases z))))
        · exact .inr (.inl (.inr ⟨o, hrp h (by intro C dx fs z; cases z)⟩))
        · exact .inr (.inr h)
      have hp3 : (upd H1 p (.ins C dx (putF "leaves" (.int n) []))) p = some (.ins C dx (putF "leaves" (.int n) [])) := upd_same
      have out3 : ∀ b o, H b = some o → b ≠ p → (upd H1 p (.ins C dx (putF "leaves" (.int n) []))) b = some o := fun b o e ne => by
        rw [upd_ne ne]
        exact s1 _ _ e
      generalize (upd H1 p (.ins C dx (putF "leaves" (.int n) []))) = H3 at hs3 pr3 hp3 out3 ⊢
      refine ⟨_, rfl, r, rfl, ⟨_, hs3⟩, fun D nD => ?_⟩
      refine lc_list (K := K) (a := r) (xs := vs) (fun i H4 => Same H3 H4 ∧ ∃ ys, H4 D = some (.lst ys) ∧ All2 (Pt K H4) ys (gs.take i)) ⟨same_new nD, [], upd_same, .nil⟩ (fun i H4 _ ⟨s4, _⟩ => s4.seq hs3) ?_ ?_
      · rintro i v H4 hi ⟨s4, ys, h4, a4⟩
        obtain ⟨z, hz1, hz2⟩ := ha.get hi
        obtain ⟨q0, rfl, hq⟩ := (pr3 hz2).same s4
        have lys : ys.length < sizeLine := by
          rw [a4.len, List.length_take]
          exact Nat.lt_of_le_of_lt (Nat.min_le_right _ _) (Nat.lt_of_le_of_lt hz (by decide))
        have keep : ∀ {H5 : Hp} {zs : List V}, Same H4 H5 → Same H3 (upd H5 D (.lst zs)) := fun {H5 zs} s5 b o e => by
          rw [upd_ne (ne_of_none e nD)]
          exact s5 _ _ (s4 _ _ e)
        refine ⟨rfl, yes_of ?_⟩
        rcases hq with hq | hq
        · refine ⟨_, rfl, q0, _, rfl, .inl ⟨hq, fun l nl => ?_⟩⟩
          have s5 : Same H4 (upd H4 l (.tup [.int z.1, .int z.2])) := same_new nl
          refine ⟨_, s5 _ _ h4, lys, keep s5, _, upd_same, ?_⟩
          rw [take_more hz1]
          have fi : Firm (upd H4 l (.tup [.int z.1, .int z.2])) (upd (upd H4 l (.tup [.int z.1, .int z.2])) D (.lst (ys ++ [.ref l]))) := Firm.upd (s5 _ _ h4) rfl
          exact (a4.imp fun _ _ h => (h.firm (Firm.of s5)).firm fi).snoc ⟨l, rfl, firm_seq fi (SqT.of upd_same)⟩
        · refine ⟨_, rfl, q0, _, rfl, .inr ⟨hq, ?_⟩⟩
          refine ⟨_, h4, lys, keep (Same.refl _), _, upd_same, ?_⟩
          rw [take_more hz1]
          have fi : Firm H4 (upd H4 D (.lst (ys ++ [.ref q0]))) := Firm.upd h4 rfl
          exact (a4.imp fun _ _ h => h.firm fi).snoc ⟨q0, rfl, firm_seq fi hq⟩
      · rintro H4 ⟨s4, ys, h4, a4⟩
        rw [ha.len, List.take_length] at a4
        refine ⟨D, ys, rfl, .inl ⟨SqL.of h4, fun g ng => ?_⟩⟩
        have hp4 := s4 _ _ hp3
        have s5 : Same H4 (upd H4 g (.tup ys)) := same_new ng
        refine ⟨_, rfl, p, C, dx, _, rfl, s5 _ _ hp4, T.cl, T.nG, (by show 1 < 1000; decide), ?_⟩
        refine q _ (fun b o e ne => ?_) ⟨dx, g, upd_same, ys, ?_, ?_⟩
        · rw [upd_ne ne]
          exact s5 _ _ (s4 _ _ (out3 b o e ne))
        · have ngp : g ≠ p := fun e => by
            rw [e, hp4] at ng
            cases ng
          exact SqT.of (by rw [upd_ne ngp, upd_same])
        · refine a4.imp fun _ _ h => ?_
          obtain ⟨q1, e1, h1⟩ := h.firm (Firm.of s5)
          refine ⟨q1, e1, ?_⟩
          rcases h1 with (h | ⟨o, h⟩) | h
          · exact .inl (.inl (by rw [upd_ne (fun e => by rw [e, s5 _ _ hp4] at h; cases h)]; exact h))
          · exact .inl (.inr ⟨o, by rw [upd_ne (fun e => by rw [e, s5 _ _ hp4] at h; cases h)]; exact h⟩)
          · exact .inr h
    · refine ⟨_, PSs.nox (pss_cons (ps_expr (pe_call GN hr2 (by rfl) gN kN bN .nil pass0 (pa_cons (pv 1) pa_nil)))
        (pss_cons (ps_if (pt_not (pt_val (pe_call GA hr (by rfl) gA kA bA .nil pass0 (pa_cons (pv 1) (pa_cons (pv 2) pa_nil))))) (pss_one ps_never) pss_nil)
        (pss_cons (ps_fld (pv 0) (pv 1) rfl)
        (pss_one (ps_fld (pv 0) (pe_callTy call_tuple_of (by rfl) T.ki.tuple (by decide +kernel) (pa_cons
          (pe_lc (own := [("pair", 3)]) (g := gName 3) (tt := tYes) rfl scInit.nd (pi_tup (pv 2)) (blkOk_by (N := inN) (sc := defScope sInit) (by decide +kernel)) (fun _ _ _ _ _ => pg_name (i := 3) scInit.nd rfl (Or.inl rfl)) (fun _ _ _ _ _ => pts_nil)
            (fun _ _ _ _ _ => pe_callTy (T := "tuple") (r := rTupOf K) (by exact call_tuple_of) (by rfl) T.ki.tuple (by decide +kernel) (pa_cons (pv 3) pa_nil))) pa_nil)) rfl))))), ?_⟩
      refine ⟨_, rfl, n, rfl, hn, ?_⟩
      refine ⟨_, rfl, _, rfl, n, _, d, rfl, d1, by omega, d3, fun H1 s1 => ⟨_, rfl, ?_⟩⟩
      rw [d4, hok]
      refine iteF ?_
      have hp1 := s1 _ _ hp
      refine ⟨_, rfl, _, rfl, p, C, dx, _, rfl, hp1, T.cl, T.nL, (by show 0 < 1000; decide), ?_⟩
      have hrp : ∀ {b : Addr} {u : HO}, H b = some u → (∀ C dx fs, u ≠ .ins C dx fs) → (upd H1 p (.ins C dx (putF "leaves" (.int n) []))) b = some u := fun {b u} e ne => by
        rw [upd_ne (fun z => by rw [z, hp] at e; cases e; exact ne _ _ _ rfl)]
        exact s1 _ _ e
      have hs3 : SqT K (upd H1 p (.ins C dx (putF "leaves" (.int n) []))) r vs := by
        rcases hs with (h | ⟨o, h⟩) | h
        · exact .inl (.inl (hrp h (by intro C dx fs z; cases z)))
        · exact .inl (.inr ⟨o, hrp h (by intro C dx fs z; cases z)⟩)
        · exact .inr h
      have pr3 : ∀ {v : V} {z : Int × Int}, Pr K H v z → Pr K (upd H1 p (.ins C dx (putF "leaves" (.int n) []))) v z := by
        rintro v z ⟨q, e, h⟩
        refine ⟨q, e, ?_⟩
        rcases h with ((h | ⟨o, h⟩) | h) | ((h | ⟨o, h⟩) | h)
        · exact .inl (.inl (.inl (hrp h (by intro C dx fs z; cases z))))
        · exact .inl (.inl (.inr ⟨o, hrp h (by intro C dx fs z; cases z)⟩))
        · exact .inl (.inr h)
        · exact .inr (.inl (.inl (hrp h (by intro C dx fs z; cases z))))
        · exact .inr (.inl (.inr ⟨o, hrp h (by intro C dx fs z; cases z)⟩))
        · exact .inr (.inr h)
      have hp3 : (upd H1 p (.ins C dx (putF "leaves" (.int n) []))) p = some (.ins C dx (putF "leaves" (.int n) [])) := upd_same
      have out3 : ∀ b o, H b = some o → b ≠ p → (upd H1 p (.ins C dx (putF "leaves" (.int n) []))) b = some o := fun b o e ne => by
        rw [upd_ne ne]
        exact s1 _ _ e
      generalize (upd H1 p (.ins C dx (putF "leaves" (.int n) []))) = H3 at hs3 pr3 hp3 out3 ⊢
      refine ⟨_, rfl, r, rfl, ⟨_, hs3⟩, fun D nD => ?_⟩
      refine lc_tup (K := K) (a := r) (xs := vs) (fun i H4 => Same H3 H4 ∧ ∃ ys, H4 D = some (.lst ys) ∧ All2 (Pt K H4) ys (gs.take i)) ⟨same_new nD, [], upd_same, .nil⟩ (fun i H4 _ ⟨s4, _⟩ => seqT_same s4 hs3) ?_ ?_
      · rintro i v H4 hi ⟨s4, ys, h4, a4⟩
        obtain ⟨z, hz1, hz2⟩ := ha.get hi
        obtain ⟨q0, rfl, hq⟩ := (pr3 hz2).same s4
        have lys : ys.length < sizeLine := by
          rw [a4.len, List.length_take]
          exact Nat.lt_of_le_of_lt (Nat.min_le_right _ _) (Nat.lt_of_le_of_lt hz (by decide))
        have keep : ∀ {H5 : Hp} {zs : List V}, Same H4 H5 → Same H3 (upd H5 D (.lst zs)) := fun {H5 zs} s5 b o e => by
          rw [upd_ne (ne_of_none e nD)]
          exact s5 _ _ (s4 _ _ e)
        refine ⟨rfl, yes_of ?_⟩
        rcases hq with hq | hq
        · refine ⟨_, rfl, q0, _, rfl, .inl ⟨hq, fun l nl => ?_⟩⟩
          have s5 : Same H4 (upd H4 l (.tup [.int z.1, .int z.2])) := same_new nl
          refine ⟨_, s5 _ _ h4, lys, keep s5, _, upd_same, ?_⟩
          rw [take_more hz1]
          have fi : Firm (upd H4 l (.tup [.int z.1, .int z.2])) (upd (upd H4 l (.tup [.int z.1, .int z.2])) D (.lst (ys ++ [.ref l]))) := Firm.upd (s5 _ _ h4) rfl
          exact (a4.imp fun _ _ h => (h.firm (Firm.of s5)).firm fi).snoc ⟨l, rfl, firm_seq fi (SqT.of upd_same)⟩
        · refine ⟨_, rfl, q0, _, rfl, .inr ⟨hq, ?_⟩⟩
          refine ⟨_, h4, lys, keep (Same.refl _), _, upd_same, ?_⟩
          rw [take_more hz1]
          have fi : Firm H4 (upd H4 D (.lst (ys ++ [.ref q0]))) := Firm.upd h4 rfl
          exact (a4.imp fun _ _ h => h.firm fi).snoc ⟨q0, rfl, firm_seq fi hq⟩
      · rintro H4 ⟨s4, ys, h4, a4⟩
        rw [ha.len, List.take_length] at a4
        refine ⟨D, ys, rfl, .inl ⟨SqL.of h4, fun g ng => ?_⟩⟩
        have hp4 := s4 _ _ hp3
        have s5 : Same H4 (upd H4 g (.tup ys)) := same_new ng
        refine ⟨_, rfl, p, C, dx, _, rfl, s5 _ _ hp4, T.cl, T.nG, (by show 1 < 1000; decide), ?_⟩
        refine q _ (fun b o e ne => ?_) ⟨dx, g, upd_same, ys, ?_, ?_⟩
        · rw [upd_ne ne]
          exact s5 _ _ (s4 _ _ (out3 b o e ne))
        · have ngp : g ≠ p := fun e => by
            rw [e, hp4] at ng
            cases ng
          exact SqT.of (by rw [upd_ne ngp, upd_same])
        · refine a4.imp fun _ _ h => ?_
          obtain ⟨q1, e1, h1⟩ := h.firm (Firm.of s5)
          refine ⟨q1, e1, ?_⟩
          rcases h1 with (h | ⟨o, h⟩) | h
          · exact .inl (.inl (by rw [upd_ne (fun e => by rw [e, s5 _ _ hp4] at h; cases h)]; exact h))
          · exact .inl (.inr ⟨o, by rw [upd_ne (fun e => by rw [e, s5 _ _ hp4] at h; cases h)]; exact h⟩)
          · exact .inr h
theorem ok_eq (F : FnE K f fd) (T : Tx K mg C) : FnOk P w K mg base CX0 1 f fd ["self", "other"] (spEqG K C) := by
  refine F.ok scEq (fun vs H Q E h => ?_) (fun cdv A outer s H vs Q E hr h => ?_)
  · obtain ⟨p, v, n, gs, rfl, _⟩ := h
    rfl
  · obtain ⟨p, v, n, gs, rfl, hp, q⟩ := h
    obtain ⟨dx, g, h1, h2⟩ := hp
    refine ⟨_, PSs.nox (pss_one (ps_ret (pe_and (pe_callB call_isi (by rfl) T.ki.isi (by decide +kernel) (pa_cons (pv 1) (pa_cons (pe_glob (v := V.ref C) (by rfl) T.mgC rfl) pa_nil)))
      (pe_and (pe_cmpR op_eq (pe_fld (pv 0) rfl) (pe_fld (pv 1) rfl) (nomark _)) (pe_one (pe_cmpR (op_eqD hr.units) (pe_fld (pv 0) rfl) (pe_fld (pv 1) rfl) (nomark _))))))), ?_⟩
    rcases q with ⟨q, n', gs', rfl, hq, k⟩ | ⟨t, xs, rfl, ht, k⟩
    · obtain ⟨dy, g', e1, e2⟩ := hq
      refine ⟨_, rfl, _, _, _, _, _, rfl, .own _, .base (T.met e1), T.own, _, rfl, iteT ?_⟩
      refine ⟨_, rfl, p, C, dx, _, _, rfl, h1, T.cl, T.nL, flds_L _ _, _, rfl, q, C, dy, _, _, rfl, e1, T.cl, T.nL, flds_L _ _, rfl, _, rfl, ite2 (fun c => ?_) (fun c => ?_)⟩
      · refine ⟨_, rfl, p, C, dx, _, _, rfl, h1, T.cl, T.nG, flds_G _ _, _, rfl, q, C, dy, _, _, rfl, e1, T.cl, T.nG, flds_G _ _, _, _, h2.dp, e2.dp, ?_, ?_, ?_⟩
        · exact shaped_gD gs
        · exact shaped_gD gs'
        · have e : n = n' := V.int.inj (of_decide_eq_true c)
          rw [decide_eq_true e] at k
          exact k
      · have e : ¬ n = n' := fun z => c (decide_eq_true (congrArg V.int z))
        rw [decide_eq_false e] at k
        exact k
    · exact ⟨_, rfl, _, _, _, _, _, rfl, .own _, ty_tup ht, T.tup, _, rfl, iteF k⟩
end
end Gr
namespace No
open PySem PySem.Spec PyProof.Rows L2 Pen Dat Ki Fi Gr
/-! ## Values of nodes and literals -/
/-- abs, as its rule tells it -/
def ab (z : Int) : Int := if z < 0 then -z else z
def lit (f : List Int) (a : Int) : Int := ab (f.getD (a / 2).toNat 0 - a % 2)
def step (f : List Int) (p : Int × Int) : List Int := f ++ [lit f p.1 * lit f p.2]
def vals (bs : List Int) (gs : List (Int × Int)) : List Int := gs.foldl step (0 :: bs)
def B01 (f : List Int) : Prop := ∀ z ∈ f, z = 0 ∨ z = 1
theorem getD_01 {f : List Int} (h : B01 f) (j : Nat) : f.getD j 0 = 0 ∨ f.getD j 0 = 1 := by
  rw [List.getD_eq_getElem?_getD]
  cases e : f[j]? with
  | none => exact .inl rfl
  | some z => exact h z (List.mem_of_getElem? e)
theorem lit_01 {f : List Int} (h : B01 f) (a : Int) : lit f a = 0 ∨ lit f a = 1 := by
  have h1 := getD_01 h (a / 2).toNat
  have h2 : a % 2 = 0 ∨ a % 2 = 1 := by omega
  unfold lit ab
  rcases h1 with e1 | e1 <;> rcases h2 with e2 | e2 <;> rw [e1, e2] <;> decide
theorem mul_01 {x y : Int} (hx : x = 0 ∨ x = 1) (hy : y = 0 ∨ y = 1) : x * y = 0 ∨ x * y = 1 := by
  rcases hx with rfl | rfl <;> rcases hy with rfl | rfl <;> decide
theorem step_01 {f : List Int} (h : B01 f) (p : Int × Int) : B01 (step f p) := fun z hz => by
  rcases List.mem_append.mp hz with q | q
  · exact h z q
  · rw [List.mem_singleton.mp q]
    exact mul_01 (lit_01 h _) (lit_01 h _)
theorem foldl_len : ∀ (gs : List (Int × Int)) (f : List Int), (gs.foldl step f).length = f.length + gs.length
  | [], f => rfl
  | p :: r, f => by
    show (r.foldl step (step f p)).length = _
    rw [foldl_len r]
    unfold step
    rw [List.length_append]
    show f.length + 1 + r.length = f.length + (r.length + 1)
    omega
theorem foldl_01 : ∀ (gs : List (Int × Int)) {f : List Int}, B01 f → B01 (gs.foldl step f)
  | [], _, h => h
  | p :: r, _, h => foldl_01 r (step_01 h p)
theorem vals_take (bs : List Int) {gs : List (Int × Int)} {i : Nat} {p : Int × Int} (h : gs[i]? = some p) : vals bs (gs.take (i + 1)) = step (vals bs (gs.take i)) p := by
  unfold vals
  rw [take_more h, List.foldl_append]
  rfl
theorem vals_len (bs : List Int) (gs : List (Int × Int)) : (vals bs gs).length = bs.length + 1 + gs.length := by
  unfold vals
  rw [foldl_len]
  rfl
theorem vals_01 {bs : List Int} (gs : List (Int × Int)) (h : B01 bs) : B01 (vals bs gs) :=
  foldl_01 gs fun z hz => by
    rcases List.mem_cons.mp hz with rfl | hz
    · exact .inl rfl
    · exact h z hz
/-- the literals of gate i are of nodes ahead -/
theorem okG_at : ∀ {gs : List (Int × Int)} {m : Int} {i : Nat} {p : Int × Int}, okG m gs = true → gs[i]? = some p → (0 ≤ p.1 ∧ p.1 ≤ m + 2 * i) ∧ 0 ≤ p.2 ∧ p.2 ≤ m + 2 * i
  | [], _, _, _, _, e => by simp at e
  | q :: r, m, 0, p, h, e => by
    simp at e
    subst e
    unfold okG within at h
    simp only [Bool.and_eq_true, decide_eq_true_eq] at h
    obtain ⟨⟨⟨a, b⟩, c, d⟩, _⟩ := h
    exact ⟨⟨a, by omega⟩, c, by omega⟩
  | q :: r, m, i + 1, p, h, e => by
    simp at e
    unfold okG at h
    rw [Bool.and_eq_true] at h
    obtain ⟨⟨a, b⟩, c, d⟩ := okG_at h.2 e
    exact ⟨⟨a, by omega⟩, c, by omega⟩
theorem half_lt {a m : Int} (h0 : 0 ≤ a) (h : a ≤ 2 * m + 1) : (a / 2).toNat < (m + 1).toNat := by omega
/-- x ^ (a & 1), x a bit -/
theorem flip_bit {x a : Int} (hx : x = 0 ∨ x = 1) : Builtin.bitXor x (Builtin.bitAnd a 1) = ab (x - a % 2) := by
  have e := bitAnd_m1 a
  rw [e]
  have h2 : a % 2 = 0 ∨ a % 2 = 1 := by omega
  rcases hx with rfl | rfl <;> rcases h2 with e2 | e2 <;> rw [e2] <;> decide
theorem and_bits {x y : Int} (hx : x = 0 ∨ x = 1) (hy : y = 0 ∨ y = 1) : Builtin.bitAnd x y = x * y := by
  rcases hx with rfl | rfl <;> rcases hy with rfl | rfl <;> decide
theorem getD_of {f : List Int} {j : Nat} (h : j < f.length) : (f.map V.int)[j]? = some (.int (f.getD j 0)) := by
  rw [List.getElem?_map, List.getD_eq_getElem?_getD, List.getElem?_eq_getElem h]
  rfl
/-- a row of ints, list or tuple -/
def SeqI (K : PySem.W.Frag) (H : Hp) (v : V) (bs : List Int) : Prop := ∃ r, v = .ref r ∧ (SqL K H r (bs.map V.int) ∨ SqT K H r (bs.map V.int))
theorem SeqI.same {K : PySem.W.Frag} {H H' : Hp} {v : V} {bs : List Int} (s : Same H H') (h : SeqI K H v bs) : SeqI K H' v bs := by
  obtain ⟨r, e, h⟩ := h
  exact ⟨r, e, h.elim (fun h => .inl (s.seq h)) fun h => .inr (seqT_same s h)⟩
theorem bet_all {bs : List Int} (h : B01 bs) : ((bs.map PyData.int).all fun e => betD e 0 1) = true := by
  rw [List.all_map, List.all_eq_true]
  intro z hz
  rcases h z hz with rfl | rfl <;> rfl
theorem seqI_dp {K : PySem.W.Frag} {H : Hp} {v : V} {bs : List Int} (h : SeqI K H v bs) (hb : B01 bs) : ∃ d, Dp K H v d ∧ (rowsD d).length = bs.length ∧ rowB d (bs.length : Int) 0 1 = true := by
  have e : ∀ l : List PyData, l = bs.map PyData.int → (true && (decide (((l.length : Nat) : Int) = bs.length) && l.all fun e => betD e 0 1)) = true := by
    rintro l rfl
    rw [bet_all hb, List.length_map, decide_eq_true rfl]
    rfl
  obtain ⟨r, rfl, h | h⟩ := h
  · exact ⟨_, .lst h (ints_dp bs), List.length_map .., e _ rfl⟩
  · exact ⟨_, .tup h (ints_dp bs), List.length_map .., e _ rfl⟩
def spNode (K : PySem.W.Frag) (C : Addr) : Sp := fun vs H Q _ => ∃ (p : Addr) (v : V) (gs : List (Int × Int)) (bs : List Int), vs = [.ref p, v] ∧ GraphAt K C H p bs.length gs ∧ SeqI K H v bs ∧ B01 bs ∧ okG (2 * bs.length + 1) gs = true ∧ bs.length ≤ 500 ∧ gs.length ≤ 500 ∧
  ∀ (H' : Hp) (t : Addr), Same H H' → SqT K H' t ((vals bs gs).map V.int) → Q (.ref t) H'
def spLit (K : PySem.W.Frag) : Sp := fun vs H Q _ => ∃ (t : Addr) (xs : List V) (a : Int) (v : V), vs = [.ref t, .int a] ∧ SqT K H t xs ∧ 0 ≤ a ∧ xs[(a / 2).toNat]? = some v ∧
  ((v = .non ∧ Q .non H) ∨ ∃ x : Int, v = .int x ∧ (x = 0 ∨ x = 1) ∧ Q (.int (ab (x - a % 2))) H)
section
variable {P : Program} {w : World} {K : PySem.W.Frag} {mg : Str → Option Value} {base : Heap} {f C : Addr} {fd : FuncData}
abbrev noN : List Str := ["graph", "bits", "found", "one", "other"]
theorem scNode : FnScope noN ["graph", "bits"] (defScope sNode) := ⟨rfl, rfl, rfl, by decide +kernel, rfl, by decide +kernel, by decide +kernel⟩
theorem scLit : FnScope ["found", "literal", "value"] ["found", "literal"] (defScope sLit) := ⟨rfl, rfl, rfl, by decide +kernel, rfl, by decide +kernel, by decide +kernel⟩
theorem ok_lit (F : FnP K "literal_value" sLit f fd) : FnOk P w K mg base CX0 1 f fd ["found", "literal"] (spLit K) := by
  refine F.ok scLit (fun vs H Q E h => ?_) (fun cdv A outer s H vs Q E hr h => ?_)
  · obtain ⟨t, xs, a, v, rfl, _⟩ := h
    rfl
  · obtain ⟨t, xs, a, v, rfl, ht, ha, hv, q⟩ := h
    refine ⟨_, PSs.nox (pss_cons (ps_set (i := 2) scLit.nd rfl (Or.inl rfl) (pe_ix ix_tup (pv 0) (pe_op op_shr (pv 1) pe_int) (fun _ _ => rfl)))
      (pss_cons (ps_if (pt_cmpR op_isN (pv 2) pe_non (nomark _)) (pss_one (ps_ret pe_non)) pss_nil)
      (pss_one (ps_ret (pe_op op_xor (pv 2) (pe_op op_and (pv 1) pe_int)))))), ?_⟩
    have ej : a / 2 ^ (1 : Int).toNat = (((a / 2).toNat : Nat) : Int) := by
      show a / 2 = _
      omega
    refine ⟨_, rfl, _, rfl, _, _, rfl, rfl, (by show (0 : Int) ≤ 1; decide), t, _, _, _, rfl, rfl, ht, at_of (j := (a / 2).toNat) ej hv, ?_⟩
    rcases q with ⟨rfl, q⟩ | ⟨x, rfl, hx, q⟩
    · exact ⟨_, rfl, rfl, _, rfl, iteT q⟩
    · refine ⟨_, rfl, rfl, _, rfl, iteF ?_⟩
      refine ⟨_, rfl, _, rfl, _, _, rfl, rfl, _, _, rfl, rfl, ?_⟩
      show Q (.int (Builtin.bitXor x (Builtin.bitAnd a 1))) H
      rw [flip_bit hx]
      exact q
theorem ok_node {fB : Addr} {fdB : FuncData} (F : FnP K "node_values" sNode f fd) (T : Tx K mg C) (GB : FnOk P w K mg base CX0 2 fB fdB ["value", "many", "least", "most"] (spRowB K)) (gB : mg "is_row_between" = some (.ref fB)) (kB : PySem.W.keepIn K (.ref fB) = true)
    (bB : Binds K fdB ["value", "many", "least", "most"] []) : FnOk P w K mg base CX0 3 f fd ["graph", "bits"] (spNode K C) := by
  refine F.ok scNode (fun vs H Q E h => ?_) (fun cdv A outer s H vs Q E hr h => ?_)
  · obtain ⟨p, v, gs, bs, rfl, _⟩ := h
    rfl
  · obtain ⟨p, v, gs, bs, rfl, hG, hB, hb, hok, hz1, hz2, q⟩ := h
    obtain ⟨d, d1, d2, d3⟩ := seqI_dp hB hb
    obtain ⟨dx, g, h1, h2⟩ := hG
    obtain ⟨ps, hg, ha⟩ := id h2
    obtain ⟨r, rfl, hr1⟩ := id hB
    refine ⟨_, PSs.nox (pss_cons (ps_if (pt_not (pt_val (pe_call GB hr (by rfl) gB kB bB .nil pass0 (pa_cons (pv 1) (pa_cons (pe_fld (pv 0) rfl) (pa_cons pe_int (pa_cons pe_int pa_nil))))))) (pss_one ps_never) pss_nil)
      (pss_cons (ps_set (i := 2) scNode.nd rfl (Or.inl rfl) (pe_lst (pa_cons pe_int (StX.pa_star (pv 1) pa_nil))))
      (pss_cons (ps_for PassesOwn.never rfl (pi_tup (pe_fld (pv 0) rfl)) (pg_tup rfl (pgs_cons (pg_name (i := 3) scNode.nd rfl (Or.inl rfl)) (pgs_cons (pg_name (i := 4) scNode.nd rfl (Or.inl rfl)) pgs_nil)))
        (pss_one (ps_expr (pe_bm PySem.F.plainAttrs_list PySem.F.slot_list_append PySem.F.type_list_append mt_append (pv 2) (pa_cons (pe_op op_and
          (pe_op op_xor (pe_ix ix_list (pv 2) (pe_op op_shr (pv 3) pe_int) (fun _ _ => rfl)) (pe_op op_and (pv 3) pe_int))
          (pe_op op_xor (pe_ix ix_list (pv 2) (pe_op op_shr (pv 4) pe_int) (fun _ _ => rfl)) (pe_op op_and (pv 4) pe_int))) pa_nil)))))
      (pss_one (ps_ret (pe_callTy call_tuple_of (by rfl) T.ki.tuple (by decide +kernel) (pa_cons (pv 2) pa_nil))))))), ?_⟩
    refine ⟨_, rfl, _, rfl, p, C, dx, _, _, rfl, h1, T.cl, T.nL, flds_L _ _, _, _, _, _, d, rfl, d1, by omega, fun H1 s1 => ⟨_, rfl, ?_⟩⟩
    rw [d3]
    refine iteF ?_
    have hr2 : SqT K H1 r (bs.map V.int) ∨ SqL K H1 r (bs.map V.int) := hr1.elim (fun h => .inr (s1.seq h)) fun h => .inl (seqT_same s1 h)
    refine ⟨_, rfl, r, _, rfl, hr2, ?_, fun l nl => ?_⟩
    · show (V.int 0 :: (bs.map V.int ++ [])).length ≤ sizeLine
      rw [List.append_nil, List.length_cons, List.length_map]
      exact Nat.le_trans (Nat.succ_le_succ hz1) (by decide)
    have sl : Same H1 (upd H1 l (.lst (V.int 0 :: (bs.map V.int ++ [])))) := same_new nl
    refine ⟨_, rfl, p, C, dx, _, _, rfl, sl _ _ (s1 _ _ h1), T.cl, T.nG, flds_G _ _, g, rfl, ⟨_, seqT_same (s1.trans sl) hg⟩, for_tup (K := K) (a := g) (xs := ps)
      (fun i σ H2 => ∃ u w : Option V, σ = [some (.ref p), some (.ref r), some (.ref l), u, w] ∧ Same H1 H2 ∧ H2 l = some (.lst ((vals bs (gs.take i)).map V.int)))
      ⟨none, none, rfl, sl, ?_⟩ (fun i σ H2 _ ⟨_, _, _, s2, _⟩ => seqT_same (s1.trans s2) hg) ?_ ?_⟩
    · rw [upd_same, List.append_nil]
      rfl
    · rintro i x σ H2 hi ⟨u, w, rfl, s2, h2'⟩
      obtain ⟨z, hz, hx⟩ := ha.get hi
      obtain ⟨q0, rfl, hq⟩ := hx
      have hi2 : i < gs.length := (List.getElem?_eq_some_iff.mp hz).1
      obtain ⟨⟨a0, a1⟩, b0, b1⟩ := okG_at hok hz
      have lv : (vals bs (gs.take i)).length = bs.length + 1 + i := by
        rw [vals_len, List.length_take, Nat.min_eq_left (Nat.le_of_lt hi2)]
      have v01 := vals_01 (gs.take i) hb
      have j1 : (z.1 / 2).toNat < (vals bs (gs.take i)).length := by omega
      have j2 : (z.2 / 2).toNat < (vals bs (gs.take i)).length := by omega
      have e1 : z.1 / 2 ^ (1 : Int).toNat = (((z.1 / 2).toNat : Nat) : Int) := by
        show z.1 / 2 = _
        omega
      have e2 : z.2 / 2 ^ (1 : Int).toNat = (((z.2 / 2).toNat : Nat) : Int) := by
        show z.2 / 2 = _
        omega
      refine ⟨q0, _, rfl, seqT_same (s1.trans s2) hq, rfl, _, _, rfl, _, _, rfl, rfl, ?_⟩
      refine ⟨_, rfl, .inl ⟨rfl, _, SqL.of h2'⟩, _, rfl, _, rfl, _, _, rfl, rfl, (by show (0 : Int) ≤ 1; decide), l, _, _, _, rfl, rfl, SqL.of h2', at_of e1 (getD_of j1), _, rfl, _, _, rfl, rfl, _, _, rfl, rfl,
        _, rfl, _, rfl, _, _, rfl, rfl, (by show (0 : Int) ≤ 1; decide), l, _, _, _, rfl, rfl, SqL.of h2', at_of e2 (getD_of j2), _, rfl, _, _, rfl, rfl, _, _, rfl, rfl, _, _, rfl, rfl, l, _, _, rfl, rfl, h2', ?_, ?_⟩
      · rw [List.length_map, lv]
        exact Nat.lt_of_lt_of_le (by omega : bs.length + 1 + i < 1002) (by decide)
      · refine ⟨_, _, rfl, fun b o e => ?_, ?_⟩
        · rw [upd_ne (ne_of_none e nl)]
          exact s2 _ _ e
        · rw [upd_same, vals_take bs hz]
          unfold step
          rw [List.map_append]
          show some (HO.lst (_ ++ [V.int (Builtin.bitAnd (Builtin.bitXor _ (Builtin.bitAnd z.1 1)) (Builtin.bitXor _ (Builtin.bitAnd z.2 1)))])) = _
          rw [flip_bit (getD_01 v01 _), flip_bit (getD_01 v01 _)]
          have f1 := lit_01 v01 z.1
          have f2 := lit_01 v01 z.2
          unfold lit at f1 f2
          rw [and_bits f1 f2]
          rfl
    · rintro σ H2 ⟨u, w, rfl, s2, h2'⟩
      rw [ha.len, List.take_length] at h2'
      refine ⟨_, rfl, l, _, rfl, .inl ⟨SqL.of h2', fun t nt => ?_⟩⟩
      exact q _ t (s1.trans (s2.trans (same_new nt))) (SqT.of upd_same)
end
end No
namespace Lf
open PySem PySem.Spec PyProof.Rows L2 Pen Dat Ki Fi Gr No
/-! ## The law's own functions -/
structure Tx (mg : Str → Option Value) : Prop where
  pen : Pen.Txt mg
  abs : mg "abs" = none
  range : mg "range" = none
  tuple : mg "tuple" = none
def longer (rs : List (List Int)) : List (List Int) := rs.flatMap fun r => [r ++ [0], r ++ [1]]
def rowsM : Nat → List (List Int)
  | 0 => [[]]
  | n + 1 => longer (rowsM n)
theorem longer_cons (r : List Int) (rs : List (List Int)) : longer (r :: rs) = (r ++ [0]) :: (r ++ [1]) :: longer rs := rfl
theorem longer_app (rs ts : List (List Int)) : longer (rs ++ ts) = longer rs ++ longer ts := List.flatMap_append
theorem longer_len : ∀ rs : List (List Int), (longer rs).length = 2 * rs.length
  | [] => rfl
  | r :: rs => by
    rw [longer_cons, List.length_cons, List.length_cons, longer_len rs, List.length_cons]
    omega
theorem longer_mem : ∀ {rs : List (List Int)} {n : Nat}, (∀ r ∈ rs, r.length = n ∧ B01 r) → ∀ r ∈ longer rs, r.length = n + 1 ∧ B01 r
  | [], _, _, r, h => by cases h
  | t :: rs, n, hr, r, h => by
    have ht := hr t List.mem_cons_self
    rw [longer_cons] at h
    have one : ∀ z : Int, (z = 0 ∨ z = 1) → (t ++ [z]).length = n + 1 ∧ B01 (t ++ [z]) := fun z hz => ⟨by rw [List.length_append, ht.1]; rfl, fun y hy => by
      rcases List.mem_append.mp hy with q | q
      · exact ht.2 y q
      · rw [List.mem_singleton.mp q]
        exact hz⟩
    rcases List.mem_cons.mp h with rfl | h
    · exact one 0 (.inl rfl)
    · rcases List.mem_cons.mp h with rfl | h
      · exact one 1 (.inr rfl)
      · exact longer_mem (fun r hr2 => hr r (List.mem_cons_of_mem _ hr2)) r h
theorem rowsM_mem : ∀ (n : Nat), ∀ r ∈ rowsM n, r.length = n ∧ B01 r
  | 0, r, h => by
    rw [List.mem_singleton.mp h]
    exact ⟨rfl, fun z hz => by cases hz⟩
  | n + 1, r, h => longer_mem (rowsM_mem n) r h
theorem rowsM_len : ∀ n : Nat, (rowsM n).length = 2 ^ n
  | 0 => rfl
  | n + 1 => by
    show (longer (rowsM n)).length = _
    rw [longer_len, rowsM_len n, Nat.pow_succ, Nat.mul_comm]
theorem okG_snoc : ∀ {gs : List (Int × Int)} {m : Int} {p : Int × Int}, okG m gs = true → 0 ≤ p.1 → p.1 ≤ m + 2 * gs.length → 0 ≤ p.2 → p.2 ≤ m + 2 * gs.length → okG m (gs ++ [p]) = true
  | [], m, p, _, a, b, c, d => by
    show ((within p.1 m && within p.2 m) && true) = true
    unfold within
    have b' : p.1 ≤ m := by simpa using b
    have d' : p.2 ≤ m := by simpa using d
    rw [decide_eq_true a, decide_eq_true b', decide_eq_true c, decide_eq_true d']
    rfl
  | q :: r, m, p, h, a, b, c, d => by
    unfold okG at h
    rw [Bool.and_eq_true] at h
    show ((within q.1 m && within q.2 m) && okG (m + 2) (r ++ [p])) = true
    rw [h.1, okG_snoc h.2 a (by rw [List.length_cons] at b; omega) c (by rw [List.length_cons] at d; omega)]
    rfl
def spBit (K : PySem.W.Frag) : Sp := fun vs H Q _ => ∃ (l : Addr) (xs : List Int) (a : Int), vs = [.ref l, .int a] ∧ SqL K H l (xs.map V.int) ∧ 0 ≤ a ∧ (a / 2).toNat < xs.length ∧ Q (.int (lit xs a)) H
def spValues (K : PySem.W.Frag) : Sp := fun vs H Q _ => ∃ (u : V) (g r : Addr) (gs : List (Int × Int)) (bs : List Int), vs = [u, .ref g, .ref r] ∧ GT K H g gs ∧ SqT K H r (bs.map V.int) ∧ B01 bs ∧ okG (2 * bs.length + 1) gs = true ∧ bs.length ≤ 500 ∧ gs.length ≤ 500 ∧
  ∀ (H' : Hp) (l : Addr), Same H H' → H l = none → H' l = some (.lst ((vals bs gs).map V.int)) → Q (.ref l) H'
def spDrawn (K : PySem.W.Frag) : Sp := fun vs H Q _ => ∃ (p c : Addr) (k : Nat) (n m : Int), vs = [.ref p, .int n, .int m] ∧ PenC H p c k ∧ k ≤ 100000000000 ∧ 0 ≤ n ∧ n ≤ 100 ∧ 0 ≤ m ∧ m ≤ 100 ∧
  ∀ (H' : Hp) (g : Addr) (gs : List (Int × Int)), PenC H' p c (k + 2 * m.toNat) → But p H H' → GT K H' g gs → okG (2 * n + 1) gs = true → gs.length = m.toNat → Q (.ref g) H'
def spLonger (K : PySem.W.Frag) : Sp := fun vs H Q _ => ∃ (l : Addr) (ws : List V) (rs : List (List Int)), vs = [.ref l, .int 2] ∧ SqL K H l ws ∧ All2 (Tu K H) ws rs ∧ rs.length ≤ 2100 ∧ (∀ r ∈ rs, r.length ≤ 100) ∧
  ∀ (H' : Hp) (l' : Addr) (zs : List V), Same H H' → H' l' = some (.lst zs) → All2 (Tu K H') zs (longer rs) → Q (.ref l') H'
def spRows (K : PySem.W.Frag) : Sp := fun vs H Q _ => ∃ (m : Int), vs = [.int m] ∧ 0 ≤ m ∧ m ≤ 11 ∧
  ∀ (H' : Hp) (l : Addr) (ws : List V), Same H H' → H' l = some (.lst ws) → All2 (Tu K H') ws (rowsM m.toNat) → Q (.ref l) H'
section
variable {P : Program} {w : World} {K : PySem.W.Frag} {mg : Str → Option Value} {base : Heap} {f C : Addr} {fd : FuncData}
abbrev vaN : List Str := ["_law_leaves", "_law_gates", "_law_bits", "_law_found", "_law_one", "_law_two"]
abbrev drN : List Str := ["_law_pen_here", "_law_leaves", "_law_many", "_law_gates", "_law_k", "_law_ahead"]
abbrev loN : List Str := ["_law_rows_here", "_law_many", "_law_found", "_law_row", "_law_number"]
theorem scBit : FnScope ["_law_found", "_law_literal"] ["_law_found", "_law_literal"] (defScope sBit) := ⟨rfl, rfl, rfl, by decide +kernel, rfl, by decide +kernel, by decide +kernel⟩
theorem scValues : FnScope vaN ["_law_leaves", "_law_gates", "_law_bits"] (defScope sValues) := ⟨rfl, rfl, rfl, by decide +kernel, rfl, by decide +kernel, by decide +kernel⟩
theorem scDrawn : FnScope drN ["_law_pen_here", "_law_leaves", "_law_many"] (defScope sDrawn) := ⟨rfl, rfl, rfl, by decide +kernel, rfl, by decide +kernel, by decide +kernel⟩
theorem scLonger : FnScope loN ["_law_rows_here", "_law_many"] (defScope sLonger) := ⟨rfl, rfl, rfl, by decide +kernel, rfl, by decide +kernel, by decide +kernel⟩
theorem scRows : FnScope ["_law_many", "_law_rows_here", "_law_k"] ["_law_many"] (defScope sRows) := ⟨rfl, rfl, rfl, by decide +kernel, rfl, by decide +kernel, by decide +kernel⟩
theorem ok_bit (F : FnP K "_law_bit" sBit f fd) (T : Tx mg) : FnOk P w K mg base CX0 1 f fd ["_law_found", "_law_literal"] (spBit K) := by
  refine F.ok scBit (fun vs H Q E h => ?_) (fun cdv A outer s H vs Q E hr h => ?_)
  · obtain ⟨l, xs, a, rfl, _⟩ := h
    rfl
  · obtain ⟨l, xs, a, rfl, hl, ha, hz, q⟩ := h
    refine ⟨_, PSs.nox (pss_one (ps_ret (pe_callB call_abs (by rfl) T.abs (by decide +kernel) (pa_cons (pe_op op_sub (pe_ix ix_list (pv 0) (pe_op op_fdiv (pv 1) pe_int) (fun _ _ => rfl))
      (pe_op op_mod (pe_callTy call_int1 (by rfl) T.pen.int (by decide +kernel) (pa_cons (pv 1) pa_nil)) pe_int)) pa_nil)))), ?_⟩
    have e : a / 2 = (((a / 2).toNat : Nat) : Int) := by omega
    exact ⟨_, rfl, _, rfl, _, _, rfl, rfl, ⟨by decide, by decide⟩, l, _, _, _, rfl, rfl, hl, at_of e (getD_of hz), _, rfl, .inl ⟨_, rfl, _, _, rfl, rfl, (by show (0 : Int) < 2; decide), _, _, rfl, rfl, _, rfl, q⟩⟩
theorem ok_values {fB : Addr} {fdB : FuncData} (F : FnP K "_law_values" sValues f fd) (T : Tx mg) (FB : FnP K "_law_bit" sBit fB fdB) (gB : mg "_law_bit" = some (.ref fB)) : FnOk P w K mg base CX0 2 f fd ["_law_leaves", "_law_gates", "_law_bits"] (spValues K) := by
  have GB : FnOk P w K mg base CX0 1 fB fdB ["_law_found", "_law_literal"] (spBit K) := ok_bit FB T
  have bB : Binds K fdB ["_law_found", "_law_literal"] [] := FB.bindsN fun _ _ _ _ _ _ us hl => match us, hl with | [_, _], _ => rfl
  refine F.ok scValues (fun vs H Q E h => ?_) (fun cdv A outer s H vs Q E hr h => ?_)
  · obtain ⟨u, g, r, gs, bs, rfl, _⟩ := h
    rfl
  · obtain ⟨u, g, r, gs, bs, rfl, hG, hB, hb, hok, hz1, hz2, q⟩ := h
    obtain ⟨ps, hg, ha⟩ := id hG
    refine ⟨_, PSs.nox (pss_cons (ps_set (i := 3) scValues.nd rfl (Or.inl rfl) (pe_op op_cat (pe_lst (pa_cons pe_int pa_nil)) (pe_callTy call_list_of (by rfl) T.pen.list (by decide +kernel) (pa_cons (pv 2) pa_nil))))
      (pss_cons (ps_for PassesOwn.never rfl (pi_tup (pv 1)) (pg_tup rfl (pgs_cons (pg_name (i := 4) scValues.nd rfl (Or.inl rfl)) (pgs_cons (pg_name (i := 5) scValues.nd rfl (Or.inl rfl)) pgs_nil)))
        (pss_one (ps_expr (pe_bm PySem.F.plainAttrs_list PySem.F.slot_list_append PySem.F.type_list_append mt_append (pv 3) (pa_cons (pe_op op_mul
          (pe_call GB hr (by rfl) gB FB.kp bB .nil pass0 (pa_cons (pv 3) (pa_cons (pv 4) pa_nil)))
          (pe_call GB hr (by rfl) gB FB.kp bB .nil pass0 (pa_cons (pv 3) (pa_cons (pv 5) pa_nil)))) pa_nil)))))
      (pss_one (ps_ret (pv 3))))), ?_⟩
    refine ⟨(by show 1 ≤ sizeLine; decide), fun l1 n1 => ?_⟩
    have s1 : Same H (upd H l1 (.lst [.int 0])) := same_new n1
    refine ⟨_, rfl, r, _, rfl, .inr (seqT_same s1 hB), fun l2 n2 => ?_⟩
    have s2 := same_new (u := .lst (bs.map V.int)) n2
    refine ⟨_, _, _, _, rfl, rfl, s2 _ _ upd_same, upd_same, ?_, fun l n3 => ?_⟩
    · rw [List.length_map]
      show 1 + bs.length ≤ sizeLine
      exact Nat.le_trans (by omega : 1 + bs.length ≤ 501) (by decide)
    have s3 := same_new (u := .lst ([V.int 0] ++ bs.map V.int)) n3
    have s123 := s1.trans (s2.trans s3)
    have nl : H l = none := (s1.trans s2).free n3
    generalize hH : upd _ l _ = H1 at s123
    have h1 : H1 l = some (.lst ((vals bs []).map V.int)) := by
      rw [← hH, upd_same]
      rfl
    clear hH s3 n3
    refine ⟨_, rfl, g, rfl, ⟨_, seqT_same s123 hg⟩, for_tup (K := K) (a := g) (xs := ps)
      (fun i σ H2 => ∃ x y : Option V, σ = [some u, some (.ref g), some (.ref r), some (.ref l), x, y] ∧ Same H H2 ∧ H2 l = some (.lst ((vals bs (gs.take i)).map V.int)))
      ⟨none, none, rfl, s123, h1⟩ (fun i σ H2 _ ⟨_, _, _, z, _⟩ => seqT_same z hg) ?_ ?_⟩
    · rintro i x σ H2 hi ⟨y, y', rfl, z2, h2⟩
      obtain ⟨z, hz, hx⟩ := ha.get hi
      obtain ⟨q0, rfl, hq⟩ := hx
      have hi2 : i < gs.length := (List.getElem?_eq_some_iff.mp hz).1
      obtain ⟨⟨a0, a1⟩, b0, b1⟩ := okG_at hok hz
      have lv : (vals bs (gs.take i)).length = bs.length + 1 + i := by
        rw [vals_len, List.length_take, Nat.min_eq_left (Nat.le_of_lt hi2)]
      have v01 := vals_01 (gs.take i) hb
      have f1 := lit_01 v01 z.1
      refine ⟨q0, _, rfl, seqT_same z2 hq, rfl, _, _, rfl, _, _, rfl, rfl, ?_⟩
      refine ⟨_, rfl, .inl ⟨rfl, _, SqL.of h2⟩, _, rfl, _, rfl, l, _, z.1, rfl, SqL.of h2, a0, by omega, _, rfl, _, rfl, l, _, z.2, rfl, SqL.of h2, b0, by omega, _, _, rfl, rfl, .inl ?_, l, _, _, rfl, rfl, h2, ?_, ?_⟩
      · rcases f1 with e | e <;> rw [e] <;> exact ⟨by decide, by decide⟩
      · rw [List.length_map, lv]
        exact Nat.lt_of_lt_of_le (by omega : bs.length + 1 + i < 1002) (by decide)
      · refine ⟨_, _, rfl, fun b o e => ?_, ?_⟩
        · rw [upd_ne (ne_of_none e nl)]
          exact z2 _ _ e
        · rw [upd_same, vals_take bs hz]
          unfold No.step
          rw [List.map_append]
          rfl
    · rintro σ H2 ⟨y, y', rfl, z2, h2⟩
      rw [ha.len, List.take_length] at h2
      exact ⟨_, rfl, q _ l z2 nl h2⟩
theorem ok_drawn {fD : Addr} {fdD : FuncData} (F : FnP K "_law_drawn_gates" sDrawn f fd) (T : Tx mg) (FD : FnP K "_law_draw" sDraw fD fdD) (gD : mg "_law_draw" = some (.ref fD)) : FnOk P w K mg base CX0 2 f fd ["_law_pen_here", "_law_leaves", "_law_many"] (spDrawn K) := by
  have GD : FnOk P w K mg base CX0 1 fD fdD ["_law_pen_here", "_law_many"] spDraw := ok_draw FD T.pen
  have bD : Binds K fdD ["_law_pen_here", "_law_many"] [] := FD.bindsN fun _ _ _ _ _ _ us hl => match us, hl with | [_, _], _ => rfl
  refine F.ok scDrawn (fun vs H Q E h => ?_) (fun cdv A outer s H vs Q E hr h => ?_)
  · obtain ⟨p, c, k, n, m, rfl, _⟩ := h
    rfl
  · obtain ⟨p, c, k, n, m, rfl, hP, hk, n0, n1, m0, m1, q⟩ := h
    refine ⟨_, PSs.nox (pss_cons (ps_set (i := 3) scDrawn.nd rfl (Or.inl rfl) (pe_lst pa_nil))
      (pss_cons (ps_for PassesOwn.never rfl (pi_range1 (by rfl) T.range (pa_cons (pv 2) pa_nil)) (pg_name (i := 4) scDrawn.nd rfl (Or.inl rfl))
        (pss_cons (ps_set (i := 5) scDrawn.nd rfl (Or.inl rfl) (pe_op op_mul pe_int (pe_op op_add (pe_op op_add pe_int (pv 1)) (pv 4))))
        (pss_one (ps_expr (pe_bm PySem.F.plainAttrs_list PySem.F.slot_list_append PySem.F.type_list_append mt_append (pv 3) (pa_cons (pe_tup (pa_cons
          (pe_call GD hr (by rfl) gD FD.kp bD .nil pass0 (pa_cons (pv 0) (pa_cons (pv 5) pa_nil))) (pa_cons
          (pe_call GD hr (by rfl) gD FD.kp bD .nil pass0 (pa_cons (pv 0) (pa_cons (pv 5) pa_nil))) pa_nil))) pa_nil))))))
      (pss_one (ps_ret (pe_callTy call_tuple_of (by rfl) T.tuple (by decide +kernel) (pa_cons (pv 3) pa_nil)))))), ?_⟩
    refine ⟨(by show 0 ≤ sizeLine; decide), fun l nl => ?_⟩
    obtain ⟨lp, lc⟩ := hP.free nl
    have sl := same_new (u := .lst []) nl
    refine ⟨_, rfl, m, rfl, ?_, ?_, for_range (lo := 0) (n := m.toNat)
      (fun i σ H2 => ∃ (x y : Option V) (ys : List V) (gs : List (Int × Int)), σ = [some (.ref p), some (.int n), some (.int m), some (.ref l), x, y] ∧ PenC H2 p c (k + 2 * i) ∧ (∀ b o, H b = some o → b ≠ p → H2 b = some o) ∧
        H2 l = some (.lst ys) ∧ All2 (Pt K H2) ys gs ∧ okG (2 * n + 1) gs = true ∧ gs.length = i)
      ⟨none, none, [], [], rfl, hP.same sl, fun b o e _ => sl _ _ e, upd_same, .nil, rfl, rfl⟩ ?_ ?_⟩
    · omega
    · omega
    · rintro i σ H2 hi ⟨x, y, ys, gs, rfl, hP2, keep, h2, ha, hok, hlen⟩
      have him : (i : Int) < m := by omega
      refine ⟨_, rfl, _, _, rfl, rfl, _, rfl, _, _, rfl, rfl, _, _, rfl, rfl, .inl ⟨by decide, by decide⟩, ?_⟩
      refine ⟨_, rfl, .inl ⟨rfl, _, SqL.of h2⟩, _, rfl, _, rfl, p, c, k + 2 * i, _, rfl, hP2, by omega, by omega, by omega, fun r1 H3 r10 r11 P3 B3 => ?_⟩
      refine ⟨_, rfl, _, rfl, p, c, k + 2 * i + 1, _, rfl, P3, by omega, by omega, by omega, fun r2 H4 r20 r21 P4 B4 => ?_⟩
      refine ⟨(by show 2 ≤ sizeLine; decide), fun t nt => ?_⟩
      have st := same_new (u := .tup [V.int r1, V.int r2]) nt
      have h4 : H4 l = some (.lst ys) := B4 _ _ (B3 _ _ h2 lp) lp
      have f34 : Firm H2 H4 := (Firm.pen B3 hP2).trans (Firm.pen B4 P3)
      refine ⟨l, _, _, rfl, rfl, st _ _ h4, ?_, ?_⟩
      · rw [ha.len, hlen]
        exact Nat.lt_of_lt_of_le (by omega : i < 101) (by decide)
      · have fl : Firm (upd H4 t (.tup [V.int r1, V.int r2])) (upd (upd H4 t (.tup [V.int r1, V.int r2])) l (.lst (ys ++ [.ref t]))) := Firm.upd (st _ _ h4) rfl
        refine ⟨_, _, ys ++ [.ref t], gs ++ [(r1, r2)], rfl, ?_, fun b o e ne => ?_, upd_same, ?_, ?_, ?_⟩
        · have z := (P4.same st).upd (o := .lst (ys ++ [.ref t])) lp lc
          rw [show k + 2 * (i + 1) = k + 2 * i + 1 + 1 by omega]
          exact z
        · rw [upd_ne (ne_of_none e nl)]
          exact st _ _ (B4 _ _ (B3 _ _ (keep b o e ne) ne) ne)
        · exact (ha.imp fun _ _ h => ((h.firm f34).firm (Firm.of st)).firm fl).snoc ⟨t, rfl, firm_seq fl (SqT.of upd_same)⟩
        · exact okG_snoc hok r10 (by show r1 ≤ _; rw [hlen]; omega) r20 (by show r2 ≤ _; rw [hlen]; omega)
        · rw [List.length_append, hlen]
          rfl
    · rintro σ H2 ⟨x, y, ys, gs, rfl, hP2, keep, h2, ha, hok, hlen⟩
      refine ⟨_, rfl, l, _, rfl, .inl ⟨SqL.of h2, fun g ng => ?_⟩⟩
      have sg := same_new (u := .tup ys) ng
      exact q _ g gs (hP2.same sg) (fun b o e ne => sg _ _ (keep b o e ne)) ⟨ys, SqT.of upd_same, ha.imp fun _ _ h => h.firm (Firm.of sg)⟩ hok hlen
theorem ok_longer (F : FnP K "_law_longer" sLonger f fd) (T : Tx mg) : FnOk P w K mg base CX0 1 f fd ["_law_rows_here", "_law_many"] (spLonger K) := by
  refine F.ok scLonger (fun vs H Q E h => ?_) (fun cdv A outer s H vs Q E hr h => ?_)
  · obtain ⟨l, ws, rs, rfl, _⟩ := h
    rfl
  · obtain ⟨l, ws, rs, rfl, hl, ha, hzn, hz2, q⟩ := h
    refine ⟨_, PSs.nox (pss_cons (ps_set (i := 2) scLonger.nd rfl (Or.inl rfl) (pe_lst pa_nil))
      (pss_cons (ps_for PassesOwn.never rfl (pi_list (pv 0)) (pg_name (i := 3) scLonger.nd rfl (Or.inr rfl))
        (pss_one (ps_set (i := 2) scLonger.nd rfl (Or.inl rfl) (pe_op op_cat (pv 2) (pe_lc (own := [("_law_number", 4)]) (g := gName 4) (tt := tYes) rfl scLonger.nd (pi_range1 (by rfl) T.range (pa_cons (pv 1) pa_nil)) (blkOk_by (N := loN) (sc := defScope sLonger) (by decide +kernel))
          (fun _ _ _ _ _ => pg_name (i := 4) scLonger.nd rfl (Or.inl rfl)) (fun _ _ _ _ _ => pts_nil) (fun _ _ _ _ _ => pe_op (r := rCatA K) (by exact op_catA) (pv 3) (pe_tup (pa_cons (pv 4) pa_nil))))))))
      (pss_one (ps_ret (pv 2))))), ?_⟩
    refine ⟨(by show 0 ≤ sizeLine; decide), fun l0 n0 => ?_⟩
    have s0 := same_new (u := .lst []) n0
    refine ⟨_, rfl, l, rfl, ⟨_, s0.seq hl⟩, for_list (K := K) (a := l) (xs := ws)
      (fun i σ H2 => ∃ (x : Option V) (t : Addr) (zs : List V), σ = [some (.ref l), some (.int 2), some (.ref t), x, none] ∧ Same H H2 ∧ H2 t = some (.lst zs) ∧ All2 (Tu K H2) zs (longer (rs.take i)))
      ⟨none, l0, [], rfl, s0, upd_same, .nil⟩ (fun i σ H2 _ ⟨_, _, _, _, z, _⟩ => z.seq hl) ?_ ?_⟩
    · rintro i x σ H2 hi ⟨y, t, zs, rfl, s2, h2, hz⟩
      obtain ⟨r, hr1, hr2⟩ := ha.get hi
      obtain ⟨q0, rfl, hq⟩ := hr2
      have hq2 : SqT K H2 q0 (r.map V.int) := SqT.of (s2 _ _ hq)
      refine ⟨_, rfl, _, rfl, 2, rfl, by decide, by decide, fun D nD => ?_⟩
      refine lc_range (lo := 0) (n := 2) (fun j H3 => Same H2 H3 ∧ ∃ us, H3 D = some (.lst us) ∧ All2 (Tu K H3) us ((List.range j).map fun (k : Nat) => r ++ [0 + (k : Int)])) ⟨same_new nD, [], upd_same, .nil⟩ ?_ ?_
      · rintro j H3 hj ⟨s3, us, h3, h3a⟩
        have ul : us.length < sizeLine := by
          rw [h3a.len, List.length_map, List.length_range]
          exact Nat.lt_trans hj (by decide)
        have fin : ∀ (t2 : Addr) (H4 : Hp), Same H3 H4 → H4 t2 = some (.tup ((r ++ [0 + (j : Int)]).map V.int)) → ∃ acc, H4 D = some (.lst acc) ∧ acc.length < sizeLine ∧ Same H2 (upd H4 D (.lst (acc ++ [.ref t2]))) ∧
            ∃ us, (upd H4 D (.lst (acc ++ [.ref t2]))) D = some (.lst us) ∧ All2 (Tu K (upd H4 D (.lst (acc ++ [.ref t2])))) us ((List.range (j + 1)).map fun (k : Nat) => r ++ [0 + (k : Int)]) := fun t2 H4 s4 ht => by
          have fi : Firm H4 (upd H4 D (.lst (us ++ [.ref t2]))) := Firm.upd (s4 _ _ h3) rfl
          refine ⟨us, s4 _ _ h3, ul, fun b o e => ?_, us ++ [.ref t2], upd_same, ?_⟩
          · rw [upd_ne (ne_of_none e nD)]
            exact s4 _ _ (s3 _ _ e)
          · rw [List.range_succ, List.map_append]
            exact (h3a.imp fun _ _ h => (h.firm (Firm.of s4)).firm fi).snoc ⟨t2, rfl, fi _ _ ht rfl⟩
        refine ⟨rfl, yes_of ?_⟩
        refine ⟨_, rfl, _, rfl, (by show 1 ≤ sizeLine; decide), fun t1 nt1 => ?_⟩
        have s1 := same_new (u := .tup [V.int (0 + (j : Int))]) nt1
        have hr3 := hz2 r (List.mem_of_getElem? hr1)
        refine ⟨q0, t1, _, _, rfl, rfl, seqT_same (s3.trans s1) hq2, SqT.of upd_same, ?_, fun e => ?_, fun _ e => ?_, fun e _ t2 nt2 => ?_⟩
        · rw [List.length_map]
          exact Nat.le_trans (by show r.length + 1 ≤ 101; omega) (by decide)
        · have er : r = [] := List.map_eq_nil_iff.mp e
          exact fin t1 _ s1 (by rw [er]; exact upd_same)
        · cases e
        · have s2' := same_new (u := .tup (r.map V.int ++ [V.int (0 + (j : Int))])) nt2
          exact fin t2 _ (s1.trans s2') (by rw [List.map_append]; exact upd_same)
      · rintro H3 ⟨s3, us, h3, h3a⟩
        have hu2 : us.length = 2 := by
          rw [h3a.len]
          rfl
        have hzl := hz.len
        have tl : (rs.take i).length ≤ 2100 := by
          rw [List.length_take]
          exact Nat.le_trans (Nat.min_le_right _ _) hzn
        refine ⟨t, D, zs, us, rfl, rfl, s3 _ _ h2, h3, ?_, fun t2 nt2 => ?_⟩
        · rw [hzl, longer_len, hu2]
          exact Nat.le_trans (by omega : 2 * (rs.take i).length + 2 ≤ 4202) (by decide)
        · have s4 := same_new (u := .lst (zs ++ us)) nt2
          refine ⟨_, t2, zs ++ us, rfl, s2.trans (s3.trans s4), upd_same, ?_⟩
          rw [take_more hr1, longer_app]
          exact (hz.imp fun _ _ h => h.firm (Firm.of (s3.trans s4))).append (h3a.imp fun _ _ h => h.firm (Firm.of s4))
    · rintro σ H2 ⟨y, t, zs, rfl, s2, h2, hz⟩
      rw [ha.len, List.take_length] at hz
      exact ⟨_, rfl, q _ t zs s2 h2 hz⟩
theorem ok_rows {fL : Addr} {fdL : FuncData} (F : FnP K "_law_rows" sRows f fd) (T : Tx mg) (FL : FnP K "_law_longer" sLonger fL fdL) (gL : mg "_law_longer" = some (.ref fL)) : FnOk P w K mg base CX0 2 f fd ["_law_many"] (spRows K) := by
  have GL : FnOk P w K mg base CX0 1 fL fdL ["_law_rows_here", "_law_many"] (spLonger K) := ok_longer FL T
  have bL : Binds K fdL ["_law_rows_here", "_law_many"] [] := FL.bindsN fun _ _ _ _ _ _ us hl => match us, hl with | [_, _], _ => rfl
  refine F.ok scRows (fun vs H Q E h => ?_) (fun cdv A outer s H vs Q E hr h => ?_)
  · obtain ⟨m, rfl, _⟩ := h
    rfl
  · obtain ⟨m, rfl, m0, m1, q⟩ := h
    refine ⟨_, PSs.nox (pss_cons (ps_set (i := 1) scRows.nd rfl (Or.inl rfl) (pe_lst (pa_cons (pe_tup pa_nil) pa_nil)))
      (pss_cons (ps_for PassesOwn.never rfl (pi_range1 (by rfl) T.range (pa_cons (pv 0) pa_nil)) (pg_name (i := 2) scRows.nd rfl (Or.inl rfl))
        (pss_one (ps_set (i := 1) scRows.nd rfl (Or.inl rfl) (pe_call GL hr (by rfl) gL FL.kp bL .nil pass0 (pa_cons (pv 1) (pa_cons pe_int pa_nil))))))
      (pss_one (ps_ret (pv 1))))), ?_⟩
    refine ⟨(by show 0 ≤ sizeLine; decide), fun t nt => ⟨(by show 1 ≤ sizeLine; decide), fun l nl => ?_⟩⟩
    have s1 := same_new (u := .tup []) nt
    have s2 := same_new (u := .lst [.ref t]) nl
    refine ⟨_, rfl, m, rfl, ?_, ?_, for_range (lo := 0) (n := m.toNat)
      (fun i σ H2 => ∃ (x : Option V) (l : Addr) (zs : List V), σ = [some (.int m), some (.ref l), x] ∧ Same H H2 ∧ H2 l = some (.lst zs) ∧ All2 (Tu K H2) zs (rowsM i))
      ⟨none, l, [.ref t], rfl, s1.trans s2, upd_same, .cons ⟨t, rfl, s2 _ _ upd_same⟩ .nil⟩ ?_ ?_⟩
    · omega
    · omega
    · rintro i σ H2 hi ⟨x, l, zs, rfl, s3, h3, ha⟩
      have hi7 : i < 11 := by omega
      have hpow : (rowsM i).length ≤ 2100 := by
        rw [rowsM_len]
        exact Nat.le_trans (Nat.pow_le_pow_right (by decide) (by omega : i ≤ 10)) (by decide)
      refine ⟨_, rfl, l, zs, rowsM i, rfl, SqL.of h3, ha, hpow, fun r hr => ?_, fun H4 l' ws s4 h4 ha4 => ?_⟩
      · rw [(rowsM_mem i r hr).1]
        omega
      · exact ⟨_, l', ws, rfl, s3.trans s4, h4, ha4⟩
    · rintro σ H2 ⟨x, l, zs, rfl, s3, h3, ha⟩
      exact ⟨_, rfl, q _ l zs s3 h3 ha⟩
end
end Lf
namespace Rp
open PySem PySem.Spec PyProof.Rows L2 Fi
/-! ## What may be handed to repr -/
structure ROk (d : PyData) : Prop where
  show_ : d.showable = true
  dict : d.hasDict = false
  deep : d.depth ≤ 60
  long : d.shown.length ≤ sizeLine
def Small (i : Int) : Prop := 0 ≤ i ∧ i < 1000
theorem log_small : ∀ n : Nat, n < 1000 → n.log2 < 10 := by decide +kernel
theorem abs_small {i : Int} (h : Small i) : i.natAbs < 1000 := by
  obtain ⟨a, b⟩ := h
  omega
theorem show_small {i : Int} (h : Small i) : (PyData.int i).showable = true := by
  have := log_small _ (abs_small h)
  exact decide_eq_true (Nat.lt_trans this (by decide))
theorem weigh_small {i : Int} (h : Small i) : (PyData.int i).weight ≤ 10 := by
  have := log_small _ (abs_small h)
  show (if i == 0 then 0 else i.natAbs.log2 + 1) ≤ 10
  split <;> omega
theorem short_small {i : Int} (h : Small i) : (PyData.int i).intsShort 13 = true := by
  have := abs_small h
  exact decide_eq_true (PyData.shown_int_le (Nat.lt_trans this (by decide)))
theorem ints_all : ∀ {ns : List Int}, (∀ z ∈ ns, Small z) → PyData.showableAll (ns.map .int) = true ∧ PyData.hasDictAll (ns.map .int) = false ∧ PyData.depthAll (ns.map .int) = 0 ∧ PyData.canLayAll0 (ns.map .int) = true ∧
    PyData.intsShortAll 13 (ns.map .int) = true ∧ PyData.weightAll (ns.map .int) ≤ 11 * ns.length
  | [], _ => ⟨rfl, rfl, rfl, rfl, rfl, Nat.zero_le _⟩
  | z :: r, h => by
    have hz := h z List.mem_cons_self
    obtain ⟨a, b, c, d, e, g⟩ := ints_all (ns := r) fun y hy => h y (List.mem_cons_of_mem _ hy)
    refine ⟨?_, b, ?_, d, ?_, ?_⟩
    · show ((PyData.int z).showable && PyData.showableAll (r.map .int)) = true
      rw [show_small hz, a]
      rfl
    · show max 0 (PyData.depthAll (r.map .int)) = 0
      rw [c]
      rfl
    · show ((PyData.int z).intsShort 13 && PyData.intsShortAll 13 (r.map .int)) = true
      rw [short_small hz, e]
      rfl
    · show (PyData.int z).weight + 1 + PyData.weightAll (r.map .int) ≤ 11 * (r.length + 1)
      have := weigh_small hz
      omega
theorem row_ok {ns : List Int} (h : ∀ z ∈ ns, Small z) (hz : ns.length ≤ 1000) : ROk (.tuple (ns.map .int)) := by
  obtain ⟨a, b, c, d, e, g⟩ := ints_all h
  refine ⟨a, b, by show PyData.depthAll (ns.map .int) + 1 ≤ 60; omega, PyData.shown_fits_of_layable0 (B := 13) (by decide) (by decide) ?_ e⟩
  show ((PyData.canLayAll0 (ns.map .int) && decide (PyData.depthAll (ns.map .int) + 1 ≤ 64)) && decide (PyData.weightAll (ns.map .int) ≤ 2 ^ 20)) = true
  rw [d, decide_eq_true (by omega), decide_eq_true (Nat.le_trans g (Nat.le_trans (Nat.mul_le_mul_left 11 hz) (by decide)))]
  rfl
def SmallP (p : Int × Int) : Prop := Small p.1 ∧ Small p.2
theorem pairs_all : ∀ {gs : List (Int × Int)}, (∀ p ∈ gs, SmallP p) → PyData.showableAll (gs.map pD) = true ∧ PyData.hasDictAll (gs.map pD) = false ∧ PyData.depthAll (gs.map pD) ≤ 1 ∧ PyData.canLayAll0 (gs.map pD) = true ∧
    PyData.intsShortAll 13 (gs.map pD) = true ∧ PyData.weightAll (gs.map pD) ≤ 30 * gs.length
  | [], _ => ⟨rfl, rfl, Nat.zero_le _, rfl, rfl, Nat.zero_le _⟩
  | p :: r, h => by
    obtain ⟨p1, p2⟩ := h p List.mem_cons_self
    obtain ⟨a, b, c, d, e, g⟩ := pairs_all (gs := r) fun y hy => h y (List.mem_cons_of_mem _ hy)
    refine ⟨?_, b, ?_, d, ?_, ?_⟩
    · show (((PyData.int p.1).showable && ((PyData.int p.2).showable && true)) && PyData.showableAll (r.map pD)) = true
      rw [show_small p1, show_small p2, a]
      rfl
    · show max 1 (PyData.depthAll (r.map pD)) ≤ 1
      exact Nat.max_le.mpr ⟨Nat.le_refl _, c⟩
    · show (((PyData.int p.1).intsShort 13 && ((PyData.int p.2).intsShort 13 && true)) && PyData.intsShortAll 13 (r.map pD)) = true
      rw [short_small p1, short_small p2, e]
      rfl
    · show ((PyData.int p.1).weight + 1 + ((PyData.int p.2).weight + 1 + 0)) + 1 + PyData.weightAll (r.map pD) ≤ 30 * (r.length + 1)
      have h1 := weigh_small p1
      have h2 := weigh_small p2
      omega
theorem gates_ok {gs : List (Int × Int)} (h : ∀ p ∈ gs, SmallP p) (hz : gs.length ≤ 1000) : ROk (gD gs) := by
  obtain ⟨a, b, c, d, e, g⟩ := pairs_all h
  refine ⟨a, b, by show PyData.depthAll (gs.map pD) + 1 ≤ 60; omega, PyData.shown_fits_of_layable0 (B := 13) (by decide) (by decide) ?_ e⟩
  show ((PyData.canLayAll0 (gs.map pD) && decide (PyData.depthAll (gs.map pD) + 1 ≤ 64)) && decide (PyData.weightAll (gs.map pD) ≤ 2 ^ 20)) = true
  rw [d, decide_eq_true (by omega), decide_eq_true (Nat.le_trans g (Nat.le_trans (Nat.mul_le_mul_left 30 hz) (by decide)))]
  rfl
theorem shaped_ints {ns : List Int} (h : ∀ z ∈ ns, Small z) : SeqAt.shaped (.list (ns.map .int)) = true ∧ SeqAt.shaped (.tuple (ns.map .int)) = true := by
  obtain ⟨a, b, c, d, e, g⟩ := ints_all h
  have k : (PyData.canLayAll0 (ns.map .int) && decide (PyData.depthAll (ns.map .int) + 1 ≤ 64)) = true := by
    rw [d, decide_eq_true (by omega)]
    rfl
  exact ⟨k, k⟩
theorem eqv_len : ∀ (xs ys : List PyData), PyData.eqvAll xs ys = true → xs.length = ys.length
  | [], [], _ => rfl
  | [], _ :: _, h => by
    unfold PyData.eqvAll at h
    cases h
  | _ :: _, [], h => by
    unfold PyData.eqvAll at h
    cases h
  | x :: xs, y :: ys, h => by
    unfold PyData.eqvAll at h
    exact congrArg Nat.succ (eqv_len xs ys (Bool.and_eq_true_iff.mp h).2)
theorem eqv_self (gs : List (Int × Int)) : PyData.eqv (gD gs) (gD gs) = true := SeqAt.eqv_refl _ (Gr.can_pD gs)
theorem eqv_cut {gs hs : List (Int × Int)} (h : gs.length ≠ hs.length) : PyData.eqv (gD gs) (gD hs) = false := by
  cases e : PyData.eqv (gD gs) (gD hs) with
  | false => rfl
  | true =>
    have e' : PyData.eqvAll (gs.map pD) (hs.map pD) = true := by
      unfold gD PyData.eqv at e
      exact e
    have := eqv_len _ _ e'
    rw [List.length_map, List.length_map] at this
    exact absurd this h
end Rp
namespace Cm
open PySem PySem.Spec PyProof.Rows L2 Fi No
/-! ## Clauses, as mathematics -/
def fl (l : Int) : Int := l + 1 - 2 * (l % 2)
def sgn (l : Int) : Int := if l % 2 = 1 then -(l / 2) else l / 2
def bad (ls : List Int) : Bool := ls.any (fun l => l == 1) || ls.any fun l => ls.any fun m => m == fl l
def Asc (cl : List Int) : Prop := cl.Pairwise fun a b => a.natAbs < b.natAbs
def IsCl (ls cl : List Int) : Prop := Asc cl ∧ ∀ z, z ∈ cl ↔ ∃ l ∈ ls, 1 < l ∧ z = sgn l
theorem asc_ext : ∀ {xs ys : List Int}, Asc xs → Asc ys → (∀ z, z ∈ xs ↔ z ∈ ys) → xs = ys
  | [], [], _, _, _ => rfl
  | [], y :: _, _, _, h => absurd ((h y).mpr List.mem_cons_self) List.not_mem_nil
  | x :: _, [], _, _, h => absurd ((h x).mp List.mem_cons_self) List.not_mem_nil
  | x :: xs, y :: ys, hx, hy, h => by
    unfold Asc at hx hy
    rw [List.pairwise_cons] at hx hy
    have e : x = y := by
      rcases List.mem_cons.mp ((h x).mp List.mem_cons_self) with e | m1
      · exact e
      · rcases List.mem_cons.mp ((h y).mpr List.mem_cons_self) with e | m2
        · exact e.symm
        · have a := hx.1 y m2
          have b := hy.1 x m1
          omega
    subst e
    refine congrArg (x :: ·) (asc_ext hx.2 hy.2 fun z => ⟨fun m => ?_, fun m => ?_⟩)
    · rcases List.mem_cons.mp ((h z).mp (List.mem_cons_of_mem _ m)) with e | m'
      · have := hx.1 z m
        rw [e] at this
        exact absurd this (Nat.lt_irrefl _)
      · exact m'
    · rcases List.mem_cons.mp ((h z).mpr (List.mem_cons_of_mem _ m)) with e | m'
      · have := hy.1 z m
        rw [e] at this
        exact absurd this (Nat.lt_irrefl _)
      · exact m'
theorem isCl_uniq {ls c1 c2 : List Int} (h1 : IsCl ls c1) (h2 : IsCl ls c2) : c1 = c2 := asc_ext h1.1 h2.1 fun z => (h1.2 z).trans (h2.2 z).symm
theorem not_bad {ls : List Int} (h : bad ls = false) : ¬ (1 : Int) ∈ ls ∧ ∀ l ∈ ls, ¬ fl l ∈ ls := by
  unfold bad at h
  rw [Bool.or_eq_false_iff, List.any_eq_false, List.any_eq_false] at h
  refine ⟨fun m => h.1 1 m (by rfl), fun l m m2 => ?_⟩
  have z := h.2 l m
  rw [Bool.not_eq_true, List.any_eq_false] at z
  exact z _ m2 (by simp)
theorem is_bad {ls : List Int} (h : bad ls = true) : (1 : Int) ∈ ls ∨ ∃ l ∈ ls, fl l ∈ ls := by
  unfold bad at h
  rw [Bool.or_eq_true, List.any_eq_true, List.any_eq_true] at h
  rcases h with ⟨l, m, e⟩ | ⟨l, m, e⟩
  · rw [beq_iff_eq] at e
    subst e
    exact .inl m
  · obtain ⟨k, mk, ek⟩ := List.any_eq_true.mp e
    rw [beq_iff_eq] at ek
    subst ek
    exact .inr ⟨l, m, mk⟩
theorem bad_of {ls : List Int} (h : (1 : Int) ∈ ls ∨ ∃ l ∈ ls, fl l ∈ ls) : bad ls = true := by
  cases e : bad ls with
  | true => rfl
  | false =>
    obtain ⟨a, b⟩ := not_bad e
    rcases h with h | ⟨l, m, m2⟩
    · exact absurd h a
    · exact absurd m2 (b l m)
theorem sgn_abs {l : Int} (h : 0 ≤ l) : (sgn l).natAbs = (l / 2).toNat := by
  unfold sgn
  split <;> omega
/-- literals in order, none the opposite of another one: their clause -/
theorem isCl_map {ls ns : List Int} (h0 : ∀ l ∈ ls, 0 ≤ l) (hb : bad ls = false) (hn : ns.Pairwise (· < ·)) (hm : ∀ l, l ∈ ns ↔ l ∈ ls ∧ 1 < l) : IsCl ls (ns.map sgn) := by
  obtain ⟨b1, b2⟩ := not_bad hb
  refine ⟨?_, fun z => ⟨fun h => ?_, ?_⟩⟩
  · unfold Asc
    rw [List.pairwise_map]
    refine hn.imp_of_mem fun {a b} ma mb hab => ?_
    have a0 := (hm a).mp ma
    have c0 := (hm b).mp mb
    rw [sgn_abs (h0 a a0.1), sgn_abs (h0 b c0.1)]
    have ne : ¬ b = fl a := fun e => b2 a a0.1 (e ▸ c0.1)
    unfold fl at ne
    have := a0.2
    omega
  · obtain ⟨l, m, rfl⟩ := List.mem_map.mp h
    exact ⟨l, ((hm l).mp m).1, ((hm l).mp m).2, rfl⟩
  · rintro ⟨l, m, h1, rfl⟩
    exact List.mem_map.mpr ⟨l, (hm l).mpr ⟨m, h1⟩, rfl⟩
/-- nodes in order, each with its sign: the same clause -/
theorem isCl_nodes {ls ns : List Int} (h0 : ∀ l ∈ ls, 0 ≤ l) (hb : bad ls = false) (hn : ns.Pairwise (· < ·)) (hm : ∀ n, n ∈ ns ↔ ∃ l ∈ ls, 1 < l ∧ n = l / 2) :
    IsCl ls (ns.map fun n => if 2 * n ∈ ls then n else -n) := by
  obtain ⟨b1, b2⟩ := not_bad hb
  have val : ∀ l ∈ ls, 1 < l → (if 2 * (l / 2) ∈ ls then l / 2 else -(l / 2)) = sgn l := fun l m h1 => by
    unfold sgn
    by_cases e : l % 2 = 1
    · rw [if_pos e, if_neg]
      intro m2
      refine b2 l m ?_
      have : fl l = 2 * (l / 2) := by
        unfold fl
        omega
      rw [this]
      exact m2
    · rw [if_neg e, if_pos]
      have : 2 * (l / 2) = l := by omega
      rw [this]
      exact m
  refine ⟨?_, fun z => ⟨fun h => ?_, ?_⟩⟩
  · unfold Asc
    rw [List.pairwise_map]
    refine hn.imp_of_mem fun {a b} ma mb hab => ?_
    obtain ⟨l, ml, hl, rfl⟩ := (hm a).mp ma
    obtain ⟨k, mk, hk, rfl⟩ := (hm b).mp mb
    rw [val l ml hl, val k mk hk, sgn_abs (h0 l ml), sgn_abs (h0 k mk)]
    omega
  · obtain ⟨n, m, rfl⟩ := List.mem_map.mp h
    obtain ⟨l, ml, hl, rfl⟩ := (hm n).mp m
    exact ⟨l, ml, hl, val l ml hl⟩
  · rintro ⟨l, m, h1, rfl⟩
    exact List.mem_map.mpr ⟨l / 2, (hm _).mpr ⟨l, m, h1, rfl⟩, val l m h1⟩
def bnd (ls : List Int) : Nat := ls.foldr (fun l b => max l.toNat b) 0 + 1
theorem bnd_lt : ∀ {ls : List Int} {l : Int}, l ∈ ls → l.toNat < bnd ls
  | k :: r, l, h => by
    unfold bnd
    rw [List.foldr_cons]
    rcases List.mem_cons.mp h with rfl | h
    · have := Nat.le_max_left l.toNat (r.foldr (fun l b => max l.toNat b) 0)
      omega
    · have z := bnd_lt h
      unfold bnd at z
      have := Nat.le_max_right k.toNat (r.foldr (fun l b => max l.toNat b) 0)
      omega
def clL (ls : List Int) : List Int := (((List.range (bnd ls)).map fun (l : Nat) => (l : Int)).filter fun l => decide (l ∈ ls ∧ 1 < l)).map sgn
theorem isCl_clL {ls : List Int} (h0 : ∀ l ∈ ls, 0 ≤ l) (hb : bad ls = false) : IsCl ls (clL ls) := by
  refine isCl_map h0 hb (List.Pairwise.filter _ ?_) fun l => ?_
  · rw [List.pairwise_map]
    exact (List.pairwise_lt_range).imp fun h => by omega
  · rw [List.mem_filter, List.mem_map, decide_eq_true_eq]
    refine ⟨fun h => h.2, fun h => ⟨⟨l.toNat, List.mem_range.mpr (bnd_lt h.1), ?_⟩, h⟩⟩
    have := h0 l h.1
    omega
def clM (ls : List Int) : Option (List Int) := if bad ls then none else some (clL ls)
/-! ### what they say -/
def satB (as cl : List Int) : Bool := cl.any fun z => decide (as.getD (z.natAbs - 1) 0 = if z > 0 then 1 else 0)
def litv (as : List Int) (l : Int) : Int := lit (0 :: as) l
theorem litv_01 {as : List Int} (h : B01 as) (l : Int) : litv as l = 0 ∨ litv as l = 1 := lit_01 (fun z hz => by
  rcases List.mem_cons.mp hz with rfl | hz
  · exact .inl rfl
  · exact h z hz) l
theorem getD_tail (as : List Int) {k : Nat} (h : 0 < k) : (0 :: as).getD k 0 = as.getD (k - 1) 0 := by
  obtain ⟨j, rfl⟩ := Nat.exists_eq_succ_of_ne_zero (Nat.pos_iff_ne_zero.mp h)
  rw [List.getD_eq_getElem?_getD, List.getD_eq_getElem?_getD]
  rfl
theorem sgn_lit {as : List Int} (h : B01 as) {l : Int} (h1 : 1 < l) : (as.getD ((sgn l).natAbs - 1) 0 = if sgn l > 0 then 1 else 0) ↔ litv as l = 1 := by
  have g := getD_tail as (k := (l / 2).toNat) (by omega)
  have b := getD_01 h ((l / 2).toNat - 1)
  rw [sgn_abs (by omega)]
  unfold litv lit ab
  rw [g]
  generalize as.getD ((l / 2).toNat - 1) 0 = x at b
  unfold sgn
  by_cases e : l % 2 = 1
  · rw [if_pos e, if_neg (by omega), e]
    rcases b with rfl | rfl <;> decide
  · have e0 : l % 2 = 0 := by omega
    rw [if_neg e, if_pos (by omega), e0]
    rcases b with rfl | rfl <;> decide
theorem litv_zero (as : List Int) : litv as 0 = 0 := rfl
theorem litv_one (as : List Int) : litv as 1 = 1 := rfl
theorem litv_fl {as : List Int} (h : B01 as) {l : Int} (h0 : 0 ≤ l) : litv as (fl l) = 1 - litv as l := by
  have e : fl l / 2 = l / 2 := by
    unfold fl
    omega
  have b : (0 :: as).getD (l / 2).toNat 0 = 0 ∨ (0 :: as).getD (l / 2).toNat 0 = 1 := getD_01 (fun z hz => by
    rcases List.mem_cons.mp hz with rfl | hz
    · exact .inl rfl
    · exact h z hz) _
  unfold litv lit ab
  rw [e]
  have m : l % 2 = 0 ∨ l % 2 = 1 := by omega
  have m2 : fl l % 2 = 1 - l % 2 := by
    unfold fl
    omega
  rw [m2]
  rcases b with b | b <;> rcases m with m | m <;> rw [b, m] <;> decide
theorem sat_cl {as ls cl : List Int} (h : B01 as) (h0 : ∀ l ∈ ls, 0 ≤ l) (h1 : ¬ (1 : Int) ∈ ls) (hc : IsCl ls cl) : satB as cl = true ↔ ∃ l ∈ ls, litv as l = 1 := by
  unfold satB
  rw [List.any_eq_true]
  constructor
  · rintro ⟨z, hz, e⟩
    obtain ⟨l, ml, hl, rfl⟩ := (hc.2 z).mp hz
    exact ⟨l, ml, (sgn_lit h hl).mp (of_decide_eq_true e)⟩
  · rintro ⟨l, ml, e⟩
    have l0 := h0 l ml
    have l1 : 1 < l := by
      rcases Int.lt_trichotomy l 1 with q | q | q
      · have : l = 0 := by omega
        rw [this, litv_zero] at e
        cases e
      · rw [q] at ml
        exact absurd ml h1
      · exact q
    exact ⟨sgn l, (hc.2 _).mpr ⟨l, ml, l1, rfl⟩, decide_eq_true ((sgn_lit h l1).mpr e)⟩
theorem sat_bad {as ls : List Int} (h : B01 as) (h0 : ∀ l ∈ ls, 0 ≤ l) (hb : bad ls = true) : ∃ l ∈ ls, litv as l = 1 := by
  rcases is_bad hb with m | ⟨l, m, m2⟩
  · exact ⟨1, m, litv_one as⟩
  · rcases litv_01 h l with e | e
    · refine ⟨fl l, m2, ?_⟩
      rw [litv_fl h (h0 l m), e]
      rfl
    · exact ⟨l, m, e⟩
/-- a row of literals, as the clause of it says -/
def holds (as ls : List Int) : Prop := match clM ls with
  | none => True
  | some cl => satB as cl = true
theorem holds_iff {as ls : List Int} (h : B01 as) (h0 : ∀ l ∈ ls, 0 ≤ l) : holds as ls ↔ ∃ l ∈ ls, litv as l = 1 := by
  unfold holds clM
  cases e : bad ls with
  | true => exact ⟨fun _ => sat_bad h h0 e, fun _ => trivial⟩
  | false => exact sat_cl h h0 (not_bad e).1 (isCl_clL h0 e)
def three (g : Int) (p : Int × Int) : List (List Int) := [[p.1, g + 1], [p.2, g + 1], [fl p.1, fl p.2, g]]
def clauses (n : Nat) : List (Int × Int) → List (List Int)
  | [] => []
  | p :: r => (three (2 * ((n : Int) + 1)) p).filterMap clM ++ clauses (n + 1) r
theorem gate_iff {as : List Int} {g : Int} {p : Int × Int} (h : B01 as) (h1 : 0 ≤ p.1) (h2 : 0 ≤ p.2) (hg : 0 ≤ g) (he : g % 2 = 0) :
    (∀ cl ∈ (three g p).filterMap clM, satB as cl = true) ↔ litv as g = litv as p.1 * litv as p.2 := by
  have tr : (∀ cl ∈ (three g p).filterMap clM, satB as cl = true) ↔ ∀ ls ∈ three g p, holds as ls := by
    constructor
    · intro q ls m
      unfold holds
      cases e : clM ls with
      | none => exact trivial
      | some cl => exact q cl (List.mem_filterMap.mpr ⟨ls, m, e⟩)
    · intro q cl m
      obtain ⟨ls, m1, e⟩ := List.mem_filterMap.mp m
      have z := q ls m1
      unfold holds at z
      rw [e] at z
      exact z
  have f1 : 0 ≤ fl p.1 := by
    unfold fl
    omega
  have f2 : 0 ≤ fl p.2 := by
    unfold fl
    omega
  have eg : g + 1 = fl g := by
    unfold fl
    omega
  have nn1 : ∀ l ∈ [p.1, g + 1], 0 ≤ l := fun l m => by
    rcases List.mem_cons.mp m with rfl | m
    · exact h1
    · rw [List.mem_singleton.mp m]
      omega
  have nn2 : ∀ l ∈ [p.2, g + 1], 0 ≤ l := fun l m => by
    rcases List.mem_cons.mp m with rfl | m
    · exact h2
    · rw [List.mem_singleton.mp m]
      omega
  have nn3 : ∀ l ∈ [fl p.1, fl p.2, g], 0 ≤ l := fun l m => by
    rcases List.mem_cons.mp m with rfl | m
    · exact f1
    · rcases List.mem_cons.mp m with rfl | m
      · exact f2
      · rw [List.mem_singleton.mp m]
        exact hg
  have k1 := holds_iff h nn1
  have k2 := holds_iff h nn2
  have k3 := holds_iff h nn3
  simp only [List.mem_cons, List.not_mem_nil, or_false, exists_eq_or_imp, exists_eq_left] at k1 k2 k3
  rw [tr]
  simp only [three, List.mem_cons, List.not_mem_nil, or_false, forall_eq_or_imp, forall_eq]
  rw [k1, k2, k3, eg, litv_fl h hg, litv_fl h h1, litv_fl h h2]
  rcases litv_01 h p.1 with a | a <;> rcases litv_01 h p.2 with b | b <;> rcases litv_01 h g with c | c <;> rw [a, b, c] <;> decide
end Cm
namespace Cn
open PySem PySem.Spec PyProof.Rows L2 Fi Gr No Lf Cm
/-! ## Just one assignment, and all rows of bits -/
def fits (as : List Int) (n : Nat) (gs : List (Int × Int)) : Prop := ∀ cl ∈ clauses n gs, satB as cl = true
theorem foldl_pre : ∀ (gs : List (Int × Int)) (f : List Int), (gs.foldl No.step f).take f.length = f
  | [], f => List.take_length
  | p :: r, f => by
    show (r.foldl No.step (No.step f p)).take f.length = f
    have e := foldl_pre r (No.step f p)
    have hl : f.length ≤ (No.step f p).length := by
      unfold No.step
      rw [List.length_append]
      exact Nat.le_add_right _ _
    have e2 : ((r.foldl No.step (No.step f p)).take (No.step f p).length).take f.length = (No.step f p).take f.length := by rw [e]
    rw [List.take_take, Nat.min_eq_left hl] at e2
    rw [e2]
    unfold No.step
    exact List.take_left
theorem getD_take {f : List Int} {j k : Nat} (h : j < k) : (f.take k).getD j 0 = f.getD j 0 := by
  rw [List.getD_eq_getElem?_getD, List.getD_eq_getElem?_getD, List.getElem?_take_of_lt h]
theorem lit_take {f : List Int} {a : Int} {k : Nat} (h0 : 0 ≤ a) (h : (a / 2).toNat < k) : lit (f.take k) a = lit f a := by
  unfold lit
  rw [getD_take h]
theorem take_snoc {as : List Int} {n : Nat} (h : n < as.length) : as.take (n + 1) = as.take n ++ [as.getD n 0] := by
  rw [List.take_succ, List.getD_eq_getElem?_getD, List.getElem?_eq_getElem h]
  rfl
theorem fits_iff : ∀ (gs : List (Int × Int)) (n : Nat) (as : List Int), B01 as → as.length = n + gs.length → okG (2 * (n : Int) + 1) gs = true → (fits as n gs ↔ 0 :: as = gs.foldl No.step (0 :: as.take n))
  | [], n, as, _, hl, _ => by
    have e : as.take n = as := List.take_of_length_le (by simp at hl; omega)
    refine ⟨fun _ => ?_, fun _ cl m => by cases m⟩
    show 0 :: as = 0 :: as.take n
    rw [e]
  | p :: r, n, as, hb, hl, hok => by
    have hl' : as.length = n + 1 + r.length := by
      rw [hl, List.length_cons]
      omega
    have hn : n < as.length := by omega
    obtain ⟨⟨a0, a1⟩, b0, b1⟩ := okG_at (i := 0) (p := p) hok rfl
    have hok2 : okG (2 * ((n + 1 : Nat) : Int) + 1) r = true := by
      unfold okG at hok
      rw [Bool.and_eq_true] at hok
      rw [show 2 * ((n + 1 : Nat) : Int) + 1 = 2 * (n : Int) + 1 + 2 by omega]
      exact hok.2
    have ih := fits_iff r (n + 1) as hb hl' hok2
    have gate := gate_iff (as := as) (g := 2 * ((n : Int) + 1)) (p := p) hb a0 b0 (by omega) (by omega)
    have split : fits as n (p :: r) ↔ litv as (2 * ((n : Int) + 1)) = litv as p.1 * litv as p.2 ∧ fits as (n + 1) r := by
      rw [← gate]
      have ec : clauses n (p :: r) = (three (2 * ((n : Int) + 1)) p).filterMap clM ++ clauses (n + 1) r := rfl
      unfold fits
      rw [ec]
      constructor
      · exact fun h => ⟨fun cl m => h cl (List.mem_append_left _ m), fun cl m => h cl (List.mem_append_right _ m)⟩
      · rintro ⟨h1, h2⟩ cl m
        rcases List.mem_append.mp m with m | m
        · exact h1 cl m
        · exact h2 cl m
    have lg : litv as (2 * ((n : Int) + 1)) = as.getD n 0 := by
      unfold litv lit
      have e1 : (2 * ((n : Int) + 1) / 2).toNat = n + 1 := by omega
      have e2 : 2 * ((n : Int) + 1) % 2 = 0 := by omega
      rw [e1, e2, getD_tail as (by omega : 0 < n + 1)]
      show ab (as.getD n 0 - 0) = _
      rcases getD_01 hb n with q | q <;> rw [q] <;> rfl
    have st : No.step (0 :: as.take n) p = 0 :: as.take n ++ [litv as p.1 * litv as p.2] := by
      unfold No.step
      have e : (0 :: as.take n) = (0 :: as).take (n + 1) := rfl
      rw [e, lit_take a0 (by omega), lit_take b0 (by omega)]
      rfl
    have goal : (p :: r).foldl No.step (0 :: as.take n) = r.foldl No.step (0 :: as.take n ++ [litv as p.1 * litv as p.2]) := by
      show r.foldl No.step (No.step (0 :: as.take n) p) = _
      rw [st]
    have tk := take_snoc hn
    rw [split, goal, lg, ih, tk]
    constructor
    · rintro ⟨e1, e2⟩
      rw [e1] at e2
      exact e2
    · intro e2
      have pre := foldl_pre r (0 :: as.take n ++ [litv as p.1 * litv as p.2])
      rw [← e2] at pre
      have ln : (0 :: as.take n ++ [litv as p.1 * litv as p.2]).length = n + 2 := by
        rw [List.length_append, List.length_cons, List.length_take, Nat.min_eq_left (Nat.le_of_lt hn)]
        rfl
      rw [ln] at pre
      have pre2 : (0 :: as).take (n + 2) = 0 :: as.take n ++ [as.getD n 0] := by
        show 0 :: as.take (n + 1) = _
        rw [tk]
        rfl
      rw [pre2] at pre
      have e1 : as.getD n 0 = litv as p.1 * litv as p.2 := by
        have z := List.append_inj_right' pre rfl
        exact List.head_eq_of_cons_eq z
      refine ⟨e1, ?_⟩
      rw [e1]
      exact e2
/-- the one assignment that has these bits -/
def whole (bs : List Int) (gs : List (Int × Int)) : List Int := (vals bs gs).drop 1
theorem vals_head (bs : List Int) (gs : List (Int × Int)) : vals bs gs = 0 :: whole bs gs := by
  have e := foldl_pre gs (0 :: bs)
  unfold whole
  cases h : vals bs gs with
  | nil =>
    have z := vals_len bs gs
    rw [h] at z
    have z2 : 0 = bs.length + 1 + gs.length := z
    omega
  | cons x r =>
    unfold vals at h
    rw [h] at e
    have : x = 0 := List.head_eq_of_cons_eq e
    rw [this]
    rfl
theorem whole_len (bs : List Int) (gs : List (Int × Int)) : (whole bs gs).length = bs.length + gs.length := by
  unfold whole
  rw [List.length_drop, vals_len]
  omega
theorem whole_01 {bs : List Int} (gs : List (Int × Int)) (h : B01 bs) : B01 (whole bs gs) := fun z hz => vals_01 gs h z (List.mem_of_mem_drop hz)
theorem whole_take (bs : List Int) (gs : List (Int × Int)) : (whole bs gs).take bs.length = bs := by
  have e := foldl_pre gs (0 :: bs)
  have v := vals_head bs gs
  unfold vals at v
  rw [v] at e
  exact List.tail_eq_of_cons_eq e
theorem fits_whole {as bs : List Int} {gs : List (Int × Int)} (hb : B01 as) (hl : as.length = bs.length + gs.length) (hok : okG (2 * (bs.length : Int) + 1) gs = true) : (fits as bs.length gs ∧ as.take bs.length = bs) ↔ as = whole bs gs := by
  rw [fits_iff gs bs.length as hb hl hok]
  constructor
  · rintro ⟨e1, e2⟩
    rw [e2] at e1
    have v := vals_head bs gs
    unfold vals at v
    rw [v] at e1
    exact List.tail_eq_of_cons_eq e1
  · intro e
    have t : as.take bs.length = bs := by
      rw [e]
      exact whole_take bs gs
    refine ⟨?_, t⟩
    rw [t]
    have v := vals_head bs gs
    unfold vals at v
    rw [v, e]
/-! ### all rows of so many bits -/
theorem longer_in : ∀ {rs : List (List Int)} {t : List Int}, t ∈ longer rs ↔ ∃ r ∈ rs, t = r ++ [0] ∨ t = r ++ [1]
  | [], t => ⟨fun h => absurd h List.not_mem_nil, fun ⟨_, h, _⟩ => absurd h List.not_mem_nil⟩
  | r :: rs, t => by
    rw [longer_cons, List.mem_cons, List.mem_cons, longer_in]
    constructor
    · rintro (h | h | ⟨s, m, h⟩)
      · exact ⟨r, List.mem_cons_self, .inl h⟩
      · exact ⟨r, List.mem_cons_self, .inr h⟩
      · exact ⟨s, List.mem_cons_of_mem _ m, h⟩
    · rintro ⟨s, m, h⟩
      rcases List.mem_cons.mp m with rfl | m
      · rcases h with h | h
        · exact .inl h
        · exact .inr (.inl h)
      · exact .inr (.inr ⟨s, m, h⟩)
theorem longer_nd : ∀ {rs : List (List Int)}, rs.Nodup → (longer rs).Nodup
  | [], _ => List.nodup_nil
  | r :: rs, h => by
    rw [List.nodup_cons] at h
    rw [longer_cons, List.nodup_cons, List.nodup_cons, List.mem_cons, longer_in, longer_in]
    have no : ∀ z : Int, ¬ ∃ s ∈ rs, r ++ [z] = s ++ [0] ∨ r ++ [z] = s ++ [1] := fun z ⟨s, m, e⟩ => by
      have : r = s := by
        rcases e with e | e <;> exact List.append_inj_left' e rfl
      rw [this] at h
      exact h.1 m
    refine ⟨fun e => ?_, no 1, longer_nd h.2⟩
    rcases e with e | e
    · have z := List.append_inj_right' e rfl
      cases z
    · exact no 0 e
theorem rowsM_nd : ∀ n : Nat, (rowsM n).Nodup
  | 0 => by
    show [([] : List Int)].Nodup
    rw [List.nodup_cons]
    exact ⟨List.not_mem_nil, List.nodup_nil⟩
  | n + 1 => longer_nd (rowsM_nd n)
theorem rowsM_all : ∀ (n : Nat) (r : List Int), r.length = n → B01 r → r ∈ rowsM n
  | 0, r, h, _ => by
    rw [List.length_eq_zero_iff.mp h]
    exact List.mem_cons_self
  | n + 1, r, h, hb => by
    show r ∈ longer (rowsM n)
    have hne : r ≠ [] := fun e => by
      rw [e] at h
      cases h
    have e := List.dropLast_concat_getLast hne
    have hd : B01 r.dropLast := fun z hz => hb z (List.dropLast_subset r hz)
    have hl := hb _ (List.getLast_mem hne)
    have hm := rowsM_all n r.dropLast (by rw [List.length_dropLast, h]; rfl) hd
    rw [longer_in]
    refine ⟨r.dropLast, hm, ?_⟩
    rcases hl with q | q
    · rw [q] at e
      exact .inl e.symm
    · rw [q] at e
      exact .inr e.symm
theorem filter_one {p : List Int → Bool} {w : List Int} : ∀ {l : List (List Int)}, l.Nodup → w ∈ l → (∀ r ∈ l, p r = true ↔ r = w) → l.filter p = [w]
  | [], _, h, _ => by cases h
  | r :: l, nd, h, hp => by
    rw [List.nodup_cons] at nd
    by_cases e : r = w
    · rw [List.filter_cons_of_pos ((hp r List.mem_cons_self).mpr e), e]
      have none : l.filter p = [] := by
        rw [List.filter_eq_nil_iff]
        intro s m q
        have := (hp s (List.mem_cons_of_mem _ m)).mp q
        rw [this, ← e] at m
        exact nd.1 m
      rw [none]
    · have hr : ¬ p r = true := fun q => e ((hp r List.mem_cons_self).mp q)
      rw [List.filter_cons_of_neg hr]
      rcases List.mem_cons.mp h with q | q
      · exact absurd q.symm e
      · exact filter_one nd.2 q fun s m => hp s (List.mem_cons_of_mem _ m)
end Cn
namespace Bd
open PySem PySem.Spec PyProof.Rows L2 Pen Dat Ki Fi Gr
/-! ## Builders -/
def flp (l : Int) : Int := l + 1 - 2 * (l % 2)
def ix (p : Int × Int) (gs : List (Int × Int)) : Nat := gs.findIdx (fun q => decide (q = p))
def ordP (a b : Int) : Int × Int := if a > b then (a, b) else (b, a)
def gated (n : Int) (gs : List (Int × Int)) (p : Int × Int) : List (Int × Int) × Int := if p ∈ gs then (gs, 2 * (n + ix p gs + 1)) else (gs ++ [p], 2 * (n + gs.length + 1))
theorem xor_one {l : Int} (h : 0 ≤ l) : Builtin.bitXor l 1 = flp l := by
  obtain ⟨n, rfl⟩ := Int.eq_ofNat_of_zero_le h
  rw [Bits.bitXor_pp h (by decide)]
  have z := Bits.nat_xor_add_and n 1
  rw [Nat.and_one_is_mod] at z
  unfold flp
  have e : ((n : Int)).toNat = n := Int.toNat_natCast n
  have e1 : (1 : Int).toNat = 1 := rfl
  rw [e, e1]
  omega
/-- what and_of does -/
def andM (n : Int) (gs : List (Int × Int)) (a b : Int) : List (Int × Int) × Int :=
  if a = 0 ∨ b = 0 ∨ a = flp b then (gs, 0) else if a = 1 then (gs, b) else if b = 1 ∨ a = b then (gs, a) else gated n gs (ordP a b)
def kP (p : Int × Int) : List Key := [.inl p.1, .inl p.2]
/-- a table of pairs' literals -/
def StandM (n : Int) (gs : List (Int × Int)) (kvs : List (List Key × V)) : Prop := kvs.length = gs.length ∧ ∀ p : Int × Int, valV kvs (kP p) = if p ∈ gs then some (.int (2 * (n + ix p gs + 1))) else none
theorem kP_inj {p q : Int × Int} (h : kP p = kP q) : p = q := by
  unfold kP at h
  injection h with a b
  injection b with b _
  exact Prod.ext (Sum.inl.inj a) (Sum.inl.inj b)
theorem ix_mem {p : Int × Int} {gs : List (Int × Int)} {t : List (Int × Int)} (h : p ∈ gs) : ix p (gs ++ t) = ix p gs := by
  unfold ix
  rw [List.findIdx_append]
  have : gs.findIdx (fun q => decide (q = p)) < gs.length := List.findIdx_lt_length_of_exists ⟨p, h, decide_eq_true rfl⟩
  rw [if_pos this]
theorem ix_new {p : Int × Int} {gs : List (Int × Int)} (h : ¬ p ∈ gs) : ix p (gs ++ [p]) = gs.length := by
  unfold ix
  rw [List.findIdx_append]
  have e : gs.findIdx (fun q => decide (q = p)) = gs.length := List.findIdx_eq_length.mpr fun q hq => decide_eq_false fun e => h (e ▸ hq)
  rw [e, if_neg (Nat.lt_irrefl _)]
  have : [p].findIdx (fun q => decide (q = p)) = 0 := by
    rw [List.findIdx_cons, decide_eq_true rfl]
    rfl
  rw [this]
  exact Nat.zero_add _
theorem StandM.put {n : Int} {gs : List (Int × Int)} {kvs : List (List Key × V)} {p : Int × Int} (h : StandM n gs kvs) (hp : ¬ p ∈ gs) : StandM n (gs ++ [p]) (putK kvs (kP p) (.int (2 * (n + gs.length + 1)))) := by
  obtain ⟨h1, h2⟩ := h
  have hv : valV kvs (kP p) = none := by
    rw [h2 p, if_neg hp]
  refine ⟨?_, fun q => ?_⟩
  · rw [putK_new _ hv, List.length_append, List.length_append, h1]
    rfl
  · rw [valV_put]
    by_cases e : q = p
    · subst e
      rw [if_pos rfl, if_pos (List.mem_append_right _ List.mem_cons_self), ix_new hp]
    · rw [if_neg fun z => e (kP_inj z), h2 q]
      by_cases m : q ∈ gs
      · rw [if_pos m, if_pos (List.mem_append_left _ m), ix_mem m]
      · rw [if_neg m, if_neg fun z => (List.mem_append.mp z).elim m fun z => e (List.mem_singleton.mp z)]
structure Tx (K : PySem.W.Frag) (mg : Str → Option Value) (B : Addr) : Prop where
  ki : Ki.Tx mg
  cl : Cls K B
  nL : NoAttr K B "leaves"
  nG : NoAttr K B "gates"
  nS : NoAttr K B "standing"
def fB (n : Int) (gl sd : Addr) : List (Str × V) := putF "standing" (.ref sd) (putF "gates" (.ref gl) (putF "leaves" (.int n) []))
theorem fB_L (n : Int) (gl sd : Addr) : (fB n gl sd).lookup ("leaves" : Str) = some (.int n) := by
  have a : ¬ (("leaves" : Str) = "standing") := by decide +kernel
  have b : ¬ (("leaves" : Str) = "gates") := by decide +kernel
  unfold fB
  rw [lookup_putF, if_neg a, lookup_putF, if_neg b, lookup_putF, if_pos rfl]
theorem fB_G (n : Int) (gl sd : Addr) : (fB n gl sd).lookup ("gates" : Str) = some (.ref gl) := by
  have a : ¬ (("gates" : Str) = "standing") := by decide +kernel
  unfold fB
  rw [lookup_putF, if_neg a, lookup_putF, if_pos rfl]
theorem fB_S (n : Int) (gl sd : Addr) : (fB n gl sd).lookup ("standing" : Str) = some (.ref sd) := by
  unfold fB
  rw [lookup_putF, if_pos rfl]
/-- a builder stands at b, its gates at gl, its table at sd -/
def BAt (K : PySem.W.Frag) (B : Addr) (H : Hp) (b gl sd : Addr) (n : Int) (gs : List (Int × Int)) : Prop :=
  ∃ dx ws kvs, H b = some (.ins B dx (fB n gl sd)) ∧ H gl = some (.lst ws) ∧ All2 (Pt K H) ws gs ∧ H sd = some (.dT kvs) ∧ StandM n gs kvs
/-- all but two objects stand as they stood -/
def But2 (p q : Addr) (H H' : Hp) : Prop := ∀ b o, H b = some o → b ≠ p → b ≠ q → H' b = some o
abbrev sAnd : Stmt := inClass cBuild 2
def spAnd (K : PySem.W.Frag) (B : Addr) : Sp := fun vs H Q _ => ∃ (b gl sd : Addr) (n x y : Int) (gs : List (Int × Int)), vs = [.ref b, .int x, .int y] ∧ BAt K B H b gl sd n gs ∧ gs.length ≤ 5000 ∧ 0 ≤ x ∧ 0 ≤ y ∧
  ∀ H', But2 gl sd H H' → Firm H H' → BAt K B H' b gl sd n (andM n gs x y).1 → Q (.int (andM n gs x y).2) H'
section
variable {P : Program} {w : World} {K : PySem.W.Frag} {mg : Str → Option Value} {base : Heap} {f B : Addr} {fd : FuncData}
theorem scAnd : FnScope ["self", "one", "other", "pair"] ["self", "one", "other"] (defScope sAnd) := ⟨rfl, rfl, rfl, by decide +kernel, rfl, by decide +kernel, by decide +kernel⟩
abbrev FnA (K : PySem.W.Frag) (f : Addr) (fd : FuncData) : Prop := FunD K "and_of" "Builder.and_of" (defArgs sAnd) (defBody sAnd) (defScope sAnd) [] [] f fd
theorem ok_and (F : FnA K f fd) (T : Tx K mg B) : FnOk P w K mg base CX0 1 f fd ["self", "one", "other"] (spAnd K B) := by
  refine F.ok scAnd (fun vs H Q E h => ?_) (fun cdv A outer s H vs Q E hr h => ?_)
  · obtain ⟨b, gl, sd, n, x, y, gs, rfl, _⟩ := h
    rfl
  · obtain ⟨b, gl, sd, n, x, y, gs, rfl, hB, hz, x0, y0, q⟩ := h
    have hu := hu_of hr
    refine ⟨_, PSs.nox (pss_cons (ps_if (PW.pt (pw_or (pt_cmpR op_eq (pv 1) pe_int (nomark _)) (pw_or (pt_cmpR op_eq (pv 2) pe_int (nomark _)) (pw_or1 (pt_cmpR op_eq (pv 1) (pe_op op_xor (pv 2) pe_int) (nomark _)))))) (pss_one (ps_ret pe_int)) pss_nil)
      (pss_cons (ps_if (pt_cmpR op_eq (pv 1) pe_int (nomark _)) (pss_one (ps_ret (pv 2))) pss_nil)
      (pss_cons (ps_if (PW.pt (pw_or (pt_cmpR op_eq (pv 2) pe_int (nomark _)) (pw_or1 (pt_cmpR op_eq (pv 1) (pv 2) (nomark _))))) (pss_one (ps_ret (pv 1))) pss_nil)
      (C8.pss_cut (ps_set (i := 3) scAnd.nd rfl (Or.inl rfl) (pe_ifExp (pt_cmpR op_gt (pv 1) (pv 2) (nomark _)) (pe_tup (pa_cons (pv 1) (pa_cons (pv 2) pa_nil))) (pe_tup (pa_cons (pv 2) (pa_cons (pv 1) pa_nil)))))
      (C8.pss_cut (ps_if (pt_cmp (pc_dnotin hu (pv 3) (pe_fld (pv 0) rfl)))
        (pss_cons (ps_expr (pe_bm PySem.F.plainAttrs_list PySem.F.slot_list_append PySem.F.type_list_append mt_append (pe_fld (pv 0) rfl) (pa_cons (pv 3) pa_nil)))
        (pss_one (ps_dput hu (pe_fld (pv 0) rfl) (pv 3) (pe_op op_mul pe_int (pe_op op_add (pe_fld (pv 0) rfl) (pe_callB call_len_seq (by rfl) T.ki.len PySem.boot_len (pa_cons (pe_fld (pv 0) rfl) pa_nil)))) rfl))) pss_nil)
      (pss_one (ps_ret (pe_dget hu (pe_fld (pv 0) rfl) (pv 3) (fun _ _ => rfl))))))))), ?_⟩
    obtain ⟨dx, ws, kvs, hb, hg, ha, hs, hS⟩ := id hB
    have done : ∀ {r : Int}, andM n gs x y = (gs, r) → Q (.int r) H := fun {r} e => by
      have z := q H (fun _ _ e _ _ => e) (Firm.refl H)
      rw [e] at z
      exact z hB
    have di : ∀ {a b : Int}, decide (V.int a = V.int b) = true → a = b := fun h => V.int.inj (of_decide_eq_true h)
    have dn : ∀ {a b : Int}, ¬ decide (V.int a = V.int b) = true → ¬ a = b := fun h e => h (decide_eq_true (congrArg V.int e))
    refine ⟨_, rfl, rfl, _, rfl, ?_⟩
    refine ite2 (fun c1 => ?_) (fun c1 => ?_)
    · exact iteT (done (if_pos (.inl (di c1))))
    refine ⟨_, rfl, rfl, _, rfl, ?_⟩
    refine ite2 (fun c2 => ?_) (fun c2 => ?_)
    · exact iteT (done (if_pos (.inr (.inl (di c2)))))
    refine ⟨_, rfl, _, rfl, _, _, rfl, rfl, rfl, _, rfl, ?_⟩
    have ex := xor_one y0
    refine ite2 (fun c3 => ?_) (fun c3 => ?_)
    · exact done (if_pos (.inr (.inr ((di c3).trans ex))))
    have n1 : ¬ (x = 0 ∨ y = 0 ∨ x = flp y) := fun h => h.elim (dn c1) fun h => h.elim (dn c2) fun h => dn c3 (h.trans ex.symm)
    refine ⟨_, rfl, rfl, _, rfl, ?_⟩
    refine ite2 (fun c4 => ?_) (fun c4 => ?_)
    · exact ⟨_, rfl, done ((if_neg n1).trans (if_pos (di c4)))⟩
    have n4 := dn c4
    refine ⟨_, rfl, rfl, _, rfl, ?_⟩
    refine ite2 (fun c5 => ?_) (fun c5 => ?_)
    · exact iteT ⟨_, rfl, done ((if_neg n1).trans ((if_neg n4).trans (if_pos (.inl (di c5)))))⟩
    refine ⟨_, rfl, _, rfl, rfl, _, rfl, ?_⟩
    refine ite2 (fun c6 => ?_) (fun c6 => ?_)
    · exact ⟨_, rfl, done ((if_neg n1).trans ((if_neg n4).trans (if_pos (.inr (di c6)))))⟩
    have n5 : ¬ (y = 1 ∨ x = y) := fun h => h.elim (dn c5) (dn c6)
    have eA : andM n gs x y = gated n gs (ordP x y) := (if_neg n1).trans ((if_neg n4).trans (if_neg n5))
    rw [eA] at q
    -- the pair
    generalize ep : ordP x y = pr at q
    refine ⟨fun σ H1 => ∃ t, σ = [some (.ref b), some (.int x), some (.int y), some (.ref t)] ∧ Same H H1 ∧ H1 t = some (.tup [.int pr.1, .int pr.2]), ?_, ?_⟩
    · refine ⟨_, rfl, _, rfl, _, _, rfl, rfl, _, rfl, ?_⟩
      refine ite2 (fun c7 => ?_) (fun c7 => ?_)
      · have e : pr = (x, y) := by
          rw [← ep]
          exact if_pos (of_decide_eq_true c7)
        refine ⟨_, rfl, _, rfl, (by show 2 ≤ sizeLine; decide), fun t nt => ⟨t, rfl, same_new nt, ?_⟩⟩
        rw [e]
        exact upd_same
      · have e : pr = (y, x) := by
          rw [← ep]
          exact if_neg fun z => c7 (decide_eq_true z)
        refine ⟨_, rfl, _, rfl, (by show 2 ≤ sizeLine; decide), fun t nt => ⟨t, rfl, same_new nt, ?_⟩⟩
        rw [e]
        exact upd_same
    rintro σ H1 ⟨t, rfl, s1, ht⟩
    have hb1 := s1 _ _ hb
    have hg1 := s1 _ _ hg
    have hs1 := s1 _ _ hs
    have ha1 := ha.imp fun _ _ h => h.firm (Firm.of s1)
    have kt : H1 t = some (.tup ((kP pr).map kV)) := ht
    have ngs : gl ≠ sd := fun e => by
      rw [e, hs] at hg
      cases hg
    have ntg : t ≠ gl := fun e => by
      rw [e, hg1] at ht
      cases ht
    have nts : t ≠ sd := fun e => by
      rw [e, hs1] at ht
      cases ht
    have nbg : b ≠ gl := fun e => by
      rw [e, hg1] at hb1
      cases hb1
    have nbs : b ≠ sd := fun e => by
      rw [e, hs1] at hb1
      cases hb1
    refine ⟨fun σ H2 => σ = [some (.ref b), some (.int x), some (.int y), some (.ref t)] ∧ But2 gl sd H H2 ∧ Firm H H2 ∧ BAt K B H2 b gl sd n (gated n gs pr).1 ∧ H2 t = some (.tup ((kP pr).map kV)), ?_, ?_⟩
    · refine ⟨_, rfl, _, rfl, b, B, dx, _, _, rfl, hb1, T.cl, T.nS, fB_S _ _ _, sd, _, rfl, DGet.t (k := kP pr) hs1 kt, _, rfl, ?_⟩
      by_cases m : pr ∈ gs
      · have e : (valV kvs (kP pr)).isSome = true := by
          rw [hS.2 pr, if_pos m]
          rfl
        rw [e]
        refine iteF ⟨rfl, fun _ _ e _ _ => s1 _ _ e, Firm.of s1, ?_, kt⟩
        have eg : (gated n gs pr).1 = gs := by
          unfold gated
          rw [if_pos m]
        rw [eg]
        exact ⟨dx, ws, kvs, hb1, hg1, ha1, hs1, hS⟩
      · have e : (valV kvs (kP pr)).isSome = false := by
          rw [hS.2 pr, if_neg m]
          rfl
        rw [e]
        refine iteT ?_
        have wl := ha.len
        refine ⟨_, rfl, b, B, dx, _, _, rfl, hb1, T.cl, T.nG, fB_G _ _ _, .inl ⟨rfl, _, SqL.of hg1⟩, _, rfl, gl, _, _, rfl, rfl, hg1, ?_, ?_⟩
        · rw [wl]
          exact Nat.lt_of_le_of_lt hz (by decide)
        have fg := Firm.upd (o := .lst (ws ++ [V.ref t])) hg1 rfl
        have hb2 : (upd H1 gl (.lst (ws ++ [V.ref t]))) b = some (.ins B dx (fB n gl sd)) := by
          rw [upd_ne nbg]
          exact hb1
        have hs2 : (upd H1 gl (.lst (ws ++ [V.ref t]))) sd = some (.dT kvs) := by
          rw [upd_ne ngs.symm]
          exact hs1
        have kt2 : (upd H1 gl (.lst (ws ++ [V.ref t]))) t = some (.tup ((kP pr).map kV)) := by
          rw [upd_ne ntg]
          exact kt
        have hg2 := upd_same (H := H1) (a := gl) (o := .lst (ws ++ [V.ref t]))
        have a2 : All2 (Pt K (upd H1 gl (.lst (ws ++ [V.ref t])))) (ws ++ [V.ref t]) (gs ++ [pr]) := (ha1.imp fun _ _ h => h.firm fg).snoc ⟨t, rfl, SqT.of kt2⟩
        have o2 : ∀ a o, H1 a = some o → a ≠ gl → (upd H1 gl (.lst (ws ++ [V.ref t]))) a = some o := fun a o e ne => by
          rw [upd_ne ne]
          exact e
        generalize upd H1 gl (.lst (ws ++ [V.ref t])) = H2 at fg hb2 hs2 kt2 hg2 a2 o2 ⊢
        refine ⟨_, rfl, b, B, dx, _, _, rfl, hb2, T.cl, T.nL, fB_L _ _ _, _, rfl, b, B, dx, _, _, rfl, hb2, T.cl, T.nG, fB_G _ _ _, gl, _, rfl, .inl (SqL.of hg2), _, _, rfl, rfl, _, _, rfl, rfl, .inl ⟨by decide, by decide⟩, ?_⟩
        have el : (2 * (n + (((ws ++ [V.ref t]).length : Nat) : Int))) = 2 * (n + gs.length + 1) := by
          rw [List.length_append, wl]
          show 2 * (n + ((gs.length + 1 : Nat) : Int)) = _
          omega
        refine ⟨_, rfl, b, B, dx, _, _, rfl, hb2, T.cl, T.nS, fB_S _ _ _, _, rfl, sd, _, rfl, DPut.t (k := kP pr) hs2 kt2 (by rw [hS.1]; exact Nat.lt_of_le_of_lt hz (by decide)), ?_⟩
        show _ ∧ _
        have fs := Firm.upd (o := .dT (putK kvs (kP pr) (.int (2 * (n + (((ws ++ [V.ref t]).length : Nat) : Int)))))) hs2 rfl
        refine ⟨rfl, fun a o e ne1 ne2 => ?_, (Firm.of s1).trans (fg.trans fs), ?_, ?_⟩
        · rw [upd_ne ne2]
          exact o2 _ _ (s1 _ _ e) ne1
        · have eg : (gated n gs pr).1 = gs ++ [pr] := by
            unfold gated
            rw [if_neg m]
          rw [eg]
          refine ⟨dx, _, _, ?_, ?_, a2.imp fun _ _ h => h.firm fs, upd_same, ?_⟩
          · rw [upd_ne nbs]
            exact hb2
          · rw [upd_ne ngs]
            exact hg2
          · show StandM n (gs ++ [pr]) (putK kvs (kP pr) (.int (2 * (n + (((ws ++ [V.ref t]).length : Nat) : Int)))))
            rw [el]
            exact hS.put m
        · rw [upd_ne nts]
          exact kt2
    · rintro σ H2 ⟨rfl, k2, f2, hB2, kt2⟩
      obtain ⟨dx2, ws2, kvs2, hb2, hg2, ha2, hs2, hS2⟩ := id hB2
      have ev : valV kvs2 (kP pr) = some (.int (gated n gs pr).2) := by
        rw [hS2.2 pr]
        unfold gated
        by_cases m : pr ∈ gs
        · rw [if_pos m, if_pos m]
        · rw [if_neg m, if_pos (List.mem_append_right _ List.mem_cons_self)]
          show some (V.int (2 * (n + ix pr (gs ++ [pr]) + 1))) = _
          rw [ix_new m]
      refine ⟨_, rfl, b, B, dx2, _, _, rfl, hb2, T.cl, T.nS, fB_S _ _ _, _, rfl, sd, _, rfl, ev ▸ DGet.t (k := kP pr) hs2 kt2, q H2 k2 f2 hB2⟩
end
end Bd
namespace Be
open PySem PySem.Spec PyProof.Rows L2 Pen Dat Ki Fi Gr Bd
/-! ## What is built of and_of -/
def orM (n : Int) (gs : List (Int × Int)) (a b : Int) : List (Int × Int) × Int := ((andM n gs (flp a) (flp b)).1, flp (andM n gs (flp a) (flp b)).2)
def xorM (n : Int) (gs : List (Int × Int)) (a b : Int) : List (Int × Int) × Int :=
  andM n (andM n (andM n gs a b).1 (flp a) (flp b)).1 (flp (andM n gs a b).2) (flp (andM n (andM n gs a b).1 (flp a) (flp b)).2)
def choiceM (n : Int) (gs : List (Int × Int)) (c a b : Int) : List (Int × Int) × Int :=
  orM n (andM n (andM n gs c a).1 (flp c) b).1 (andM n gs c a).2 (andM n (andM n gs c a).1 (flp c) b).2
theorem flp_nn {l : Int} (h : 0 ≤ l) : 0 ≤ flp l := by
  unfold flp
  omega
theorem andM_len (n : Int) (gs : List (Int × Int)) (a b : Int) : (andM n gs a b).1.length ≤ gs.length + 1 := by
  unfold Bd.andM gated
  split
  · exact Nat.le_succ _
  split
  · exact Nat.le_succ _
  split
  · exact Nat.le_succ _
  split
  · exact Nat.le_succ _
  · rw [List.length_append]
    exact Nat.le_refl _
theorem andM_nn {n : Int} (gs : List (Int × Int)) {a b : Int} (n0 : 0 ≤ n) (a0 : 0 ≤ a) (b0 : 0 ≤ b) : 0 ≤ (andM n gs a b).2 := by
  unfold Bd.andM gated
  split
  · exact Int.le_refl _
  split
  · exact b0
  split
  · exact a0
  split
  · show 0 ≤ 2 * (n + (ix (ordP a b) gs : Int) + 1)
    omega
  · show 0 ≤ 2 * (n + (gs.length : Int) + 1)
    omega
theorem But2.trans {p q : Addr} {H H1 H2 : Hp} (a : But2 p q H H1) (b : But2 p q H1 H2) : But2 p q H H2 := fun c o e h k => b c o (a c o e h k) h k
structure Ty (K : PySem.W.Frag) (mg : Str → Option Value) (B : Addr) (fA : Addr) : Prop where
  t : Bd.Tx K mg B
  me : Meth K B "and_of" fA
section
variable {P : Program} {w : World} {K : PySem.W.Frag} {mg : Str → Option Value} {base : Heap} {f B fA : Addr} {fd dA : FuncData}
theorem lk (n : Int) (gl sd : Addr) : (fB n gl sd).lookup ("and_of" : Str) = none := by
  have a : ¬ (("and_of" : Str) = "standing") := by decide +kernel
  have b : ¬ (("and_of" : Str) = "gates") := by decide +kernel
  have c : ¬ (("and_of" : Str) = "leaves") := by decide +kernel
  unfold fB
  rw [lookup_putF, if_neg a, lookup_putF, if_neg b, lookup_putF, if_neg c]
  rfl
end
end Be
namespace Bf
open PySem PySem.Spec PyProof.Rows L2 Pen Dat Ki Fi Gr No Bd Be
def ledL (xs : List Int) (a : Int) : Int := if a % 2 = 1 then flp (xs.getD (a / 2).toNat 0) else xs.getD (a / 2).toNat 0
theorem xor_nil {l : Int} (h : 0 ≤ l) : Builtin.bitXor l 0 = l := by
  obtain ⟨n, rfl⟩ := Int.eq_ofNat_of_zero_le h
  rw [Bits.bitXor_pp h (by decide)]
  show ((n ^^^ 0 : Nat) : Int) = n
  rw [Nat.xor_zero]
abbrev sBInit : Stmt := inClass cBuild 0
abbrev sBGraph : Stmt := inClass cBuild 1
def spBInit (K : PySem.W.Frag) (B : Addr) : Sp := fun vs H Q _ => ∃ (p dx : Addr) (n : Int), vs = [.ref p, .int n] ∧ H p = some (.ins B dx []) ∧ 0 ≤ n ∧ ∀ H' gl sd, (∀ b o, H b = some o → b ≠ p → H' b = some o) → BAt K B H' p gl sd n [] → H gl = none → H sd = none → Q .non H'
def spBGraph (K : PySem.W.Frag) (C B : Addr) : Sp := fun vs H Q _ => ∃ (p gl sd : Addr) (n : Int) (gs : List (Int × Int)), vs = [.ref p] ∧ BAt K B H p gl sd n gs ∧ 0 ≤ n ∧ gs.length ≤ 1000 ∧ okG (2 * n + 1) gs = true ∧ ∀ H' x, Same H H' → GraphAt K C H' x n gs → Q (.ref x) H'
def spLitIn (K : PySem.W.Frag) : Sp := fun vs H Q _ => ∃ (l : Addr) (xs : List Int) (a : Int), vs = [.ref l, .int a] ∧ SqL K H l (xs.map V.int) ∧ 0 ≤ a ∧ (a / 2).toNat < xs.length ∧ (∀ z ∈ xs, 0 ≤ z) ∧ Q (.int (ledL xs a)) H
section
variable {P : Program} {w : World} {K : PySem.W.Frag} {mg : Str → Option Value} {base : Heap} {f B C fA : Addr} {fd dA : FuncData}
theorem scBInit : FnScope ["self", "leaves"] ["self", "leaves"] (defScope sBInit) := ⟨rfl, rfl, rfl, by decide +kernel, rfl, by decide +kernel, by decide +kernel⟩
theorem scBGraph : FnScope ["self"] ["self"] (defScope sBGraph) := ⟨rfl, rfl, rfl, by decide +kernel, rfl, by decide +kernel, by decide +kernel⟩
theorem scLitIn : FnScope ["places", "literal"] ["places", "literal"] (defScope sLitIn) := ⟨rfl, rfl, rfl, by decide +kernel, rfl, by decide +kernel, by decide +kernel⟩
abbrev FnBI (K : PySem.W.Frag) (f : Addr) (fd : FuncData) : Prop := FunD K "__init__" "Builder.__init__" (defArgs sBInit) (defBody sBInit) (defScope sBInit) [] [] f fd
abbrev FnBG (K : PySem.W.Frag) (f : Addr) (fd : FuncData) : Prop := FunD K "graph" "Builder.graph" (defArgs sBGraph) (defBody sBGraph) (defScope sBGraph) [] [] f fd
theorem ok_litin (F : FnP K "literal_in" sLitIn f fd) : FnOk P w K mg base CX0 1 f fd ["places", "literal"] (spLitIn K) := by
  refine F.ok scLitIn (fun vs H Q E h => ?_) (fun cdv A outer s H vs Q E hr h => ?_)
  · obtain ⟨l, xs, a, rfl, _⟩ := h
    rfl
  · obtain ⟨l, xs, a, rfl, hl, a0, a1, x0, q⟩ := h
    refine ⟨_, PSs.nox (pss_one (ps_ret (pe_op op_xor (pe_ix ix_list (pv 0) (pe_op op_shr (pv 1) pe_int) (fun _ _ => rfl)) (pe_op op_and (pv 1) pe_int)))), ?_⟩
    have e : a / 2 ^ (1 : Int).toNat = (((a / 2).toNat : Nat) : Int) := by
      show a / 2 = _
      omega
    have g0 : 0 ≤ xs.getD (a / 2).toNat 0 := by
      rw [List.getD_eq_getElem?_getD, List.getElem?_eq_getElem a1]
      exact x0 _ (List.getElem_mem a1)
    refine ⟨_, rfl, _, rfl, _, _, rfl, rfl, (by show (0 : Int) ≤ 1; decide), l, _, _, _, rfl, rfl, hl, at_of e (getD_of a1), _, rfl, _, _, rfl, rfl, _, _, rfl, rfl, ?_⟩
    have z : Builtin.bitXor (xs.getD (a / 2).toNat 0) (Builtin.bitAnd a 1) = ledL xs a := by
      rw [bitAnd_m1]
      unfold ledL
      by_cases c : a % 2 = 1
      · rw [if_pos c, c, xor_one g0]
      · rw [if_neg c, show a % 2 = 0 by omega, xor_nil g0]
    show Q (V.int (Builtin.bitXor (xs.getD (a / 2).toNat 0) (Builtin.bitAnd a 1))) H
    rw [z]
    exact q
theorem ok_bgraph {fI : Addr} {dI : FuncData} (F : FnBG K f fd) (T : Bd.Tx K mg B) (G : Gr.Tx K mg C) (MG : Mk K C fI) (GI : FnOk P w K mg base CX0 4 fI dI ["self", "leaves", "gates"] (spInit K C)) (bI : Binds K dI ["self", "leaves", "gates"] []) : FnOk P w K mg base CX0 6 f fd ["self"] (spBGraph K C B) := by
  refine F.ok scBGraph (fun vs H Q E h => ?_) (fun cdv A outer s H vs Q E hr h => ?_)
  · obtain ⟨p, gl, sd, n, gs, rfl, _⟩ := h
    rfl
  · obtain ⟨p, gl, sd, n, gs, rfl, hB, n0, hz, hok, q⟩ := h
    refine ⟨_, PSs.nox (pss_one (ps_ret (pe_make MG GI (hr.mono (by decide)) (by rfl) G.mgC bI .nil pass0 (pa_cons (pe_fld (pv 0) rfl) (pa_cons (pe_fld (pv 0) rfl) pa_nil))))), ?_⟩
    obtain ⟨dx, ws, kvs, hb, hg, ha, hs, hS⟩ := hB
    refine ⟨_, rfl, p, B, dx, _, _, rfl, hb, T.cl, T.nL, fB_L _ _ _, _, rfl, p, B, dx, _, _, rfl, hb, T.cl, T.nG, fB_G _ _ _, fun x dy nx nd _ => ?_⟩
    have s1 : Same H (upd (upd H dy (.own x)) x (.ins C dy [])) := fun b o e => by
      rw [upd_ne (ne_of_none e nx), upd_ne (ne_of_none e nd)]
      exact e
    exact ⟨x, dy, n, .ref gl, gs, rfl, upd_same, n0, ⟨gl, ws, rfl, .inl (SqL.of (s1 _ _ hg)), ha.imp fun _ _ h => (h.firm (Firm.of s1)).pr⟩, hz, hok, fun H2 k2 g2 => ⟨rfl, q H2 x (Same.made nx nd k2) g2⟩⟩
theorem ok_binit {fN : Addr} {dN : FuncData} (F : FnBI K f fd) (T : Bd.Tx K mg B) (GN : FnOk P w K mg base CX0 2 fN dN ["leaves"] spNeed) (gN : mg "need_leaves" = some (.ref fN)) (kN : PySem.W.keepIn K (.ref fN) = true) (bN : Binds K dN ["leaves"] []) : FnOk P w K mg base CX0 3 f fd ["self", "leaves"] (spBInit K B) := by
  refine F.ok scBInit (fun vs H Q E h => ?_) (fun cdv A outer s H vs Q E hr h => ?_)
  · obtain ⟨p, dx, n, rfl, _⟩ := h
    rfl
  · obtain ⟨p, dx, n, rfl, hp, n0, q⟩ := h
    refine ⟨_, PSs.nox (pss_cons (ps_expr (pe_call GN hr (by rfl) gN kN bN .nil pass0 (pa_cons (pv 1) pa_nil)))
      (pss_cons (ps_fld (pv 0) (pv 1) rfl) (pss_cons (ps_fld (pv 0) (pe_lst pa_nil) rfl) (pss_one (ps_fld (pv 0) pe_dnewT rfl))))), ?_⟩
    refine ⟨_, rfl, n, rfl, n0, ?_⟩
    refine ⟨_, rfl, _, rfl, p, B, dx, _, rfl, hp, T.cl, T.nL, (by show 0 < 1000; decide), ?_⟩
    refine ⟨(by show 0 ≤ sizeLine; decide), fun gl ngl => ?_⟩
    have npg : gl ≠ p := fun e => by
      rw [e, upd_same] at ngl
      cases ngl
    refine ⟨_, rfl, p, B, dx, _, rfl, (by rw [upd_ne npg.symm, upd_same]), T.cl, T.nG, (by show 1 < 1000; decide), ?_⟩
    intro sd nsd
    have nps : sd ≠ p := fun e => by
      rw [e, upd_same] at nsd
      cases nsd
    have ngs : gl ≠ sd := fun e => by
      rw [← e, upd_ne npg, upd_same] at nsd
      cases nsd
    refine ⟨_, rfl, p, B, dx, _, rfl, (by rw [upd_ne nps.symm, upd_same]), T.cl, T.nS, (by show 2 < 1000; decide), ?_⟩
    have hgl : H gl = none := by
      rw [upd_ne npg] at ngl
      exact ngl
    have hsd : H sd = none := by
      rw [upd_ne nps, upd_ne ngs.symm, upd_ne nps] at nsd
      exact nsd
    refine q _ gl sd (fun b o e ne => ?_) ⟨dx, [], [], upd_same, ?_, .nil, ?_, rfl, fun _ => rfl⟩ hgl hsd
    · rw [upd_ne ne, upd_ne (fun z => by rw [z, hsd] at e; cases e), upd_ne ne, upd_ne (fun z => by rw [z, hgl] at e; cases e), upd_ne ne]
      exact e
    · rw [upd_ne npg, upd_ne ngs, upd_ne npg, upd_same]
    · rw [upd_ne nps, upd_same]
end
end Bf
namespace Bg
open PySem PySem.Spec PyProof.Rows L2 Pen Dat Ki Fi Gr No Bd Be Bf
/-! ## A graph put into a builder -/
def putStep (n : Int) (s : List (Int × Int) × List Int) (p : Int × Int) : List (Int × Int) × List Int :=
  ((Bd.andM n s.1 (ledL s.2 p.1) (ledL s.2 p.2)).1, s.2 ++ [(Bd.andM n s.1 (ledL s.2 p.1) (ledL s.2 p.2)).2])
def putM (n : Int) (gs : List (Int × Int)) (ls : List Int) (hs : List (Int × Int)) : List (Int × Int) × List Int := hs.foldl (putStep n) (gs, 0 :: ls)
theorem ledL_nn {xs : List Int} (h : ∀ z ∈ xs, 0 ≤ z) (a : Int) : 0 ≤ ledL xs a := by
  have g0 : 0 ≤ xs.getD (a / 2).toNat 0 := by
    rw [List.getD_eq_getElem?_getD]
    cases e : xs[(a / 2).toNat]? with
    | none => exact Int.le_refl _
    | some u => exact h _ (List.mem_of_getElem? e)
  unfold ledL
  split
  · exact flp_nn g0
  · exact g0
def spPut (K : PySem.W.Frag) (C B : Addr) : Sp := fun vs H Q _ => ∃ (b gl sd x t : Addr) (v : V) (n : Int) (m : Nat) (gs hs : List (Int × Int)) (ls as : List Int), vs = [.ref b, .ref x, v, .ref t] ∧ BAt K B H b gl sd n gs ∧ GraphAt K C H x m hs ∧ SeqI K H v ls ∧ ((SqL K H t (as.map V.int) ∧ ∀ H', But2 gl sd H H' → SqL K H' t (as.map V.int)) ∨ SqT K H t (as.map V.int)) ∧
  0 ≤ n ∧ ls.length = m ∧ m ≤ 500 ∧ gs.length + hs.length ≤ 3900 ∧ (∀ z ∈ ls, 0 ≤ z) ∧ okG (2 * (m : Int) + 1) hs = true ∧ (∀ a ∈ as, 0 ≤ a ∧ (a / 2).toNat < 1 + m + hs.length) ∧ as.length ≤ 1000 ∧
  ∀ H' t', But2 gl sd H H' → Firm H H' → BAt K B H' b gl sd n (putM n gs ls hs).1 → H' t' = some (.tup ((as.map (ledL (putM n gs ls hs).2)).map V.int)) → Q (.ref t') H'
section
variable {P : Program} {w : World} {K : PySem.W.Frag} {mg : Str → Option Value} {base : Heap} {f B C fA : Addr} {fd dA : FuncData}
abbrev puN : List Str := ["builder", "graph", "leaves", "literals", "places", "one", "other", "literal"]
theorem scPut : FnScope puN ["builder", "graph", "leaves", "literals"] (defScope sPut) := ⟨rfl, rfl, rfl, by decide +kernel, rfl, by decide +kernel, by decide +kernel⟩
theorem BAt.fresh {H : Hp} {b gl sd l : Addr} {n : Int} {gs : List (Int × Int)} {o : HO} (h : BAt K B H b gl sd n gs) (nb : b ≠ l) (n1 : gl ≠ l) (n2 : sd ≠ l) (f : Firm H (upd H l o)) : BAt K B (upd H l o) b gl sd n gs := by
  obtain ⟨dx, ws, kvs, h1, h2, h3, h4, h5⟩ := h
  exact ⟨dx, ws, kvs, by rw [upd_ne nb]; exact h1, by rw [upd_ne n1]; exact h2, h3.imp fun _ _ h => h.firm f, by rw [upd_ne n2]; exact h4, h5⟩
theorem ok_put {fL : Addr} {dL : FuncData} (F : FnP K "put_into" sPut f fd) (T : Ty K mg B fA) (G : Gr.Tx K mg C) (GA : FnOk P w K mg base CX0 1 fA dA ["self", "one", "other"] (spAnd K B)) (bA : Binds K dA ["self", "one", "other"] []) (FL : FnP K "literal_in" sLitIn fL dL) (gL : mg "literal_in" = some (.ref fL)) :
    FnOk P w K mg base CX0 2 f fd ["builder", "graph", "leaves", "literals"] (spPut K C B) := by
  have GL : FnOk P w K mg base CX0 1 fL dL ["places", "literal"] (spLitIn K) := ok_litin FL
  have bL : Binds K dL ["places", "literal"] [] := FL.bindsN fun _ _ _ _ _ _ us hl => match us, hl with | [_, _], _ => rfl
  refine F.ok scPut (fun vs H Q E h => ?_) (fun cdv A outer s H vs Q E hr h => ?_)
  · obtain ⟨b, gl, sd, x, t, v, n, m, gs, hs, ls, as, rfl, _⟩ := h
    rfl
  · obtain ⟨b, gl, sd, x, t, v, n, m, gs, hs, ls, as, rfl, hB, hG, hv, ht, n0, lm, m5, hz, l0, hok, has, asl, q⟩ := h
    rcases ht with ht | ht
    · refine ⟨_, PSs.nox (pss_cons (ps_set (i := 4) scPut.nd rfl (Or.inr rfl) (pe_lst (pa_cons pe_int (StX.pa_star (pv 2) pa_nil))))
        (pss_cons (ps_for PassesOwn.never rfl (pi_tup (pe_fld (pv 1) rfl)) (pg_tup rfl (pgs_cons (pg_name (i := 5) scPut.nd rfl (Or.inl rfl)) (pgs_cons (pg_name (i := 6) scPut.nd rfl (Or.inl rfl)) pgs_nil)))
          (pss_one (ps_expr (pe_bm PySem.F.plainAttrs_list PySem.F.slot_list_append PySem.F.type_list_append mt_append (pv 4) (pa_cons (pe_meth (pv 0) T.t.cl T.me GA hr bA .nil pass0 (pa_cons
            (pe_call GL hr (by rfl) gL FL.kp bL .nil pass0 (pa_cons (pv 4) (pa_cons (pv 5) pa_nil))) (pa_cons
            (pe_call GL hr (by rfl) gL FL.kp bL .nil pass0 (pa_cons (pv 4) (pa_cons (pv 6) pa_nil))) pa_nil))) pa_nil)))))
        (pss_one (ps_ret (pe_callTy call_tuple_of (by rfl) T.t.ki.tuple (by decide +kernel) (pa_cons
          (pe_lc (own := [("literal", 7)]) (g := gName 7) (tt := tYes) rfl scPut.nd (pi_list (pv 3)) (blkOk_by (N := puN) (sc := defScope sPut) (by decide +kernel)) (fun _ _ _ _ _ => pg_name (i := 7) scPut.nd rfl (Or.inl rfl)) (fun _ _ _ _ _ => pts_nil)
            (fun _ _ _ _ _ => pe_call GL hr (by rfl) gL FL.kp bL .nil pass0 (pa_cons (pv 4) (pa_cons (pv 7) pa_nil)))) pa_nil)))))), ?_⟩
      obtain ⟨r, rfl, hr2⟩ := hv
      obtain ⟨dg, g, x1, ps, hg, ha⟩ := id hG
      obtain ⟨dx, ws, kvs, hb, hgl, hws, hsd, hS⟩ := id hB
      refine ⟨_, rfl, r, _, rfl, hr2.symm, ?_, fun l nl => ?_⟩
      · show (V.int 0 :: (ls.map V.int ++ [])).length ≤ sizeLine
        rw [List.append_nil, List.length_cons, List.length_map]
        exact Nat.le_trans (Nat.succ_le_succ (by omega : ls.length ≤ 500)) (by decide)
      have sl : Same H (upd H l (.lst (V.int 0 :: (ls.map V.int ++ [])))) := same_new nl
      have nbl : b ≠ l := ne_of_none hb nl
      have ngl : gl ≠ l := ne_of_none hgl nl
      have nsl : sd ≠ l := ne_of_none hsd nl
      have fl0 := Firm.of sl
      refine ⟨_, rfl, x, C, dg, _, _, rfl, sl _ _ x1, G.cl, G.nG, flds_G _ _, g, rfl, ⟨_, seqT_same sl hg⟩, for_tup (K := K) (a := g) (xs := ps)
        (fun i σ H2 => ∃ (u w : Option V), σ = [some (.ref b), some (.ref x), some (.ref r), some (.ref t), some (.ref l), u, w, none] ∧ But2 gl sd H H2 ∧ Firm H H2 ∧ BAt K B H2 b gl sd n (putM n gs ls (hs.take i)).1 ∧
          H2 l = some (.lst ((putM n gs ls (hs.take i)).2.map V.int)) ∧ (putM n gs ls (hs.take i)).2.length = 1 + m + i ∧ (∀ z ∈ (putM n gs ls (hs.take i)).2, 0 ≤ z) ∧ (putM n gs ls (hs.take i)).1.length ≤ gs.length + i)
        ⟨none, none, rfl, fun b o e _ _ => sl _ _ e, fl0, BAt.fresh hB nbl ngl nsl fl0, ?_, ?_, ?_, Nat.le_refl _⟩ (fun i σ H2 _ ⟨_, _, _, _, f2, _⟩ => firm_seq f2 hg) ?_ ?_⟩
      · rw [upd_same, List.append_nil]
        rfl
      · show (0 :: ls).length = _
        rw [List.length_cons, lm]
        omega
      · intro z hz
        rcases List.mem_cons.mp hz with rfl | hz
        · exact Int.le_refl _
        · exact l0 z hz
      · rintro i y σ H2 hi ⟨u, w, rfl, k2, f2, B2, h2, len2, nn2, gl2⟩
        obtain ⟨z, hz1, hz2⟩ := ha.get hi
        obtain ⟨q0, rfl, hq⟩ := hz2
        obtain ⟨⟨a0, a1⟩, b0, b1⟩ := okG_at hok hz1
        have hil : i < hs.length := (List.getElem?_eq_some_iff.mp hz1).1
        obtain ⟨dx2, ws2, kvs2, hb2, _⟩ := id B2
        have st : putM n gs ls (hs.take (i + 1)) = putStep n (putM n gs ls (hs.take i)) z := by
          unfold putM
          rw [take_more hz1, List.foldl_append]
          rfl
        generalize putM n gs ls (hs.take i) = S at B2 h2 len2 nn2 gl2 st
        refine ⟨q0, _, rfl, firm_seq f2 hq, rfl, _, _, rfl, _, _, rfl, rfl, ?_⟩
        refine ⟨_, rfl, .inl ⟨rfl, _, SqL.of h2⟩, _, rfl, b, dx2, _, rfl, hb2, lk _ _ _, _, rfl, _, rfl, l, S.2, z.1, rfl, SqL.of h2, a0, by omega, nn2, _, rfl, _, rfl, l, S.2, z.2, rfl, SqL.of h2, b0, by omega, nn2, ?_⟩
        have e1 := ledL_nn nn2 z.1
        have e2 := ledL_nn nn2 z.2
        have al := andM_len n S.1 (ledL S.2 z.1) (ledL S.2 z.2)
        have an := andM_nn S.1 n0 e1 e2
        refine ⟨b, gl, sd, n, ledL S.2 z.1, ledL S.2 z.2, S.1, rfl, B2, by omega, e1, e2, fun H3 k3 f3 B3 => ?_⟩
        have h3 := k3 _ _ h2 ngl.symm nsl.symm
        have f4 := Firm.upd (o := .lst (S.2.map V.int ++ [V.int (Bd.andM n S.1 (ledL S.2 z.1) (ledL S.2 z.2)).2])) h3 rfl
        refine ⟨l, _, _, rfl, rfl, h3, ?_, ?_⟩
        · rw [List.length_map, len2]
          exact Nat.lt_of_lt_of_le (by omega : 1 + m + i < 5000) (by decide)
        · rw [st]
          refine ⟨_, _, rfl, fun c o e n1 n2 => ?_, f2.trans (f3.trans f4), BAt.fresh B3 nbl ngl nsl f4, ?_, ?_, ?_, ?_⟩
          · rw [upd_ne (ne_of_none e nl)]
            exact k3 _ _ (k2 _ _ e n1 n2) n1 n2
          · rw [upd_same]
            show _ = some (HO.lst ((S.2 ++ [_]).map V.int))
            rw [List.map_append]
            rfl
          · show (S.2 ++ [_]).length = _
            rw [List.length_append, len2]
            rfl
          · intro c hc
            rcases List.mem_append.mp hc with hc | hc
            · exact nn2 c hc
            · rw [List.mem_singleton.mp hc]
              exact an
          · show (Bd.andM n S.1 (ledL S.2 z.1) (ledL S.2 z.2)).1.length ≤ _
            omega
      · rintro σ H2 ⟨u, w, rfl, k2, f2, B2, h2, len2, nn2, gl2⟩
        rw [ha.len, List.take_length] at B2 h2 len2 nn2 gl2
        have ht2 := ht.2 H2 k2
        refine ⟨_, rfl, t, rfl, ⟨_, ht2⟩, fun D nD => ?_⟩
        refine lc_list (K := K) (a := t) (xs := as.map V.int) (fun j H3 => Same H2 H3 ∧ H3 D = some (.lst (((as.take j).map (ledL (putM n gs ls hs).2)).map V.int))) ⟨same_new nD, upd_same⟩ (fun j H3 _ ⟨s3, _⟩ => s3.seq ht2) ?_ ?_
        · rintro j y H3 hj ⟨s3, h3⟩
          rw [List.getElem?_map] at hj
          cases ej : as[j]? with
          | none =>
            rw [ej] at hj
            cases hj
          | some a =>
            rw [ej] at hj
            have hj : V.int a = y := Option.some.inj hj
            subst hj
            obtain ⟨p1, p2⟩ := has a (List.mem_of_getElem? ej)
            refine ⟨rfl, yes_of ?_⟩
            refine ⟨_, rfl, _, rfl, l, _, a, rfl, SqL.of (s3 _ _ h2), p1, by omega, nn2, _, h3, ?_, fun c o e => ?_, ?_⟩
            · rw [List.length_map, List.length_map]
              exact Nat.lt_of_le_of_lt (List.length_take_le' _ _) (Nat.lt_of_le_of_lt asl (by decide))
            · rw [upd_ne (ne_of_none e nD)]
              exact s3 _ _ e
            · rw [upd_same, take_more ej, List.map_append, List.map_append]
              rfl
        · rintro H3 ⟨s3, h3⟩
          rw [List.length_map, List.take_length] at h3
          refine ⟨D, _, rfl, .inl ⟨SqL.of h3, fun t9 nt9 => ?_⟩⟩
          have s9 := same_new (u := .tup ((as.map (ledL (putM n gs ls hs).2)).map V.int)) nt9
          have s39 := s3.trans s9
          obtain ⟨dx2, ws2, kvs2, p1, p2, p3, p4, p5⟩ := B2
          exact q _ t9 (fun c o e n1 n2 => s39 _ _ (k2 _ _ e n1 n2)) (f2.trans (Firm.of s39)) ⟨dx2, ws2, kvs2, s39 _ _ p1, s39 _ _ p2, p3.imp fun _ _ h => h.firm (Firm.of s39), s39 _ _ p4, p5⟩ upd_same
    · refine ⟨_, PSs.nox (pss_cons (ps_set (i := 4) scPut.nd rfl (Or.inr rfl) (pe_lst (pa_cons pe_int (StX.pa_star (pv 2) pa_nil))))
        (pss_cons (ps_for PassesOwn.never rfl (pi_tup (pe_fld (pv 1) rfl)) (pg_tup rfl (pgs_cons (pg_name (i := 5) scPut.nd rfl (Or.inl rfl)) (pgs_cons (pg_name (i := 6) scPut.nd rfl (Or.inl rfl)) pgs_nil)))
          (pss_one (ps_expr (pe_bm PySem.F.plainAttrs_list PySem.F.slot_list_append PySem.F.type_list_append mt_append (pv 4) (pa_cons (pe_meth (pv 0) T.t.cl T.me GA hr bA .nil pass0 (pa_cons
            (pe_call GL hr (by rfl) gL FL.kp bL .nil pass0 (pa_cons (pv 4) (pa_cons (pv 5) pa_nil))) (pa_cons
            (pe_call GL hr (by rfl) gL FL.kp bL .nil pass0 (pa_cons (pv 4) (pa_cons (pv 6) pa_nil))) pa_nil))) pa_nil)))))
        (pss_one (ps_ret (pe_callTy call_tuple_of (by rfl) T.t.ki.tuple (by decide +kernel) (pa_cons
          (pe_lc (own := [("literal", 7)]) (g := gName 7) (tt := tYes) rfl scPut.nd (pi_tup (pv 3)) (blkOk_by (N := puN) (sc := defScope sPut) (by decide +kernel)) (fun _ _ _ _ _ => pg_name (i := 7) scPut.nd rfl (Or.inl rfl)) (fun _ _ _ _ _ => pts_nil)
            (fun _ _ _ _ _ => pe_call GL hr (by rfl) gL FL.kp bL .nil pass0 (pa_cons (pv 4) (pa_cons (pv 7) pa_nil)))) pa_nil)))))), ?_⟩
      obtain ⟨r, rfl, hr2⟩ := hv
      obtain ⟨dg, g, x1, ps, hg, ha⟩ := id hG
      obtain ⟨dx, ws, kvs, hb, hgl, hws, hsd, hS⟩ := id hB
      refine ⟨_, rfl, r, _, rfl, hr2.symm, ?_, fun l nl => ?_⟩
      · show (V.int 0 :: (ls.map V.int ++ [])).length ≤ sizeLine
        rw [List.append_nil, List.length_cons, List.length_map]
        exact Nat.le_trans (Nat.succ_le_succ (by omega : ls.length ≤ 500)) (by decide)
      have sl : Same H (upd H l (.lst (V.int 0 :: (ls.map V.int ++ [])))) := same_new nl
      have nbl : b ≠ l := ne_of_none hb nl
      have ngl : gl ≠ l := ne_of_none hgl nl
      have nsl : sd ≠ l := ne_of_none hsd nl
      have fl0 := Firm.of sl
      refine ⟨_, rfl, x, C, dg, _, _, rfl, sl _ _ x1, G.cl, G.nG, flds_G _ _, g, rfl, ⟨_, seqT_same sl hg⟩, for_tup (K := K) (a := g) (xs := ps)
        (fun i σ H2 => ∃ (u w : Option V), σ = [some (.ref b), some (.ref x), some (.ref r), some (.ref t), some (.ref l), u, w, none] ∧ But2 gl sd H H2 ∧ Firm H H2 ∧ BAt K B H2 b gl sd n (putM n gs ls (hs.take i)).1 ∧
          H2 l = some (.lst ((putM n gs ls (hs.take i)).2.map V.int)) ∧ (putM n gs ls (hs.take i)).2.length = 1 + m + i ∧ (∀ z ∈ (putM n gs ls (hs.take i)).2, 0 ≤ z) ∧ (putM n gs ls (hs.take i)).1.length ≤ gs.length + i)
        ⟨none, none, rfl, fun b o e _ _ => sl _ _ e, fl0, BAt.fresh hB nbl ngl nsl fl0, ?_, ?_, ?_, Nat.le_refl _⟩ (fun i σ H2 _ ⟨_, _, _, _, f2, _⟩ => firm_seq f2 hg) ?_ ?_⟩
      · rw [upd_same, List.append_nil]
        rfl
      · show (0 :: ls).length = _
        rw [List.length_cons, lm]
        omega
      · intro z hz
        rcases List.mem_cons.mp hz with rfl | hz
        · exact Int.le_refl _
        · exact l0 z hz
      · rintro i y σ H2 hi ⟨u, w, rfl, k2, f2, B2, h2, len2, nn2, gl2⟩
        obtain ⟨z, hz1, hz2⟩ := ha.get hi
        obtain ⟨q0, rfl, hq⟩ := hz2
        obtain ⟨⟨a0, a1⟩, b0, b1⟩ := okG_at hok hz1
        have hil : i < hs.length := (List.getElem?_eq_some_iff.mp hz1).1
        obtain ⟨dx2, ws2, kvs2, hb2, _⟩ := id B2
        have st : putM n gs ls (hs.take (i + 1)) = putStep n (putM n gs ls (hs.take i)) z := by
          unfold putM
          rw [take_more hz1, List.foldl_append]
          rfl
        generalize putM n gs ls (hs.take i) = S at B2 h2 len2 nn2 gl2 st
        refine ⟨q0, _, rfl, firm_seq f2 hq, rfl, _, _, rfl, _, _, rfl, rfl, ?_⟩
        refine ⟨_, rfl, .inl ⟨rfl, _, SqL.of h2⟩, _, rfl, b, dx2, _, rfl, hb2, lk _ _ _, _, rfl, _, rfl, l, S.2, z.1, rfl, SqL.of h2, a0, by omega, nn2, _, rfl, _, rfl, l, S.2, z.2, rfl, SqL.of h2, b0, by omega, nn2, ?_⟩
        have e1 := ledL_nn nn2 z.1
        have e2 := ledL_nn nn2 z.2
        have al := andM_len n S.1 (ledL S.2 z.1) (ledL S.2 z.2)
        have an := andM_nn S.1 n0 e1 e2
        refine ⟨b, gl, sd, n, ledL S.2 z.1, ledL S.2 z.2, S.1, rfl, B2, by omega, e1, e2, fun H3 k3 f3 B3 => ?_⟩
        have h3 := k3 _ _ h2 ngl.symm nsl.symm
        have f4 := Firm.upd (o := .lst (S.2.map V.int ++ [V.int (Bd.andM n S.1 (ledL S.2 z.1) (ledL S.2 z.2)).2])) h3 rfl
        refine ⟨l, _, _, rfl, rfl, h3, ?_, ?_⟩
        · rw [List.length_map, len2]
          exact Nat.lt_of_lt_of_le (by omega : 1 + m + i < 5000) (by decide)
        · rw [st]
          refine ⟨_, _, rfl, fun c o e n1 n2 => ?_, f2.trans (f3.trans f4), BAt.fresh B3 nbl ngl nsl f4, ?_, ?_, ?_, ?_⟩
          · rw [upd_ne (ne_of_none e nl)]
            exact k3 _ _ (k2 _ _ e n1 n2) n1 n2
          · rw [upd_same]
            show _ = some (HO.lst ((S.2 ++ [_]).map V.int))
            rw [List.map_append]
            rfl
          · show (S.2 ++ [_]).length = _
            rw [List.length_append, len2]
            rfl
          · intro c hc
            rcases List.mem_append.mp hc with hc | hc
            · exact nn2 c hc
            · rw [List.mem_singleton.mp hc]
              exact an
          · show (Bd.andM n S.1 (ledL S.2 z.1) (ledL S.2 z.2)).1.length ≤ _
            omega
      · rintro σ H2 ⟨u, w, rfl, k2, f2, B2, h2, len2, nn2, gl2⟩
        rw [ha.len, List.take_length] at B2 h2 len2 nn2 gl2
        have ht2 := firm_seq f2 ht
        refine ⟨_, rfl, t, rfl, ⟨_, ht2⟩, fun D nD => ?_⟩
        refine lc_tup (K := K) (a := t) (xs := as.map V.int) (fun j H3 => Same H2 H3 ∧ H3 D = some (.lst (((as.take j).map (ledL (putM n gs ls hs).2)).map V.int))) ⟨same_new nD, upd_same⟩ (fun j H3 _ ⟨s3, _⟩ => seqT_same s3 ht2) ?_ ?_
        · rintro j y H3 hj ⟨s3, h3⟩
          rw [List.getElem?_map] at hj
          cases ej : as[j]? with
          | none =>
            rw [ej] at hj
            cases hj
          | some a =>
            rw [ej] at hj
            have hj : V.int a = y := Option.some.inj hj
            subst hj
            obtain ⟨p1, p2⟩ := has a (List.mem_of_getElem? ej)
            refine ⟨rfl, yes_of ?_⟩
            refine ⟨_, rfl, _, rfl, l, _, a, rfl, SqL.of (s3 _ _ h2), p1, by omega, nn2, _, h3, ?_, fun c o e => ?_, ?_⟩
            · rw [List.length_map, List.length_map]
              exact Nat.lt_of_le_of_lt (List.length_take_le' _ _) (Nat.lt_of_le_of_lt asl (by decide))
            · rw [upd_ne (ne_of_none e nD)]
              exact s3 _ _ e
            · rw [upd_same, take_more ej, List.map_append, List.map_append]
              rfl
        · rintro H3 ⟨s3, h3⟩
          rw [List.length_map, List.take_length] at h3
          refine ⟨D, _, rfl, .inl ⟨SqL.of h3, fun t9 nt9 => ?_⟩⟩
          have s9 := same_new (u := .tup ((as.map (ledL (putM n gs ls hs).2)).map V.int)) nt9
          have s39 := s3.trans s9
          obtain ⟨dx2, ws2, kvs2, p1, p2, p3, p4, p5⟩ := B2
          exact q _ t9 (fun c o e n1 n2 => s39 _ _ (k2 _ _ e n1 n2)) (f2.trans (Firm.of s39)) ⟨dx2, ws2, kvs2, s39 _ _ p1, s39 _ _ p2, p3.imp fun _ _ h => h.firm (Firm.of s39), s39 _ _ p4, p5⟩ upd_same
end
end Bg
namespace Bo
open PySem PySem.Spec PyProof.Rows L2 Pen Dat Ki Fi Gr Bd Be
/-! ## The law's own and -/
def ownF (n : Int) (gs : List (Int × Int)) (lo hi : Int) : List (Int × Int) × Int := if lo = 0 ∨ flp lo = hi then (gs, 0) else if lo = 1 ∨ lo = hi then (gs, hi) else gated n gs (hi, lo)
theorem own_eq {n : Int} {gs : List (Int × Int)} {x y lo hi : Int} (x0 : 0 ≤ x) (y0 : 0 ≤ y) (hm : (lo = x ∧ hi = y ∧ x ≤ y) ∨ (lo = y ∧ hi = x ∧ y ≤ x)) : ownF n gs lo hi = Bd.andM n gs x y := by
  have h1 : (x = 0 ∨ y = 0 ∨ x = flp y) ↔ (lo = 0 ∨ flp lo = hi) := by
    unfold flp
    omega
  unfold ownF Bd.andM
  by_cases c1 : lo = 0 ∨ flp lo = hi
  · rw [if_pos c1, if_pos (h1.mpr c1)]
  · rw [if_neg c1, if_neg fun z => c1 (h1.mp z)]
    have c0 : ¬ (x = 0 ∨ y = 0 ∨ x = flp y) := fun z => c1 (h1.mp z)
    by_cases c2 : lo = 1 ∨ lo = hi
    · rw [if_pos c2]
      by_cases c3 : x = 1
      · rw [if_pos c3]
        have : hi = y := by omega
        rw [this]
      · rw [if_neg c3, if_pos (by omega)]
        have : hi = x := by omega
        rw [this]
    · rw [if_neg c2, if_neg (by omega), if_neg (by omega)]
      have : ordP x y = (hi, lo) := by
        unfold ordP
        by_cases c : x > y
        · rw [if_pos c]
          have a : hi = x := by omega
          have b : lo = y := by omega
          rw [a, b]
        · rw [if_neg c]
          have a : hi = y := by omega
          have b : lo = x := by omega
          rw [a, b]
      rw [this]
theorem eqv_pD (p q : Int × Int) : PyData.eqv (pD p) (pD q) = decide (p = q) := by
  have e : PyData.eqv (pD p) (pD q) = (decide (p.1 = q.1) && decide (p.2 = q.2)) := by
    simp [pD, PyData.eqv, PyData.eqvAll]
    rfl
  rw [e]
  by_cases c : p = q
  · subst c
    simp
  · rw [decide_eq_false c]
    cases h : decide (p.1 = q.1) with
    | false => rfl
    | true =>
      rw [Bool.true_and]
      exact decide_eq_false fun z => c (Prod.ext (of_decide_eq_true h) z)
theorem any_pD (p : Int × Int) (gs : List (Int × Int)) : ((gs.map pD).any fun z => PyData.eqv z (pD p)) = decide (p ∈ gs) := by
  rw [List.any_map]
  have : ((fun z => PyData.eqv z (pD p)) ∘ pD) = fun q => decide (q = p) := by
    funext q
    exact eqv_pD q p
  rw [this]
  by_cases m : p ∈ gs
  · rw [decide_eq_true m]
    exact List.any_eq_true.mpr ⟨p, m, decide_eq_true rfl⟩
  · rw [decide_eq_false m]
    exact List.any_eq_false.mpr fun q hq e => m (of_decide_eq_true e ▸ hq)
theorem shaped_lD (gs : List (Int × Int)) : SeqAt.shaped (.list (gs.map pD)) = true := by
  have h1 := can_pD gs
  have h2 := deep_pD gs
  show (PyData.canLayAll0 (gs.map pD) && decide (PyData.depthAll (gs.map pD) + 1 ≤ 64)) = true
  rw [h1, decide_eq_true (by omega)]
  rfl
def oD (n : Int) (gl : Addr) : List (Key × V) := [(.inr "leaves", .int n), (.inr "gates", .ref gl)]
def OwnB (K : PySem.W.Frag) (H : Hp) (o gl : Addr) (n : Int) (gs : List (Int × Int)) : Prop := ∃ ws, H o = some (.dK (oD n gl)) ∧ H gl = some (.lst ws) ∧ All2 (Pt K H) ws gs
theorem od_leaves {H : Hp} {o gl : Addr} {n : Int} (h : H o = some (.dK (oD n gl))) : DGet H o (.str "leaves") (some (.int n)) := DGet.k (k := .inr "leaves") h
theorem od_gates {H : Hp} {o gl : Addr} {n : Int} (h : H o = some (.dK (oD n gl))) : DGet H o (.str "gates") (some (.ref gl)) := DGet.k (k := .inr "gates") h
structure Tz (mg : Str → Option Value) : Prop where
  min : mg "min" = none
  max : mg "max" = none
  int : mg "int" = none
def spFlip : Sp := fun vs H Q _ => ∃ l : Int, vs = [.int l] ∧ Q (.int (flp l)) H
def spOwnAnd (K : PySem.W.Frag) : Sp := fun vs H Q _ => ∃ (o gl : Addr) (n x y : Int) (gs : List (Int × Int)), vs = [.ref o, .int x, .int y] ∧ OwnB K H o gl n gs ∧ gs.length ≤ 4000 ∧ 0 ≤ x ∧ 0 ≤ y ∧
  ∀ H', (∀ b u, H b = some u → b ≠ gl → H' b = some u) → Firm H H' → OwnB K H' o gl n (Bd.andM n gs x y).1 → Q (.int (Bd.andM n gs x y).2) H'
section
variable {P : Program} {w : World} {K : PySem.W.Frag} {mg : Str → Option Value} {base : Heap} {f : Addr} {fd : FuncData}
theorem scFlip : FnScope ["_law_literal"] ["_law_literal"] (defScope sFlip) := ⟨rfl, rfl, rfl, by decide +kernel, rfl, by decide +kernel, by decide +kernel⟩
theorem ok_flip (F : FnP K "_law_flip" sFlip f fd) (T : Tz mg) : FnOk P w K mg base CX0 1 f fd ["_law_literal"] spFlip := by
  refine F.ok scFlip (fun vs H Q E h => ?_) (fun cdv A outer s H vs Q E hr h => ?_)
  · obtain ⟨l, rfl, _⟩ := h
    rfl
  · obtain ⟨l, rfl, q⟩ := h
    refine ⟨_, PSs.nox (pss_one (ps_ret (pe_op op_sub (pe_op op_add (pv 0) pe_int) (pe_op op_mul pe_int (pe_op op_mod (pe_callTy call_int1 (by rfl) T.int (by decide +kernel) (pa_cons (pv 0) pa_nil)) pe_int))))), ?_⟩
    exact ⟨_, rfl, _, _, rfl, rfl, _, rfl, .inl ⟨_, rfl, _, _, rfl, rfl, (by show (0 : Int) < 2; decide), _, _, rfl, rfl, .inl ⟨by decide, by decide⟩, _, _, rfl, rfl, q⟩⟩
abbrev oaN : List Str := ["_law_own", "_law_one", "_law_other", "_law_low", "_law_high"]
end
end Bo
namespace Bm
open PySem PySem.Spec PyProof.Rows L2 Pen Dat Ki Fi Gr No Lf Cn Bd Be
/-! ## What and_of means -/
theorem ordP_or (a b : Int) : ordP a b = (a, b) ∨ ordP a b = (b, a) := by
  unfold ordP
  split
  · exact .inl rfl
  · exact .inr rfl
theorem step_vals {bs : List Int} {gs : List (Int × Int)} (p : Int × Int) : vals bs (gs ++ [p]) = vals bs gs ++ [lit (vals bs gs) p.1 * lit (vals bs gs) p.2] := by
  unfold vals
  rw [List.foldl_append]
  rfl
theorem vals_pre {bs : List Int} (gs ts : List (Int × Int)) : (vals bs (gs ++ ts)).take (vals bs gs).length = vals bs gs := by
  have e := foldl_pre ts (vals bs gs)
  unfold vals at e ⊢
  rw [List.foldl_append]
  exact e
theorem lit_pre {bs : List Int} (gs ts : List (Int × Int)) {a : Int} (h0 : 0 ≤ a) (h : (a / 2).toNat < 1 + bs.length + gs.length) : lit (vals bs (gs ++ ts)) a = lit (vals bs gs) a := by
  have l := vals_len bs gs
  rw [← vals_pre gs ts, lit_take h0 (by omega)]
theorem lit_new {f : List Int} {w a : Int} (ha : a = 2 * (f.length : Int)) (w0 : 0 ≤ w) : lit (f ++ [w]) a = w := by
  have e1 : (a / 2).toNat = f.length := by omega
  have e2 : a % 2 = 0 := by omega
  unfold lit ab
  rw [e1, e2, List.getD_eq_getElem?_getD, List.getElem?_append_right (Nat.le_refl _), Nat.sub_self]
  show (if w - 0 < 0 then -(w - 0) else w - 0) = w
  rw [if_neg (by omega)]
  omega
/-- the value of a gate that stands -/
theorem gate_val {bs : List Int} {gs : List (Int × Int)} {j : Nat} {p : Int × Int} (h01 : B01 bs) (hok : okG (2 * (bs.length : Int) + 1) gs = true) (h : gs[j]? = some p) :
    lit (vals bs gs) (2 * ((bs.length : Int) + j + 1)) = lit (vals bs gs) p.1 * lit (vals bs gs) p.2 := by
  obtain ⟨hj, ej⟩ := List.getElem?_eq_some_iff.mp h
  obtain ⟨⟨a0, a1⟩, b0, b1⟩ := okG_at hok h
  have sp : gs = (gs.take j ++ [p]) ++ gs.drop (j + 1) := by
    rw [← take_more h, List.take_append_drop]
  have tl : (gs.take j).length = j := by
    rw [List.length_take]
    omega
  have l1 : lit (vals bs gs) p.1 = lit (vals bs (gs.take j)) p.1 := by
    have z := lit_pre (bs := bs) (gs.take j) ([p] ++ gs.drop (j + 1)) a0 (by omega)
    rw [← List.append_assoc, ← sp] at z
    exact z
  have l2 : lit (vals bs gs) p.2 = lit (vals bs (gs.take j)) p.2 := by
    have z := lit_pre (bs := bs) (gs.take j) ([p] ++ gs.drop (j + 1)) b0 (by omega)
    rw [← List.append_assoc, ← sp] at z
    exact z
  have l3 : lit (vals bs gs) (2 * ((bs.length : Int) + j + 1)) = lit (vals bs (gs.take j ++ [p])) (2 * ((bs.length : Int) + j + 1)) := by
    have z := lit_pre (bs := bs) (gs.take j ++ [p]) (gs.drop (j + 1)) (a := 2 * ((bs.length : Int) + j + 1)) (by omega) (by rw [List.length_append, tl]; show _ < 1 + bs.length + (j + 1); omega)
    rw [← sp] at z
    exact z
  rw [l3, l1, l2, step_vals]
  have vl := vals_len bs (gs.take j)
  have v01 := vals_01 (gs.take j) h01
  have x1 := lit_01 v01 p.1
  have x2 := lit_01 v01 p.2
  have w0 : 0 ≤ lit (vals bs (gs.take j)) p.1 * lit (vals bs (gs.take j)) p.2 := by
    rcases x1 with e | e <;> rcases x2 with e2 | e2 <;> rw [e, e2] <;> decide
  exact lit_new (by rw [vl, tl]; omega) w0
/-- the literals of a builder over its leaves -/
theorem fl_val {f : List Int} (h : B01 f) {l : Int} (h0 : 0 ≤ l) : lit f (flp l) = 1 - lit f l := by
  have b := getD_01 h (l / 2).toNat
  have e : flp l / 2 = l / 2 := by
    unfold flp
    omega
  unfold lit ab
  rw [e]
  unfold flp
  split <;> split <;> omega
theorem and_val {bs : List Int} {gs : List (Int × Int)} {a b : Int} (h01 : B01 bs) (hok : okG (2 * (bs.length : Int) + 1) gs = true) (a0 : 0 ≤ a) (a1 : a ≤ 2 * ((bs.length : Int) + gs.length) + 1) (b0 : 0 ≤ b) (b1 : b ≤ 2 * ((bs.length : Int) + gs.length) + 1) :
    okG (2 * (bs.length : Int) + 1) (Bd.andM bs.length gs a b).1 = true ∧ (∃ ts, (Bd.andM bs.length gs a b).1 = gs ++ ts) ∧ 0 ≤ (Bd.andM bs.length gs a b).2 ∧ (Bd.andM bs.length gs a b).2 ≤ 2 * ((bs.length : Int) + (Bd.andM bs.length gs a b).1.length) + 1 ∧
    lit (vals bs (Bd.andM bs.length gs a b).1) (Bd.andM bs.length gs a b).2 = lit (vals bs gs) a * lit (vals bs gs) b := by
  have v01 := vals_01 gs h01
  have z0 : lit (vals bs gs) 0 = 0 := by
    have e : (vals bs gs).getD 0 0 = 0 := by
      have z := vals_head bs gs
      rw [z]
      rfl
    show ab ((vals bs gs).getD 0 0 - 0) = 0
    rw [e]
    rfl
  have z1 : lit (vals bs gs) 1 = 1 := by
    have e := fl_val v01 (l := 0) (by decide)
    rw [z0] at e
    exact e
  have x1 := lit_01 v01 a
  have x2 := lit_01 v01 b
  unfold Bd.andM
  split
  · rename_i c
    refine ⟨hok, ⟨[], (List.append_nil _).symm⟩, Int.le_refl _, by show (0 : Int) ≤ _; omega, ?_⟩
    show lit (vals bs gs) 0 = _
    rw [z0]
    rcases c with rfl | rfl | rfl
    · rw [z0, Int.zero_mul]
    · rw [z0, Int.mul_zero]
    · rw [fl_val v01 b0]
      rcases x2 with e | e <;> rw [e] <;> decide
  split
  · rename_i c
    subst c
    refine ⟨hok, ⟨[], (List.append_nil _).symm⟩, b0, b1, ?_⟩
    rw [z1, Int.one_mul]
  split
  · rename_i c
    refine ⟨hok, ⟨[], (List.append_nil _).symm⟩, a0, a1, ?_⟩
    rcases c with rfl | rfl
    · rw [z1, Int.mul_one]
    · rcases x1 with e | e <;> rw [e] <;> decide
  · have op := ordP_or a b
    generalize ordP a b = p at op
    have pb : (0 ≤ p.1 ∧ p.1 ≤ 2 * ((bs.length : Int) + gs.length) + 1) ∧ 0 ≤ p.2 ∧ p.2 ≤ 2 * ((bs.length : Int) + gs.length) + 1 := by
      rcases op with rfl | rfl
      · exact ⟨⟨a0, a1⟩, b0, b1⟩
      · exact ⟨⟨b0, b1⟩, a0, a1⟩
    have pv : lit (vals bs gs) p.1 * lit (vals bs gs) p.2 = lit (vals bs gs) a * lit (vals bs gs) b := by
      rcases op with rfl | rfl
      · rfl
      · exact Int.mul_comm _ _
    unfold gated
    split
    · rename_i m
      have lt : ix p gs < gs.length := List.findIdx_lt_length_of_exists ⟨p, m, decide_eq_true rfl⟩
      have at_ : gs[ix p gs]? = some p := by
        rw [List.getElem?_eq_getElem lt]
        exact congrArg some (of_decide_eq_true (List.findIdx_getElem (w := lt)))
      refine ⟨hok, ⟨[], (List.append_nil _).symm⟩, by show (0 : Int) ≤ 2 * ((bs.length : Int) + (ix p gs : Int) + 1); omega, by show 2 * ((bs.length : Int) + (ix p gs : Int) + 1) ≤ 2 * ((bs.length : Int) + (gs.length : Int)) + 1; omega, ?_⟩
      exact (gate_val h01 hok at_).trans pv
    · have okn := okG_snoc hok pb.1.1 (by have := pb.1.2; omega) pb.2.1 (by have := pb.2.2; omega)
      refine ⟨okn, ⟨[p], rfl⟩, by show (0 : Int) ≤ 2 * ((bs.length : Int) + (gs.length : Int) + 1); omega, by rw [List.length_append]; show 2 * ((bs.length : Int) + (gs.length : Int) + 1) ≤ 2 * ((bs.length : Int) + ((gs.length + 1 : Nat) : Int)) + 1; omega, ?_⟩
      have at_ : (gs ++ [p])[gs.length]? = some p := by
        rw [List.getElem?_append_right (Nat.le_refl _), Nat.sub_self]
        rfl
      refine (gate_val h01 okn at_).trans ?_
      rw [lit_pre gs [p] pb.1.1 (by have := pb.1.2; omega), lit_pre gs [p] pb.2.1 (by have := pb.2.2; omega)]
      exact pv
def Inb (bs : List Int) (gs : List (Int × Int)) (a : Int) : Prop := 0 ≤ a ∧ a ≤ 2 * ((bs.length : Int) + gs.length) + 1
/-- what is told of more gates and a literal -/
structure Gd (bs : List Int) (gs : List (Int × Int)) (r : List (Int × Int) × Int) (z : Int) : Prop where
  ok : okG (2 * (bs.length : Int) + 1) r.1 = true
  ext : ∃ ts, r.1 = gs ++ ts
  inb : Inb bs r.1 r.2
  val : lit (vals bs r.1) r.2 = z
theorem and_gd {bs : List Int} {gs : List (Int × Int)} {a b : Int} (h01 : B01 bs) (hok : okG (2 * (bs.length : Int) + 1) gs = true) (ha : Inb bs gs a) (hb : Inb bs gs b) : Gd bs gs (Bd.andM bs.length gs a b) (lit (vals bs gs) a * lit (vals bs gs) b) := by
  obtain ⟨x1, x2, x3, x4, x5⟩ := and_val h01 hok ha.1 ha.2 hb.1 hb.2
  exact ⟨x1, x2, ⟨x3, x4⟩, x5⟩
theorem inb_flp {bs : List Int} {gs : List (Int × Int)} {a : Int} (h : Inb bs gs a) : Inb bs gs (flp a) := by
  obtain ⟨a0, a1⟩ := h
  unfold Inb flp
  omega
theorem inb_ext {bs : List Int} {gs gs' : List (Int × Int)} {a : Int} (e : ∃ ts, gs' = gs ++ ts) (h : Inb bs gs a) : Inb bs gs' a ∧ lit (vals bs gs') a = lit (vals bs gs) a := by
  obtain ⟨ts, rfl⟩ := e
  obtain ⟨a0, a1⟩ := h
  refine ⟨⟨a0, ?_⟩, lit_pre gs ts a0 (by omega)⟩
  rw [List.length_append]
  omega
theorem ext_trans {g1 g2 g3 : List (Int × Int)} (a : ∃ ts, g2 = g1 ++ ts) (b : ∃ ts, g3 = g2 ++ ts) : ∃ ts, g3 = g1 ++ ts := by
  obtain ⟨t, rfl⟩ := a
  obtain ⟨u, rfl⟩ := b
  exact ⟨t ++ u, List.append_assoc ..⟩
theorem or_gd {bs : List Int} {gs : List (Int × Int)} {a b : Int} (h01 : B01 bs) (hok : okG (2 * (bs.length : Int) + 1) gs = true) (ha : Inb bs gs a) (hb : Inb bs gs b) : Gd bs gs (orM bs.length gs a b) (1 - (1 - lit (vals bs gs) a) * (1 - lit (vals bs gs) b)) := by
  have v01 := vals_01 gs h01
  obtain ⟨o, e, i, v⟩ := and_gd h01 hok (inb_flp ha) (inb_flp hb)
  rw [fl_val v01 ha.1, fl_val v01 hb.1] at v
  refine ⟨o, e, inb_flp i, ?_⟩
  show lit (vals bs (Bd.andM bs.length gs (flp a) (flp b)).1) (flp (Bd.andM bs.length gs (flp a) (flp b)).2) = _
  rw [fl_val (vals_01 _ h01) i.1, v]
theorem xor_gd {bs : List Int} {gs : List (Int × Int)} {a b : Int} (h01 : B01 bs) (hok : okG (2 * (bs.length : Int) + 1) gs = true) (ha : Inb bs gs a) (hb : Inb bs gs b) :
    Gd bs gs (xorM bs.length gs a b) ((1 - lit (vals bs gs) a * lit (vals bs gs) b) * (1 - (1 - lit (vals bs gs) a) * (1 - lit (vals bs gs) b))) := by
  have v01 := vals_01 gs h01
  obtain ⟨o1, e1, i1, w1⟩ := and_gd h01 hok ha hb
  obtain ⟨ja, la⟩ := inb_ext e1 ha
  obtain ⟨jb, lb⟩ := inb_ext e1 hb
  obtain ⟨o2, e2, i2, w2⟩ := and_gd h01 o1 (inb_flp ja) (inb_flp jb)
  rw [fl_val (vals_01 _ h01) ha.1, fl_val (vals_01 _ h01) hb.1, la, lb] at w2
  obtain ⟨j1, l1⟩ := inb_ext e2 i1
  obtain ⟨o3, e3, i3, w3⟩ := and_gd h01 o2 (inb_flp j1) (inb_flp i2)
  rw [fl_val (vals_01 _ h01) i1.1, fl_val (vals_01 _ h01) i2.1, l1, w1, w2] at w3
  exact ⟨o3, ext_trans e1 (ext_trans e2 e3), i3, w3⟩
theorem choice_gd {bs : List Int} {gs : List (Int × Int)} {c a b : Int} (h01 : B01 bs) (hok : okG (2 * (bs.length : Int) + 1) gs = true) (hc : Inb bs gs c) (ha : Inb bs gs a) (hb : Inb bs gs b) :
    Gd bs gs (choiceM bs.length gs c a b) (if lit (vals bs gs) c = 1 then lit (vals bs gs) a else lit (vals bs gs) b) := by
  have v01 := vals_01 gs h01
  obtain ⟨o1, e1, i1, w1⟩ := and_gd h01 hok hc ha
  obtain ⟨jc, lc⟩ := inb_ext e1 hc
  obtain ⟨jb, lb⟩ := inb_ext e1 hb
  obtain ⟨o2, e2, i2, w2⟩ := and_gd h01 o1 (inb_flp jc) jb
  rw [fl_val (vals_01 _ h01) hc.1, lc, lb] at w2
  obtain ⟨j1, l1⟩ := inb_ext e2 i1
  obtain ⟨o3, e3, i3, w3⟩ := or_gd h01 o2 j1 i2
  rw [l1, w1, w2] at w3
  refine ⟨o3, ext_trans e1 (ext_trans e2 e3), i3, ?_⟩
  refine w3.trans ?_
  have xa := lit_01 v01 a
  have xb := lit_01 v01 b
  rcases lit_01 v01 c with e | e
  · rw [e, if_neg (by decide)]
    rcases xa with u | u <;> rcases xb with v | v <;> rw [u, v] <;> decide
  · rw [e, if_pos rfl]
    rcases xa with u | u <;> rcases xb with v | v <;> rw [u, v] <;> decide
end Bm
namespace Bw
open PySem PySem.Spec PyProof.Rows L2 Pen Dat Ki Fi Gr No Lf Bd Be Bf Bo
/-! ## k16: the law's looks at a builder -/
theorem ifT {b : Bool} {A B : Prop} (e : b = true) (h : A) : if b = true then A else B := by
  rw [if_pos e]
  exact h
theorem ifF {b : Bool} {A B : Prop} (e : b = false) (h : B) : if b = true then A else B := by
  rw [e]
  exact iteF h
def rLen (K : PySem.W.Frag) : List V → Hp → VK → Prop := fun xs H Q => ∃ p ys, xs = [V.ref p] ∧ (SqL K H p ys ∨ SqT K H p ys) ∧ Q (.int ys.length) H
theorem int_at {xs : List Int} {i : Nat} {y : V} (h : (xs.map V.int)[i]? = some y) : ∃ z, y = V.int z ∧ xs[i]? = some z := by
  rw [List.getElem?_map] at h
  cases e : xs[i]? with
  | none =>
    rw [e] at h
    cases h
  | some u =>
    rw [e] at h
    exact ⟨u, (Option.some.inj h).symm, rfl⟩
structure Tw (K : PySem.W.Frag) (mg : Str → Option Value) (C B fA fG : Addr) : Prop where
  gr : Gr.Tx K mg C
  lf : Lf.Tx mg
  ty : Be.Ty K mg B fA
  mG : Meth K B "graph" fG
  tz : Bo.Tz mg
def spGatesOf (K : PySem.W.Frag) (C : Addr) : Sp := fun vs H Q _ => ∃ (x : Addr) (n : Int) (gs : List (Int × Int)), vs = [.ref x] ∧ GraphAt K C H x n gs ∧ gs.length ≤ 1000 ∧
  ∀ (H' : Hp) (l : Addr) (ws : List V), Same H H' → H' l = some (.lst ws) → All2 (Pt K H') ws gs → Q (.ref l) H'
def spLed (K : PySem.W.Frag) : Sp := fun vs H Q _ => ∃ (l : Addr) (xs : List Int) (a : Int), vs = [.ref l, .int a] ∧ SqL K H l (xs.map V.int) ∧ 0 ≤ a ∧ (a / 2).toNat < xs.length ∧ Q (.int (ledL xs a)) H
section
variable {P : Program} {w : World} {K : PySem.W.Frag} {mg : Str → Option Value} {base : Heap} {f B C fA fG : Addr} {fd dA : FuncData}
theorem lkG (n : Int) (gl sd : Addr) : (fB n gl sd).lookup ("graph" : Str) = none := by
  have a : ¬ (("graph" : Str) = "standing") := by decide +kernel
  have b : ¬ (("graph" : Str) = "gates") := by decide +kernel
  have c : ¬ (("graph" : Str) = "leaves") := by decide +kernel
  unfold fB
  rw [lookup_putF, if_neg a, lookup_putF, if_neg b, lookup_putF, if_neg c]
  rfl
abbrev nGatesOf : List Str := ["_law_graph", "_law_gate"]
abbrev nLed : List Str := ["_law_table", "_law_literal", "_law_there"]
end
end Bw
namespace Bx
open PySem PySem.Spec PyProof.Rows L2 Pen Dat Ki Fi Gr No Lf Cn Bd Be Bf Bg Bm Bo Bw
/-! ## k16: puts, looks, and what is built further -/
def spLits : Sp := fun vs H Q _ => ∃ (p c : Addr) (k : Nat) (n m : Int), vs = [.ref p, .int n, .int m] ∧ PenC H p c k ∧ k ≤ 100000000000 ∧ 0 < n ∧ n ≤ 1000 ∧ 0 ≤ m ∧ m ≤ 100 ∧
  ∀ (H' : Hp) (t : Addr) (ls : List Int), PenC H' p c (k + m.toNat) → But p H H' → ls.length = m.toNat → (∀ l ∈ ls, 0 ≤ l ∧ l < 2 * n) → H' t = some (.tup (ls.map V.int)) → Q (.ref t) H'
theorem cut_any {K : PySem.W.Frag} {H : Hp} {q0 : Addr} {xs : List V} {m : Nat} {j : Int} {R : VK} (hj : (m : Int) = j) (hq : SqT K H q0 xs) (hn : m ≤ xs.length) (k : ∀ t H', Same H H' → SqT K H' t (xs.take m) → R (.ref t) H') :
    L2.rSlA K (.ref q0) none (some j) H R := by
  subst hj
  have ix : HT.sIx xs.length xs.length (some (m : Int)) = m := by
    show (if ((m : Int)) < 0 then ((m : Int) + (xs.length : Int)).toNat else min (m : Int).toNat xs.length) = _
    rw [if_neg (by omega)]
    omega
  refine ⟨q0, _, rfl, hq, fun hw => ?_, fun _ p np => ?_⟩
  · have e := hw.2
    rw [ix] at e
    refine k q0 H (fun _ _ e => e) ?_
    rw [e, List.take_length]
    exact hq
  · refine k p _ (same_new np) (SqT.of ?_)
    rw [upd_same]
    unfold cutV
    rw [ix]
    rfl
/-- a literal of a node of n leaves and the gates -/
def InN (n : Nat) (gs : List (Int × Int)) (a : Int) : Prop := 0 ≤ a ∧ a ≤ 2 * ((n : Int) + gs.length) + 1
def zeros (n : Nat) : List Int := List.replicate n 0
theorem zeros_01 (n : Nat) : B01 (zeros n) := fun z hz => .inl (List.eq_of_mem_replicate hz)
theorem zeros_len (n : Nat) : (zeros n).length = n := List.length_replicate ..
structure Gd0 (n : Nat) (gs : List (Int × Int)) (r : List (Int × Int) × Int) : Prop where
  ok : okG (2 * (n : Int) + 1) r.1 = true
  ext : ∃ ts, r.1 = gs ++ ts
  inb : InN n r.1 r.2
theorem and_g0 {n : Nat} {gs : List (Int × Int)} {a b : Int} (hok : okG (2 * (n : Int) + 1) gs = true) (ha : InN n gs a) (hb : InN n gs b) : Gd0 n gs (Bd.andM n gs a b) := by
  have z := zeros_len n
  have g := and_gd (bs := zeros n) (gs := gs) (a := a) (b := b) (zeros_01 n) (by rw [z]; exact hok) (by unfold Inb; rw [z]; exact ha) (by unfold Inb; rw [z]; exact hb)
  obtain ⟨x1, x2, x3, _⟩ := g
  unfold Inb at x3
  rw [z] at x1 x2 x3
  exact ⟨x1, x2, x3⟩
/-- what a put keeps -/
theorem put_ok {n : Nat} : ∀ (hs : List (Int × Int)) {gs : List (Int × Int)} {ls : List Int}, okG (2 * (n : Int) + 1) gs = true → (∀ z ∈ ls, InN n gs z) →
    okG (2 * (n : Int) + 1) (hs.foldl (putStep n) (gs, ls)).1 = true ∧ (∃ ts, (hs.foldl (putStep n) (gs, ls)).1 = gs ++ ts) ∧ (∀ z ∈ (hs.foldl (putStep n) (gs, ls)).2, InN n (hs.foldl (putStep n) (gs, ls)).1 z) ∧ (hs.foldl (putStep n) (gs, ls)).1.length ≤ gs.length + hs.length
  | [], gs, ls, h, hl => ⟨h, ⟨[], (List.append_nil _).symm⟩, hl, Nat.le_refl _⟩
  | p :: r, gs, ls, h, hl => by
    have bd : ∀ a, InN n gs (ledL ls a) := fun a => by
      have g0 : InN n gs (ls.getD (a / 2).toNat 0) := by
        rw [List.getD_eq_getElem?_getD]
        cases e : ls[(a / 2).toNat]? with
        | none => exact ⟨Int.le_refl _, by show (0 : Int) ≤ _; omega⟩
        | some u => exact hl _ (List.mem_of_getElem? e)
      unfold ledL
      split
      · obtain ⟨x, y⟩ := g0
        unfold InN flp
        omega
      · exact g0
    obtain ⟨o, e, i⟩ := and_g0 h (bd p.1) (bd p.2)
    have al := andM_len n gs (ledL ls p.1) (ledL ls p.2)
    obtain ⟨y1, y2, y3, y4⟩ := put_ok r (gs := (Bd.andM n gs (ledL ls p.1) (ledL ls p.2)).1) (ls := ls ++ [(Bd.andM n gs (ledL ls p.1) (ledL ls p.2)).2]) o (fun z hz => by
      rcases List.mem_append.mp hz with q | q
      · obtain ⟨x, y⟩ := hl z q
        obtain ⟨ts, e⟩ := e
        refine ⟨x, ?_⟩
        rw [e, List.length_append]
        omega
      · rw [List.mem_singleton.mp q]
        exact i)
    refine ⟨y1, ext_trans e y2, y3, ?_⟩
    rw [List.length_cons]
    exact Nat.le_trans y4 (by omega)
def spOwnPut (K : PySem.W.Frag) : Sp := fun vs H Q _ => ∃ (o gl g t : Addr) (v : V) (n : Int) (m : Nat) (gs hs : List (Int × Int)) (ls as : List Int), vs = [.ref o, .ref g, v, .ref t] ∧ OwnB K H o gl n gs ∧ GT K H g hs ∧ SeqI K H v ls ∧ SqT K H t (as.map V.int) ∧
  0 ≤ n ∧ ls.length = m ∧ m ≤ 500 ∧ gs.length + hs.length ≤ 3900 ∧ (∀ z ∈ ls, 0 ≤ z) ∧ okG (2 * (m : Int) + 1) hs = true ∧ (∀ a ∈ as, 0 ≤ a ∧ (a / 2).toNat < 1 + m + hs.length) ∧ as.length ≤ 1000 ∧
  ∀ H' t', (∀ b u, H b = some u → b ≠ gl → H' b = some u) → Firm H H' → OwnB K H' o gl n (putM n gs ls hs).1 → H' t' = some (.tup ((as.map (ledL (putM n gs ls hs).2)).map V.int)) → Q (.ref t') H'
theorem PenC.but2 {H H' : Hp} {p c x y : Addr} {m : Nat} (h : PenC H p c m) (k : But2 x y H H') (n1 : p ≠ x) (n2 : p ≠ y) (n3 : c ≠ x) (n4 : c ≠ y) : PenC H' p c m := by
  obtain ⟨ns, a, d, n, f, h1, h2, r⟩ := h
  exact ⟨ns, a, d, n, f, k _ _ h1 n1 n2, k _ _ h2 n3 n4, r⟩
theorem bat_pen {K : PySem.W.Frag} {B : Addr} {H : Hp} {b gl sd p c : Addr} {n : Int} {gs : List (Int × Int)} {m : Nat} (h : BAt K B H b gl sd n gs) (P : PenC H p c m) : b ≠ p ∧ gl ≠ p ∧ sd ≠ p ∧ sd ≠ c ∧ b ≠ gl ∧ b ≠ sd ∧ gl ≠ sd := by
  obtain ⟨dx, ws, kvs, h1, h2, _, h4, _⟩ := h
  obtain ⟨ns, a, d, n, f, p1, p2, _⟩ := P
  refine ⟨?_, ?_, ?_, ?_, ?_, ?_, ?_⟩ <;> intro e <;> subst e
  · rw [h1] at p1; cases p1
  · rw [h2] at p1; cases p1
  · rw [h4] at p1; cases p1
  · rw [h4] at p2; cases p2
  · rw [h1] at h2; cases h2
  · rw [h1] at h4; cases h4
  · rw [h2] at h4; cases h4
theorem BAt.but {K : PySem.W.Frag} {B : Addr} {H H' : Hp} {b gl sd p c : Addr} {n : Int} {gs : List (Int × Int)} {m : Nat} (h : BAt K B H b gl sd n gs) (P : PenC H p c m) (k : But p H H') : BAt K B H' b gl sd n gs := by
  obtain ⟨n1, n2, n3, _⟩ := bat_pen h P
  obtain ⟨dx, ws, kvs, h1, h2, h3, h4, h5⟩ := h
  exact ⟨dx, ws, kvs, k _ _ h1 n1, k _ _ h2 n2, h3.imp fun _ _ h => h.firm (Firm.pen k P), k _ _ h4 n3, h5⟩
theorem BAt.same {K : PySem.W.Frag} {B : Addr} {H H' : Hp} {b gl sd : Addr} {n : Int} {gs : List (Int × Int)} (h : BAt K B H b gl sd n gs) (s : Same H H') : BAt K B H' b gl sd n gs := by
  obtain ⟨dx, ws, kvs, h1, h2, h3, h4, h5⟩ := h
  exact ⟨dx, ws, kvs, s _ _ h1, s _ _ h2, h3.imp fun _ _ h => h.firm (Firm.of s), s _ _ h4, h5⟩
theorem OwnB.same {K : PySem.W.Frag} {H H' : Hp} {o gl : Addr} {n : Int} {gs : List (Int × Int)} (h : OwnB K H o gl n gs) (s : Same H H') : OwnB K H' o gl n gs := by
  obtain ⟨ws, h1, h2, h3⟩ := h
  exact ⟨ws, s _ _ h1, s _ _ h2, h3.imp fun _ _ h => h.firm (Firm.of s)⟩
section
variable {P : Program} {w : World} {K : PySem.W.Frag} {mg : Str → Option Value} {base : Heap} {f B C fA fG : Addr} {fd dA : FuncData}
abbrev nLits : List Str := ["_law_pen_here", "_law_nodes", "_law_many", "_law_k"]
abbrev liN : List Str := nLits
abbrev nOwnPut : List Str := ["_law_own", "_law_gates", "_law_leaves", "_law_literals_here", "_law_table", "_law_one", "_law_other", "_law_literal"]
end
end Bx
namespace Ca
open PySem PySem.Spec PyProof.Rows L2 Pen Dat Ki Fi Gr No Lf Cn Bd Be Bf Bg Bm Bx
/-! ## k17: what puts and cones mean -/
def ownL (n : Nat) : List Int := (List.range n).map fun (k : Nat) => 2 * ((k : Int) + 1)
theorem ownL_len (n : Nat) : (ownL n).length = n := by
  unfold ownL
  rw [List.length_map, List.length_range]
theorem ownL_in {n : Nat} {gs : List (Int × Int)} : ∀ z ∈ ownL n, InN n gs z := fun z hz => by
  obtain ⟨k, hk, rfl⟩ := List.mem_map.mp hz
  have := List.mem_range.mp hk
  unfold InN
  omega
theorem led_val {bs : List Int} {gs : List (Int × Int)} {ls : List Int} (h01 : B01 bs) (hl : ∀ z ∈ ls, Inb bs gs z) {a : Int} (ha : (a / 2).toNat < ls.length) : lit (vals bs gs) (ledL ls a) = lit (ls.map fun l => lit (vals bs gs) l) a := by
  have v01 := vals_01 gs h01
  have e : (ls.map fun l => lit (vals bs gs) l).getD (a / 2).toNat 0 = lit (vals bs gs) (ls.getD (a / 2).toNat 0) := by
    rw [List.getD_eq_getElem?_getD, List.getElem?_map, List.getD_eq_getElem?_getD, List.getElem?_eq_getElem ha]
    rfl
  have m : ls.getD (a / 2).toNat 0 ∈ ls := by
    rw [List.getD_eq_getElem?_getD, List.getElem?_eq_getElem ha]
    exact List.getElem_mem ha
  have x := lit_01 v01 (ls.getD (a / 2).toNat 0)
  have r : lit (ls.map fun l => lit (vals bs gs) l) a = ab (lit (vals bs gs) (ls.getD (a / 2).toNat 0) - a % 2) := by
    show ab ((ls.map fun l => lit (vals bs gs) l).getD (a / 2).toNat 0 - a % 2) = _
    rw [e]
  rw [r]
  unfold ledL
  split
  · rename_i c
    rw [fl_val v01 (hl _ m).1, c]
    unfold ab
    split <;> omega
  · rename_i c
    have c : a % 2 = 0 := by omega
    rw [c]
    unfold ab
    split <;> omega
theorem put_val {bs : List Int} (h01 : B01 bs) : ∀ (hs : List (Int × Int)) {gs : List (Int × Int)} {ls : List Int}, okG (2 * (bs.length : Int) + 1) gs = true → (∀ z ∈ ls, Inb bs gs z) → okG (2 * (ls.length : Int) - 1) hs = true →
    ((hs.foldl (putStep bs.length) (gs, ls)).2.map fun l => lit (vals bs (hs.foldl (putStep bs.length) (gs, ls)).1) l) = hs.foldl No.step (ls.map fun l => lit (vals bs gs) l)
  | [], _, _, _, _, _ => rfl
  | p :: r, gs, ls, h, hl, hk => by
    unfold okG within at hk
    simp only [Bool.and_eq_true, decide_eq_true_eq] at hk
    obtain ⟨⟨⟨a0, a1⟩, b0, b1⟩, hr⟩ := hk
    have la : (p.1 / 2).toNat < ls.length := by omega
    have lb : (p.2 / 2).toNat < ls.length := by omega
    have inb : ∀ a, (a / 2).toNat < ls.length → Inb bs gs (ledL ls a) := fun a ha => by
      have m : ls.getD (a / 2).toNat 0 ∈ ls := by
        rw [List.getD_eq_getElem?_getD, List.getElem?_eq_getElem ha]
        exact List.getElem_mem ha
      unfold ledL
      split
      · exact inb_flp (hl _ m)
      · exact hl _ m
    obtain ⟨o, e, i, v⟩ := and_gd h01 h (inb _ la) (inb _ lb)
    rw [led_val h01 hl la, led_val h01 hl lb] at v
    have st : (p :: r).foldl (putStep bs.length) (gs, ls) = r.foldl (putStep bs.length) ((Bd.andM bs.length gs (ledL ls p.1) (ledL ls p.2)).1, ls ++ [(Bd.andM bs.length gs (ledL ls p.1) (ledL ls p.2)).2]) := rfl
    have sv : (p :: r).foldl No.step (ls.map fun l => lit (vals bs gs) l) = r.foldl No.step (No.step (ls.map fun l => lit (vals bs gs) l) p) := rfl
    rw [st, sv]
    generalize Bd.andM bs.length gs (ledL ls p.1) (ledL ls p.2) = R at o e i v ⊢
    have ih := put_val h01 r (gs := R.1) (ls := ls ++ [R.2]) o (fun z hz => by
      rcases List.mem_append.mp hz with q | q
      · exact (inb_ext e (hl z q)).1
      · rw [List.mem_singleton.mp q]
        exact i) (by
      rw [List.length_append]
      have e2 : 2 * ((ls.length + [R.2].length : Nat) : Int) - 1 = 2 * (ls.length : Int) - 1 + 2 := by
        show 2 * ((ls.length + 1 : Nat) : Int) - 1 = _
        omega
      rw [e2]
      exact hr)
    rw [ih, List.map_append]
    have m1 : (ls.map fun l => lit (vals bs R.1) l) = ls.map fun l => lit (vals bs gs) l := List.map_congr_left fun a ha => (inb_ext e (hl a ha)).2
    rw [m1]
    show r.foldl No.step (_ ++ [lit (vals bs R.1) R.2]) = r.foldl No.step (_ ++ [_])
    rw [v]
/-- a put into a builder without gates, literal by literal -/
theorem put_lit {bs : List Int} {hs : List (Int × Int)} {ls : List Int} (h01 : B01 bs) (hl : ∀ z ∈ ls, Inb bs [] z) (hk : okG (2 * (ls.length : Int) + 1) hs = true) {a : Int} (ha : (a / 2).toNat < 1 + ls.length + hs.length) :
    lit (vals bs (putM bs.length [] ls hs).1) (ledL (putM bs.length [] ls hs).2 a) = lit (vals (ls.map fun l => lit (0 :: bs) l) hs) a := by
  have hl' : ∀ z ∈ 0 :: ls, Inb bs [] z := fun z hz => by
    rcases List.mem_cons.mp hz with rfl | hz
    · exact ⟨Int.le_refl _, by show (0 : Int) ≤ 2 * ((bs.length : Int) + ((0 : Nat) : Int)) + 1; omega⟩
    · exact hl z hz
  have z := zeros_len bs.length
  have P := put_val h01 hs (gs := []) (ls := 0 :: ls) rfl hl' (by
    have e : 2 * ((0 :: ls).length : Int) - 1 = 2 * (ls.length : Int) + 1 := by
      rw [List.length_cons]
      omega
    rw [e]
    exact hk)
  have U := put_ok (n := bs.length) hs (gs := []) (ls := 0 :: ls) rfl hl'
  have e0 : ((0 :: ls).map fun l => lit (vals bs []) l) = 0 :: ls.map fun l => lit (0 :: bs) l := rfl
  rw [e0] at P
  have ll : (hs.foldl (putStep bs.length) ([], 0 :: ls)).2.length = 1 + ls.length + hs.length := by
    have e := congrArg List.length P
    rw [List.length_map, foldl_len, List.length_cons, List.length_map] at e
    omega
  show lit (vals bs (hs.foldl (putStep bs.length) ([], 0 :: ls)).1) (ledL (hs.foldl (putStep bs.length) ([], 0 :: ls)).2 a) = _
  rw [led_val h01 U.2.2.1 (by rw [ll]; exact ha), P]
  rfl
theorem own_vals (bs : List Int) (h01 : B01 bs) : ((ownL bs.length).map fun l => lit (0 :: bs) l) = bs := by
  refine List.ext_getElem (by rw [List.length_map, ownL_len]) fun k h1 h2 => ?_
  have e : (ownL bs.length)[k]? = some (2 * ((k : Int) + 1)) := by
    unfold ownL
    rw [List.getElem?_map, List.getElem?_range h2]
    rfl
  rw [List.getElem_map]
  obtain ⟨h3, e3⟩ := List.getElem?_eq_some_iff.mp e
  rw [e3]
  have e4 : ((2 * ((k : Int) + 1)) / 2).toNat = k + 1 := by omega
  have e5 : (2 * ((k : Int) + 1)) % 2 = 0 := by omega
  show ab ((0 :: bs).getD ((2 * ((k : Int) + 1)) / 2).toNat 0 - (2 * ((k : Int) + 1)) % 2) = _
  rw [e4, e5]
  have e6 : (0 :: bs).getD (k + 1) 0 = bs[k] := by
    rw [List.getD_eq_getElem?_getD, List.getElem?_cons_succ, List.getElem?_eq_getElem h2]
    rfl
  rw [e6]
  rcases h01 _ (List.getElem_mem h2) with z | z <;> rw [z] <;> rfl
/-! ### what is wanted of a graph -/
def wantB (n : Nat) (gs : List (Int × Int)) : Nat → List Int → List Int
  | 0, W => W
  | k + 1, W => wantB n gs k (if (1 + (n : Int) + k) ∈ W then W ++ [(gs.getD k (0, 0)).1 / 2, (gs.getD k (0, 0)).2 / 2] else W)
def want (n : Nat) (gs : List (Int × Int)) (as : List Int) : List Int := wantB n gs gs.length (as.map fun a => a / 2)
theorem wantB_more (n : Nat) (gs : List (Int × Int)) : ∀ (k : Nat) (W : List Int) (j : Int), j ∈ W → j ∈ wantB n gs k W
  | 0, _, _, h => h
  | k + 1, W, j, h => wantB_more n gs k _ j (by
    split
    · exact List.mem_append_left _ h
    · exact h)
/-- what comes in later is of gates ahead -/
theorem wantB_new {n : Nat} {gs : List (Int × Int)} (hok : okG (2 * (n : Int) + 1) gs = true) : ∀ (k : Nat) (W : List Int) (j : Int), k ≤ gs.length → j ∈ wantB n gs k W → 1 + (n : Int) + k ≤ j → j ∈ W
  | 0, _, _, _, h, _ => h
  | k + 1, W, j, hk, h, hj => by
    have z := wantB_new hok k _ j (by omega) h (by omega)
    revert z
    split
    · intro z
      rcases List.mem_append.mp z with q | q
      · exact q
      · have e : gs[k]? = some (gs.getD k (0, 0)) := by
          rw [List.getD_eq_getElem?_getD, List.getElem?_eq_getElem (by omega)]
          rfl
        obtain ⟨⟨a0, a1⟩, b0, b1⟩ := okG_at hok e
        rcases List.mem_cons.mp q with rfl | q
        · exact absurd hj (by omega)
        · rw [List.mem_singleton.mp q] at hj
          exact absurd hj (by omega)
    · exact id
theorem wantB_closed {n : Nat} {gs : List (Int × Int)} (hok : okG (2 * (n : Int) + 1) gs = true) : ∀ (K : Nat) (W : List Int), K ≤ gs.length → ∀ (k : Nat) (p : Int × Int), k < K → gs[k]? = some p → (1 + (n : Int) + k) ∈ wantB n gs K W → p.1 / 2 ∈ wantB n gs K W ∧ p.2 / 2 ∈ wantB n gs K W
  | 0, _, _, _, _, h, _, _ => absurd h (Nat.not_lt_zero _)
  | K + 1, W, hK, k, p, hk, hp, h => by
    by_cases c : k = K
    · subst c
      have z := wantB_new hok k _ _ (by omega) h (Int.le_refl _)
      have e : gs.getD k (0, 0) = p := by
        rw [List.getD_eq_getElem?_getD, hp]
        rfl
      have m : (1 + (n : Int) + k) ∈ W := by
        revert z
        split
        · rename_i c
          exact fun _ => c
        · exact id
      have st : wantB n gs (k + 1) W = wantB n gs k (W ++ [p.1 / 2, p.2 / 2]) := by
        show wantB n gs k (if _ then _ else _) = _
        rw [if_pos m, e]
      rw [st]
      exact ⟨wantB_more _ _ _ _ _ (List.mem_append_right _ List.mem_cons_self), wantB_more _ _ _ _ _ (List.mem_append_right _ (List.mem_cons_of_mem _ List.mem_cons_self))⟩
    · exact wantB_closed hok K _ (by omega) k p (by omega) hp h
theorem wantB_why {n : Nat} {gs : List (Int × Int)} : ∀ (K : Nat) (W : List Int), K ≤ gs.length → ∀ j, j ∈ wantB n gs K W → j ∈ W ∨ ∃ (k : Nat) (p : Int × Int), k < K ∧ gs[k]? = some p ∧ (1 + (n : Int) + k) ∈ wantB n gs K W ∧ (p.1 / 2 = j ∨ p.2 / 2 = j)
  | 0, _, _, _, h => .inl h
  | K + 1, W, hK, j, h => by
    rcases wantB_why K _ (by omega) j h with z | ⟨k, p, k1, k2, k3, k4⟩
    · have e : gs[K]? = some (gs.getD K (0, 0)) := by
        rw [List.getD_eq_getElem?_getD, List.getElem?_eq_getElem (by omega)]
        rfl
      by_cases c : (1 + (n : Int) + K) ∈ W
      · rw [if_pos c] at z
        rcases List.mem_append.mp z with q | q
        · exact .inl q
        · refine .inr ⟨K, _, Nat.lt_succ_self _, e, wantB_more _ _ _ _ _ c, ?_⟩
          rcases List.mem_cons.mp q with q | q
          · exact .inl q.symm
          · exact .inr (List.mem_singleton.mp q).symm
      · rw [if_neg c] at z
        exact .inl z
    · exact .inr ⟨k, p, by omega, k2, k3, k4⟩
/-! ### a cone -/
def coneStep (n : Nat) (W : List Int) (s : List (Int × Int) × List Int) (p : Int × Int) : List (Int × Int) × List Int :=
  if (s.2.length : Int) ∈ W then (s.1 ++ [(ledL s.2 p.1, ledL s.2 p.2)], s.2 ++ [2 * ((n : Int) + s.1.length + 1)]) else (s.1, s.2 ++ [0])
def coneM (n : Nat) (W : List Int) (gs : List (Int × Int)) : List (Int × Int) × List Int := gs.foldl (coneStep n W) ([], 0 :: ownL n)
def ownStep (n : Nat) (W : List Int) (s : List (Int × Int) × List Int) (p : Int × Int) : List (Int × Int) × List Int :=
  (if (s.2.length : Int) ∈ W then s.1 ++ [(ledL (s.2 ++ [2 * (1 + (n : Int) + s.1.length)]) p.1, ledL (s.2 ++ [2 * (1 + (n : Int) + s.1.length)]) p.2)] else s.1, s.2 ++ [2 * (1 + (n : Int) + s.1.length)])
def ownC (n : Nat) (W : List Int) (gs : List (Int × Int)) : List (Int × Int) × List Int := gs.foldl (ownStep n W) ([], 0 :: ownL n)
theorem getD_app {α : Type} {xs ys : List α} {j : Nat} {d : α} (h : j < xs.length) : (xs ++ ys).getD j d = xs.getD j d := by
  rw [List.getD_eq_getElem?_getD, List.getD_eq_getElem?_getD, List.getElem?_append_left h]
theorem getD_end {α : Type} {xs : List α} {y d : α} : (xs ++ [y]).getD xs.length d = y := by
  rw [List.getD_eq_getElem?_getD, List.getElem?_append_right (Nat.le_refl _), Nat.sub_self]
  rfl
theorem led_app {xs ys : List Int} {a : Int} (h : (a / 2).toNat < xs.length) : ledL (xs ++ ys) a = ledL xs a := by
  unfold ledL
  rw [getD_app h]
theorem led_eq {xs ys : List Int} {a : Int} (h : xs.getD (a / 2).toNat 0 = ys.getD (a / 2).toNat 0) : ledL xs a = ledL ys a := by
  unfold ledL
  rw [h]
structure Wok (n : Nat) (gs : List (Int × Int)) (as W : List Int) : Prop where
  ok : okG (2 * (n : Int) + 1) gs = true
  cl : ∀ (k : Nat) (p : Int × Int), gs[k]? = some p → (1 + (n : Int) + k) ∈ W → p.1 / 2 ∈ W ∧ p.2 / 2 ∈ W
  al : ∀ a ∈ as, a / 2 ∈ W
  why : ∀ j, j ∈ W → (∃ a ∈ as, a / 2 = j) ∨ ∃ (k : Nat) (p : Int × Int), gs[k]? = some p ∧ (1 + (n : Int) + k) ∈ W ∧ (p.1 / 2 = j ∨ p.2 / 2 = j)
theorem want_ok {n : Nat} {gs : List (Int × Int)} {as : List Int} (h : okG (2 * (n : Int) + 1) gs = true) : Wok n gs as (want n gs as) := by
  refine ⟨h, fun k p hp hk => wantB_closed h _ _ (Nat.le_refl _) k p (List.getElem?_eq_some_iff.mp hp).1 hp hk, fun a ha => wantB_more _ _ _ _ _ (List.mem_map.mpr ⟨a, ha, rfl⟩), fun j hj => ?_⟩
  rcases wantB_why _ _ (Nat.le_refl _) j hj with z | ⟨k, p, _, k2, k3, k4⟩
  · obtain ⟨a, ha, e⟩ := List.mem_map.mp z
    exact .inl ⟨a, ha, e⟩
  · exact .inr ⟨k, p, k2, k3, k4⟩
theorem cone_len {n : Nat} {W : List Int} : ∀ (gs : List (Int × Int)) (s : List (Int × Int) × List Int), (gs.foldl (coneStep n W) s).2.length = s.2.length + gs.length ∧ (gs.foldl (coneStep n W) s).1.length ≤ s.1.length + gs.length
  | [], s => ⟨rfl, Nat.le_refl _⟩
  | p :: r, s => by
    obtain ⟨a, b⟩ := cone_len r (coneStep n W s p)
    have e1 : (coneStep n W s p).2.length = s.2.length + 1 := by
      unfold coneStep
      split <;> exact List.length_append ..
    have e2 : (coneStep n W s p).1.length ≤ s.1.length + 1 := by
      unfold coneStep
      split
      · rw [List.length_append]
        exact Nat.le_refl _
      · exact Nat.le_succ _
    refine ⟨a.trans ?_, Nat.le_trans b ?_⟩
    · rw [e1, List.length_cons]
      omega
    · rw [List.length_cons]
      omega
theorem base_len (n : Nat) : (0 :: ownL n).length = 1 + n := by
  rw [List.length_cons, ownL_len]
  omega
theorem base_at {n j : Nat} (h : j < 1 + n) : (0 :: ownL n).getD j 0 = 2 * (j : Int) := by
  cases j with
  | zero => rfl
  | succ j =>
    rw [List.getD_eq_getElem?_getD, List.getElem?_cons_succ]
    unfold ownL
    rw [List.getElem?_map, List.getElem?_range (by omega)]
    show 2 * ((j : Int) + 1) = _
    omega
/-- the state of a cone after i gates -/
theorem cone_take {n : Nat} {W : List Int} {gs : List (Int × Int)} {i : Nat} {p : Int × Int} (h : gs[i]? = some p) : coneM n W (gs.take (i + 1)) = coneStep n W (coneM n W (gs.take i)) p := by
  unfold coneM
  rw [take_more h, List.foldl_append]
  rfl
theorem own_take {n : Nat} {W : List Int} {gs : List (Int × Int)} {i : Nat} {p : Int × Int} (h : gs[i]? = some p) : ownC n W (gs.take (i + 1)) = ownStep n W (ownC n W (gs.take i)) p := by
  unfold ownC
  rw [take_more h, List.foldl_append]
  rfl
theorem cone_plen (n : Nat) (W : List Int) (gs : List (Int × Int)) : (coneM n W gs).2.length = 1 + n + gs.length := by
  have z := (cone_len (n := n) (W := W) gs ([], 0 :: ownL n)).1
  rw [base_len] at z
  exact z
theorem cone_klen (n : Nat) (W : List Int) (gs : List (Int × Int)) : (coneM n W gs).1.length ≤ gs.length := by
  have z := (cone_len (n := n) (W := W) gs ([], 0 :: ownL n)).2
  exact Nat.le_trans z (by show 0 + gs.length ≤ gs.length; omega)
theorem own_plen (n : Nat) (W : List Int) : ∀ (gs : List (Int × Int)) (s : List (Int × Int) × List Int), (gs.foldl (ownStep n W) s).2.length = s.2.length + gs.length
  | [], s => rfl
  | p :: r, s => by
    show (r.foldl (ownStep n W) (ownStep n W s p)).2.length = _
    rw [own_plen n W r]
    show (s.2 ++ [_]).length + r.length = _
    rw [List.length_append, List.length_cons]
    show s.2.length + 1 + r.length = s.2.length + (r.length + 1)
    omega
/-- the cone is the law's own -/
theorem cone_own {n : Nat} {gs : List (Int × Int)} {as W : List Int} (h : Wok n gs as W) : ∀ i, i ≤ gs.length → (coneM n W (gs.take i)).1 = (ownC n W (gs.take i)).1 ∧ ∀ j : Nat, j < 1 + n + i → (j < 1 + n ∨ (j : Int) ∈ W) → (coneM n W (gs.take i)).2.getD j 0 = (ownC n W (gs.take i)).2.getD j 0
  | 0, _ => ⟨rfl, fun _ _ _ => rfl⟩
  | i + 1, hi => by
    obtain ⟨a, b⟩ := cone_own h i (by omega)
    have hp : gs[i]? = some gs[i] := List.getElem?_eq_getElem (by omega)
    generalize gs[i] = p at hp
    rw [cone_take hp, own_take hp]
    have l1 := cone_plen n W (gs.take i)
    have l2 := own_plen n W (gs.take i) ([], 0 :: ownL n)
    rw [base_len] at l2
    have tl : (gs.take i).length = i := by
      rw [List.length_take]
      omega
    rw [tl] at l1 l2
    have l2 : (ownC n W (gs.take i)).2.length = 1 + n + i := l2
    generalize coneM n W (gs.take i) = S at a b l1 ⊢
    generalize ownC n W (gs.take i) = O at a b l2 ⊢
    have nl : 2 * ((n : Int) + S.1.length + 1) = 2 * (1 + (n : Int) + O.1.length) := by
      rw [a]
      omega
    unfold coneStep ownStep
    by_cases c : (S.2.length : Int) ∈ W
    · have c' : (O.2.length : Int) ∈ W := by
        rw [l2, ← l1]
        exact c
      have e : (1 + (n : Int) + i) ∈ W := by
        have : ((S.2.length : Nat) : Int) = 1 + (n : Int) + i := by omega
        rw [← this]
        exact c
      obtain ⟨w1, w2⟩ := h.cl i p hp e
      obtain ⟨⟨a0, a1⟩, b0, b1⟩ := okG_at h.ok hp
      rw [if_pos c, if_pos c']
      have g : ∀ q : Int, 0 ≤ q → q ≤ 2 * (n : Int) + 1 + 2 * i → q / 2 ∈ W → ledL S.2 q = ledL (O.2 ++ [2 * (1 + (n : Int) + O.1.length)]) q := fun q q0 q1 qw => by
        rw [led_app (by omega)]
        exact led_eq (b _ (by omega) (.inr (by rw [show (((q / 2).toNat : Nat) : Int) = q / 2 by omega]; exact qw)))
      refine ⟨by rw [a, g _ a0 (by omega) w1, g _ b0 (by omega) w2], fun j hj hw => ?_⟩
      by_cases cj : j < 1 + n + i
      · rw [getD_app (by omega), getD_app (by omega)]
        exact b j cj hw
      · have ej : j = 1 + n + i := by omega
        subst ej
        rw [← l1, getD_end, l1, ← l2, getD_end, nl]
    · have c' : ¬ (O.2.length : Int) ∈ W := by
        rw [l2, ← l1]
        exact c
      rw [if_neg c, if_neg c']
      refine ⟨a, fun j hj hw => ?_⟩
      by_cases cj : j < 1 + n + i
      · rw [getD_app (by omega), getD_app (by omega)]
        exact b j cj hw
      · have ej : j = 1 + n + i := by omega
        subst ej
        rcases hw with hw | hw
        · omega
        · exact absurd hw (by rw [← l1]; exact c)
/-- what a cone keeps, and the values of its nodes -/
structure Cst (n : Nat) (W : List Int) (gs : List (Int × Int)) (i : Nat) (S : List (Int × Int) × List Int) : Prop where
  ok : okG (2 * (n : Int) + 1) S.1 = true
  inb : ∀ j : Nat, j < 1 + n + i → InN n S.1 (S.2.getD j 0)
  val : ∀ bs : List Int, B01 bs → bs.length = n → ∀ j : Nat, j < 1 + n + i → (j < 1 + n ∨ (j : Int) ∈ W) → lit (vals bs S.1) (S.2.getD j 0) = (vals bs (gs.take i)).getD j 0
theorem inN_more {n : Nat} {gs : List (Int × Int)} {a : Int} (q : Int × Int) (h : InN n gs a) : InN n (gs ++ [q]) a := by
  obtain ⟨a0, a1⟩ := h
  refine ⟨a0, ?_⟩
  rw [List.length_append]
  show a ≤ 2 * ((n : Int) + ((gs.length + 1 : Nat) : Int)) + 1
  omega
theorem led_inN {n : Nat} {gs : List (Int × Int)} {ls : List Int} {a : Int} (h : InN n gs (ls.getD (a / 2).toNat 0)) : InN n gs (ledL ls a) := by
  unfold ledL
  split
  · obtain ⟨x, y⟩ := h
    unfold InN flp
    omega
  · exact h
theorem led_lit {bs : List Int} {gs hs : List (Int × Int)} {ls : List Int} {a : Int} (h01 : B01 bs) (h : InN bs.length gs (ls.getD (a / 2).toNat 0)) (e : lit (vals bs gs) (ls.getD (a / 2).toNat 0) = (vals bs hs).getD (a / 2).toNat 0) : lit (vals bs gs) (ledL ls a) = lit (vals bs hs) a := by
  have v01 := vals_01 gs h01
  have x := lit_01 v01 (ls.getD (a / 2).toNat 0)
  show _ = ab ((vals bs hs).getD (a / 2).toNat 0 - a % 2)
  rw [← e]
  unfold ledL
  split
  · rename_i c
    rw [fl_val v01 h.1, c]
    unfold ab
    split <;> omega
  · rename_i c
    have c : a % 2 = 0 := by omega
    rw [c]
    unfold ab
    split <;> omega
theorem cone_st {n : Nat} {gs : List (Int × Int)} {as W : List Int} (h : Wok n gs as W) : ∀ i, i ≤ gs.length → Cst n W gs i (coneM n W (gs.take i))
  | 0, _ => by
    refine ⟨rfl, fun j hj => ?_, fun bs hb hl j hj _ => ?_⟩
    · show InN n [] ((0 :: ownL n).getD j 0)
      rw [base_at (by omega)]
      refine ⟨by omega, ?_⟩
      show _ ≤ 2 * ((n : Int) + ((0 : Nat) : Int)) + 1
      omega
    · show lit (0 :: bs) ((0 :: ownL n).getD j 0) = (0 :: bs).getD j 0
      rw [base_at (by omega)]
      have e4 : ((2 * (j : Int)) / 2).toNat = j := by omega
      have e5 : (2 * (j : Int)) % 2 = 0 := by omega
      unfold lit
      rw [e4, e5]
      have b01 : B01 (0 :: bs) := fun z hz => by
        rcases List.mem_cons.mp hz with rfl | hz
        · exact .inl rfl
        · exact hb z hz
      rcases getD_01 b01 j with z | z <;> rw [z] <;> rfl
  | i + 1, hi => by
    obtain ⟨ok, inb, val⟩ := cone_st h i (by omega)
    have hp : gs[i]? = some gs[i] := List.getElem?_eq_getElem (by omega)
    generalize gs[i] = p at hp
    rw [cone_take hp]
    have l1 := cone_plen n W (gs.take i)
    have tl : (gs.take i).length = i := by
      rw [List.length_take]
      omega
    rw [tl] at l1
    generalize coneM n W (gs.take i) = S at ok inb val l1 ⊢
    obtain ⟨⟨a0, a1⟩, b0, b1⟩ := okG_at h.ok hp
    have ja : (p.1 / 2).toNat < 1 + n + i := by omega
    have jb : (p.2 / 2).toNat < 1 + n + i := by omega
    have ia := led_inN (inb _ ja)
    have ib := led_inN (inb _ jb)
    unfold coneStep
    by_cases c : (S.2.length : Int) ∈ W
    · rw [if_pos c]
      have e : (1 + (n : Int) + i) ∈ W := by
        have : ((S.2.length : Nat) : Int) = 1 + (n : Int) + i := by omega
        rw [← this]
        exact c
      obtain ⟨w1, w2⟩ := h.cl i p hp e
      have okn : okG (2 * (n : Int) + 1) (S.1 ++ [(ledL S.2 p.1, ledL S.2 p.2)]) = true := okG_snoc ok ia.1 (by have := ia.2; show ledL S.2 p.1 ≤ _; omega) ib.1 (by have := ib.2; show ledL S.2 p.2 ≤ _; omega)
      refine ⟨okn, fun j hj => ?_, fun bs hb hl j hj hw => ?_⟩
      · show InN n (S.1 ++ [_]) ((S.2 ++ [_]).getD j 0)
        by_cases cj : j < 1 + n + i
        · rw [getD_app (by omega)]
          exact inN_more _ (inb j cj)
        · have ej : j = S.2.length := by omega
          rw [ej, getD_end]
          refine ⟨by omega, ?_⟩
          rw [List.length_append]
          show _ ≤ 2 * ((n : Int) + ((S.1.length + 1 : Nat) : Int)) + 1
          omega
      · subst hl
        show lit (vals bs (S.1 ++ [_])) ((S.2 ++ [_]).getD j 0) = _
        rw [vals_take bs hp]
        have vl := vals_len bs (gs.take i)
        rw [tl] at vl
        by_cases cj : j < 1 + bs.length + i
        · rw [getD_app (by omega)]
          unfold No.step
          rw [getD_app (by omega), ← val bs hb rfl j cj hw]
          exact (inb_ext ⟨_, rfl⟩ (inb j cj)).2
        · have ej : j = S.2.length := by omega
          rw [ej, getD_end]
          unfold No.step
          have e2 : S.2.length = (vals bs (gs.take i)).length := by omega
          rw [e2, getD_end, step_vals]
          have v01 := vals_01 S.1 hb
          have x1 := lit_01 v01 (ledL S.2 p.1)
          have x2 := lit_01 v01 (ledL S.2 p.2)
          have wn : 0 ≤ lit (vals bs S.1) (ledL S.2 p.1) * lit (vals bs S.1) (ledL S.2 p.2) := by
            rcases x1 with e | e <;> rcases x2 with e2 | e2 <;> rw [e, e2] <;> decide
          rw [lit_new (by rw [vals_len]; omega) wn]
          rw [led_lit hb (inb _ ja) (val bs hb rfl _ ja (.inr (by rw [show (((p.1 / 2).toNat : Nat) : Int) = p.1 / 2 by omega]; exact w1))), led_lit hb (inb _ jb) (val bs hb rfl _ jb (.inr (by rw [show (((p.2 / 2).toNat : Nat) : Int) = p.2 / 2 by omega]; exact w2)))]
    · rw [if_neg c]
      refine ⟨ok, fun j hj => ?_, fun bs hb hl j hj hw => ?_⟩
      · show InN n S.1 ((S.2 ++ [0]).getD j 0)
        by_cases cj : j < 1 + n + i
        · rw [getD_app (by omega)]
          exact inb j cj
        · have ej : j = S.2.length := by omega
          rw [ej, getD_end]
          exact ⟨Int.le_refl _, by omega⟩
      · subst hl
        show lit (vals bs S.1) ((S.2 ++ [0]).getD j 0) = _
        rw [vals_take bs hp]
        have vl := vals_len bs (gs.take i)
        rw [tl] at vl
        by_cases cj : j < 1 + bs.length + i
        · rw [getD_app (by omega)]
          unfold No.step
          rw [getD_app (by omega)]
          exact val bs hb rfl j cj hw
        · have ej : j = S.2.length := by omega
          rcases hw with hw | hw
          · omega
          · exact absurd hw (by rw [ej]; exact c)
theorem cone_lit {n : Nat} {gs : List (Int × Int)} {as W : List Int} (h : Wok n gs as W) {bs : List Int} (hb : B01 bs) (hl : bs.length = n) {a : Int} (ha : a ∈ as) (a0 : 0 ≤ a) (a1 : (a / 2).toNat < 1 + n + gs.length) :
    lit (vals bs (coneM n W gs).1) (ledL (coneM n W gs).2 a) = lit (vals bs gs) a := by
  obtain ⟨ok, inb, val⟩ := cone_st h gs.length (Nat.le_refl _)
  rw [List.take_length] at ok inb val
  subst hl
  exact led_lit hb (inb _ a1) (val bs hb rfl _ a1 (.inr (by rw [show (((a / 2).toNat : Nat) : Int) = a / 2 by omega]; exact h.al a ha)))
/-! ### the cone of a cone -/
theorem led_half (ls : List Int) (a : Int) : ledL ls a / 2 = ls.getD (a / 2).toNat 0 / 2 := by
  unfold ledL
  split
  · unfold flp
    omega
  · rfl
/-- where the gates that are kept stand -/
theorem cone_where {n : Nat} {gs : List (Int × Int)} {as W : List Int} (h : Wok n gs as W) : ∀ i, i ≤ gs.length →
    (∀ k p, k < i → gs[k]? = some p → (1 + (n : Int) + k) ∈ W → ∃ q : Nat, (coneM n W (gs.take i)).1[q]? = some (ledL (coneM n W (gs.take i)).2 p.1, ledL (coneM n W (gs.take i)).2 p.2) ∧ (coneM n W (gs.take i)).2.getD (1 + n + k) 0 = 2 * (1 + (n : Int) + q)) ∧
    ∀ q : Nat, q < (coneM n W (gs.take i)).1.length → ∃ k : Nat, k < i ∧ (1 + (n : Int) + k) ∈ W ∧ (coneM n W (gs.take i)).2.getD (1 + n + k) 0 = 2 * (1 + (n : Int) + q)
  | 0, _ => ⟨fun k p hk => absurd hk (Nat.not_lt_zero _), fun q hq => absurd hq (Nat.not_lt_zero _)⟩
  | i + 1, hi => by
    obtain ⟨A, B⟩ := cone_where h i (by omega)
    have hp : gs[i]? = some gs[i] := List.getElem?_eq_getElem (by omega)
    generalize gs[i] = p at hp
    rw [cone_take hp]
    have l1 := cone_plen n W (gs.take i)
    have tl : (gs.take i).length = i := by
      rw [List.length_take]
      omega
    rw [tl] at l1
    generalize coneM n W (gs.take i) = S at A B l1 ⊢
    have st : ∀ {k : Nat} {r : Int × Int} {ys : List Int}, k ≤ i → gs[k]? = some r → ledL (S.2 ++ ys) r.1 = ledL S.2 r.1 ∧ ledL (S.2 ++ ys) r.2 = ledL S.2 r.2 := fun {k r ys} hk hr => by
      obtain ⟨⟨a0, a1⟩, b0, b1⟩ := okG_at h.ok hr
      exact ⟨led_app (by omega), led_app (by omega)⟩
    unfold coneStep
    by_cases c : (S.2.length : Int) ∈ W
    · rw [if_pos c]
      refine ⟨fun k r hk hr hw => ?_, fun q hq => ?_⟩
      · obtain ⟨e1, e2⟩ := st (ys := [2 * ((n : Int) + S.1.length + 1)]) (by omega : k ≤ i) hr
        dsimp only
        rw [e1, e2]
        by_cases ck : k < i
        · obtain ⟨q, q1, q2⟩ := A k r ck hr hw
          refine ⟨q, ?_, ?_⟩
          · rw [List.getElem?_append_left (List.getElem?_eq_some_iff.mp q1).1]
            exact q1
          · rw [getD_app (by omega)]
            exact q2
        · have ek : k = i := by omega
          subst ek
          rw [hp] at hr
          cases hr
          refine ⟨S.1.length, ?_, ?_⟩
          · rw [List.getElem?_append_right (Nat.le_refl _), Nat.sub_self]
            rfl
          · rw [← l1, getD_end]
            omega
      · have hq : q < (S.1 ++ [(ledL S.2 p.1, ledL S.2 p.2)]).length := hq
        rw [List.length_append] at hq
        dsimp only
        by_cases cq : q < S.1.length
        · obtain ⟨k, k1, k2, k3⟩ := B q cq
          refine ⟨k, by omega, k2, ?_⟩
          rw [getD_app (by omega)]
          exact k3
        · have eq : q = S.1.length := by
            have : [(ledL S.2 p.1, ledL S.2 p.2)].length = 1 := rfl
            omega
          refine ⟨i, by omega, ?_, ?_⟩
          · have : ((S.2.length : Nat) : Int) = 1 + (n : Int) + i := by omega
            rw [← this]
            exact c
          · rw [← l1, getD_end]
            omega
    · rw [if_neg c]
      refine ⟨fun k r hk hr hw => ?_, fun q hq => ?_⟩
      · obtain ⟨e1, e2⟩ := st (ys := [0]) (by omega : k ≤ i) hr
        show ∃ q : Nat, S.1[q]? = some (ledL (S.2 ++ [0]) r.1, ledL (S.2 ++ [0]) r.2) ∧ (S.2 ++ [0]).getD (1 + n + k) 0 = _
        rw [e1, e2]
        by_cases ck : k < i
        · obtain ⟨q, q1, q2⟩ := A k r ck hr hw
          refine ⟨q, q1, ?_⟩
          rw [getD_app (by omega)]
          exact q2
        · have ek : k = i := by omega
          subst ek
          exact absurd hw (by rw [show (1 + (n : Int) + k) = ((S.2.length : Nat) : Int) by omega]; exact c)
      · obtain ⟨k, k1, k2, k3⟩ := B q hq
        refine ⟨k, by omega, k2, ?_⟩
        show (S.2 ++ [0]).getD (1 + n + k) 0 = _
        rw [getD_app (by omega)]
        exact k3
/-- all gates of a cone are needed -/
theorem cone_all {n : Nat} {gs : List (Int × Int)} {as : List Int} (hok : okG (2 * (n : Int) + 1) gs = true) {W' : List Int} (h : Wok n gs as W')
    {W2 : List Int} (h2 : Wok n (coneM n W' gs).1 (as.map (ledL (coneM n W' gs).2)) W2) : ∀ q : Nat, q < (coneM n W' gs).1.length → (1 + (n : Int) + q) ∈ W2 := by
  obtain ⟨A, B⟩ := cone_where h gs.length (Nat.le_refl _)
  rw [List.take_length] at A B
  generalize coneM n W' gs = S at A B h2
  have up : ∀ (d k : Nat), gs.length ≤ k + d → k < gs.length → (1 + (n : Int) + k) ∈ W' → S.2.getD (1 + n + k) 0 / 2 ∈ W2 := by
    intro d
    induction d with
    | zero => exact fun k hd hk _ => absurd hk (by omega)
    | succ d ih =>
      intro k hd hk hw
      rcases h.why _ hw with ⟨a, ha, e⟩ | ⟨k2, p, hp, hw2, e⟩
      · have z := h2.al _ (List.mem_map.mpr ⟨a, ha, rfl⟩)
        rw [led_half, show (a / 2).toNat = 1 + n + k by omega] at z
        exact z
      · obtain ⟨⟨a0, a1⟩, b0, b1⟩ := okG_at h.ok hp
        have lt : k < k2 := by
          rcases e with e | e <;> omega
        have k2l : k2 < gs.length := (List.getElem?_eq_some_iff.mp hp).1
        have i2 := ih k2 (by omega) k2l hw2
        obtain ⟨q, q1, q2⟩ := A k2 p k2l hp hw2
        rw [q2] at i2
        obtain ⟨c1, c2⟩ := h2.cl q _ q1 (by rw [show (1 + (n : Int) + q) = 2 * (1 + (n : Int) + q) / 2 by omega]; exact i2)
        rcases e with e | e
        · rw [led_half, show (p.1 / 2).toNat = 1 + n + k by omega] at c1
          exact c1
        · rw [led_half, show (p.2 / 2).toNat = 1 + n + k by omega] at c2
          exact c2
  intro q hq
  obtain ⟨k, k1, k2, k3⟩ := B q hq
  have z := up gs.length k (by omega) k1 k2
  rw [k3] at z
  rw [show (1 + (n : Int) + q) = 2 * (1 + (n : Int) + q) / 2 by omega]
  exact z
def idL (m : Nat) : List Int := (List.range m).map fun (j : Nat) => 2 * (j : Int)
theorem idL_at {m j : Nat} (h : j < m) : (idL m).getD j 0 = 2 * (j : Int) := by
  unfold idL
  rw [List.getD_eq_getElem?_getD, List.getElem?_map, List.getElem?_range h]
  rfl
theorem idL_led {m : Nat} {a : Int} (a0 : 0 ≤ a) (h : (a / 2).toNat < m) : ledL (idL m) a = a := by
  unfold ledL
  rw [idL_at h]
  split
  · unfold flp
    omega
  · omega
theorem idL_snoc (m : Nat) : idL m ++ [2 * (m : Int)] = idL (m + 1) := by
  unfold idL
  rw [List.range_succ, List.map_append]
  rfl
theorem idL_base (n : Nat) : 0 :: ownL n = idL (1 + n) := by
  unfold idL ownL
  rw [Nat.add_comm, List.range_succ_eq_map, List.map_cons, List.map_map]
  rfl
theorem cone_id {n : Nat} {gs : List (Int × Int)} {W : List Int} (hok : okG (2 * (n : Int) + 1) gs = true) (hw : ∀ q : Nat, q < gs.length → (1 + (n : Int) + q) ∈ W) : ∀ i, i ≤ gs.length → coneM n W (gs.take i) = (gs.take i, idL (1 + n + i))
  | 0, _ => by
    show ([], 0 :: ownL n) = _
    rw [idL_base]
    rfl
  | i + 1, hi => by
    have ih := cone_id hok hw i (by omega)
    have hp : gs[i]? = some gs[i] := List.getElem?_eq_getElem (by omega)
    generalize gs[i] = p at hp
    rw [cone_take hp, ih]
    obtain ⟨⟨a0, a1⟩, b0, b1⟩ := okG_at hok hp
    have ll : (idL (1 + n + i)).length = 1 + n + i := by
      unfold idL
      rw [List.length_map, List.length_range]
    unfold coneStep
    rw [if_pos (by show ((idL (1 + n + i)).length : Int) ∈ W; rw [ll, show (((1 + n + i : Nat)) : Int) = 1 + (n : Int) + i by omega]; exact hw i (by omega))]
    refine Prod.ext ?_ ?_
    · show gs.take i ++ [(ledL (idL (1 + n + i)) p.1, ledL (idL (1 + n + i)) p.2)] = _
      rw [idL_led a0 (by omega), idL_led b0 (by omega), take_more hp]
    · show idL (1 + n + i) ++ [2 * ((n : Int) + ((gs.take i).length : Int) + 1)] = _
      have e : 2 * ((n : Int) + ((gs.take i).length : Int) + 1) = 2 * ((1 + n + i : Nat) : Int) := by
        rw [List.length_take]
        omega
      rw [e, idL_snoc]
      rfl
theorem cone_again {n : Nat} {gs : List (Int × Int)} {as : List Int} (hok : okG (2 * (n : Int) + 1) gs = true) (ha : ∀ a ∈ as, 0 ≤ a ∧ (a / 2).toNat < 1 + n + gs.length) {S : List (Int × Int) × List Int} (hS : coneM n (want n gs as) gs = S) :
    coneM n (want n S.1 (as.map (ledL S.2))) S.1 = (S.1, idL (1 + n + S.1.length)) ∧ (as.map (ledL S.2)).map (ledL (idL (1 + n + S.1.length))) = as.map (ledL S.2) := by
  subst hS
  have h := want_ok (as := as) hok
  obtain ⟨ok, inb, _⟩ := cone_st h gs.length (Nat.le_refl _)
  rw [List.take_length] at ok inb
  have h2 := want_ok (as := as.map (ledL (coneM n (want n gs as) gs).2)) ok
  have z := cone_id ok (cone_all hok h h2) _ (Nat.le_refl _)
  rw [List.take_length] at z
  refine ⟨z, ?_⟩
  rw [List.map_map]
  refine List.map_congr_left fun a m => ?_
  obtain ⟨a0, a1⟩ := ha a m
  obtain ⟨l0, l1⟩ := led_inN (a := a) (inb _ a1)
  exact idL_led l0 (by omega)
end Ca
namespace Cp
open PySem PySem.Spec PyProof.Rows L2 Pen Dat Ki Fi Gr No Cm
/-! ## Clauses, by the program -/
structure Tx (mg : Str → Option Value) : Prop where
  abs : mg "abs" = none
  tuple : mg "tuple" = none
  list : mg "list" = none
  sorted : mg "sorted" = none
def spSat (K : PySem.W.Frag) : Sp := fun vs H Q _ => ∃ (v : V) (c : Addr) (as cl : List Int), vs = [v, .ref c] ∧ SeqI K H v as ∧ SqT K H c (cl.map V.int) ∧ (∀ z ∈ cl, z ≠ 0 ∧ z.natAbs ≤ as.length) ∧ Q (.bl (satB as cl)) H
def spCl (K : PySem.W.Frag) : Sp := fun vs H Q _ => ∃ (v : V) (ls : List Int), vs = [v] ∧ SeqI K H v ls ∧ (∀ l ∈ ls, 0 ≤ l) ∧ ls.length ≤ 500 ∧ (bad ls = true → ∀ H', Same H H' → Q .non H') ∧
  (bad ls = false → ∀ (H' : Hp) (t : Addr) (cl : List Int), Same H H' → IsCl ls cl → H' t = some (.tup (cl.map V.int)) → Q (.ref t) H')
theorem xor_one {l : Int} (h : 0 ≤ l) : Builtin.bitXor l 1 = fl l := by
  obtain ⟨n, rfl⟩ := Int.eq_ofNat_of_zero_le h
  rw [Bits.bitXor_pp h (by decide)]
  have z := Bits.nat_xor_add_and n 1
  rw [Nat.and_one_is_mod] at z
  unfold fl
  have e : ((n : Int)).toNat = n := Int.toNat_natCast n
  have e1 : (1 : Int).toNat = 1 := rfl
  rw [e, e1]
  omega
theorem sat_more {as cl : List Int} {i : Nat} {z : Int} (h : cl[i]? = some z) (e : as.getD (z.natAbs - 1) 0 = if z > 0 then 1 else 0) : satB as cl = true := List.any_eq_true.mpr ⟨z, List.mem_of_getElem? h, decide_eq_true e⟩
theorem bad_snoc {ls : List Int} {l : Int} (h0 : ∀ a ∈ ls, 0 ≤ a) (l0 : 0 ≤ l) (nb : bad ls = false) (n1 : l ≠ 1) (n2 : ¬ fl l ∈ ls) : bad (ls ++ [l]) = false := by
  obtain ⟨b1, b2⟩ := not_bad nb
  cases e : bad (ls ++ [l]) with
  | false => rfl
  | true =>
    exfalso
    rcases is_bad e with m | ⟨a, m, m2⟩
    · rcases List.mem_append.mp m with m | m
      · exact b1 m
      · exact n1 (List.mem_singleton.mp m).symm
    · rcases List.mem_append.mp m with m | m
      · rcases List.mem_append.mp m2 with m2 | m2
        · exact b2 a m m2
        · have z := List.mem_singleton.mp m2
          have a0 := h0 a m
          have : fl l = a := by
            rw [← z]
            unfold fl
            omega
          exact n2 (this ▸ m)
      · have z := List.mem_singleton.mp m
        subst z
        rcases List.mem_append.mp m2 with m2 | m2
        · exact n2 m2
        · have z := List.mem_singleton.mp m2
          unfold fl at z
          omega
/-- an int as a test -/
theorem pt_int {X : Cx} {e : Expr} {ta : TE} (ha : PE X e ta) (he : ∀ whole, isTrue e X.env whole = (do let v ← whole; standAt e.pos; holding [v] (truthy v))) : PT X e (fun σ H Q => ta σ H fun x H' => ∃ i : Int, x = .int i ∧ Q (i != 0) H') := by
  refine ⟨fun pins s σ H Q I h => isTrue_plain (thn (ha.run pins s σ H _ I h) fun v s1 z => ?_) (he _)⟩
  obtain ⟨x, H1, I1, r1, i, rfl, q⟩ := z
  exact tru_ok pins s1 σ H1 (.int i) v Q I1 r1 ⟨_, rfl, q⟩
theorem keys_put_old {kvs : List (Key × V)} {k : Key} {v : V} (h : k ∈ kvs.map (·.1)) : (putK kvs k v).map (·.1) = kvs.map (·.1) := by
  have e : (valV kvs k).isSome = true := by
    cases z : valV kvs k with
    | some u => rfl
    | none => exact absurd h (valV_not z)
  rw [← valV_any] at e
  unfold putK
  rw [if_pos e, List.map_map]
  refine List.map_congr_left fun p _ => ?_
  show (if p.1 = k then (p.1, v) else p).1 = p.1
  split <;> rfl
section
variable {P : Program} {w : World} {K : PySem.W.Frag} {mg : Str → Option Value} {base : Heap} {f C : Addr} {fd : FuncData}
abbrev clN : List Str := ["literals", "standing", "literal"]
end
end Cp
namespace Lc
open PySem PySem.Spec PyProof.Rows L2 Pen Dat Ki Fi Gr No Lf Cm Cp Rp
/-! ## The law's own clauses -/
structure Tx (mg : Str → Option Value) : Prop where
  lf : Lf.Tx mg
  cp : Cp.Tx mg
  dict : mg "dict" = none
  enumerate : mg "enumerate" = none
def spFlip : Sp := fun vs H Q _ => ∃ l : Int, vs = [.int l] ∧ Q (.int (fl l)) H
def spOwn (K : PySem.W.Frag) : Sp := fun vs H Q _ => ∃ (r : Addr) (ls : List Int), vs = [.ref r] ∧ SqL K H r (ls.map V.int) ∧ (∀ l ∈ ls, 0 ≤ l) ∧ ls.length ≤ 500 ∧ (bad ls = true → ∀ H', Same H H' → Q .non H') ∧
  (bad ls = false → ∀ (H' : Hp) (t : Addr) (cl : List Int), Same H H' → IsCl ls cl → H' t = some (.tup (cl.map V.int)) → Q (.ref t) H')
def spKeeps (K : PySem.W.Frag) : Sp := fun vs H Q _ => ∃ (v : V) (c : Addr) (as cl : List Int), vs = [v, .ref c] ∧ SeqI K H v as ∧ SqT K H c (cl.map V.int) ∧ (∀ z ∈ cl, z ≠ 0 ∧ z.natAbs ≤ as.length) ∧ cl.length ≤ 1000 ∧ ∀ H', Same H H' → Q (.bl (satB as cl)) H'
theorem int_at {xs : List Int} {i : Nat} {y : V} (h : (xs.map V.int)[i]? = some y) : ∃ z, y = V.int z ∧ xs[i]? = some z := by
  rw [List.getElem?_map] at h
  cases e : xs[i]? with
  | none =>
    rw [e] at h
    cases h
  | some u =>
    rw [e] at h
    exact ⟨u, (Option.some.inj h).symm, rfl⟩
theorem inV_int (z : Int) (xs : List Int) : inV (.int z) (xs.map V.int) = decide (z ∈ xs) := by
  unfold inV
  rw [List.any_map]
  cases e : decide (z ∈ xs) with
  | true =>
    rw [List.any_eq_true]
    exact ⟨z, of_decide_eq_true e, by show eqV (.int z) (.int z) = true; simp [eqV]⟩
  | false =>
    rw [List.any_eq_false]
    intro u m q
    have : u = z := by
      have q' : eqV (.int u) (.int z) = true := q
      simpa [eqV] using q'
    exact of_decide_eq_false e (this ▸ m)
theorem flat_ints (xs : List Int) : (xs.map V.int).all flatV = true := by
  rw [List.all_map, List.all_eq_true]
  intro z _
  rfl
/-- a list of so many ones, beside the empty one -/
theorem ones_ne (n : Nat) : (!PyData.eqv (.list ((List.replicate n (1 : Int)).map .int)) (.list [])) = decide (0 < n) := by
  cases n with
  | zero => rfl
  | succ n =>
    rw [decide_eq_true (Nat.succ_pos n)]
    rfl
theorem ones_shaped (n : Nat) : SeqAt.shaped (.list ((List.replicate n (1 : Int)).map .int)) = true := (shaped_ints fun z hz => by
  rw [(List.mem_replicate.mp hz).2]
  exact ⟨by decide, by decide⟩).1
/-- how many of the first i items fit -/
def cnt {α : Type} (p : α → Bool) (xs : List α) : Nat := (xs.filter p).length
theorem cnt_more {α : Type} (p : α → Bool) {xs : List α} {i : Nat} {x : α} (h : xs[i]? = some x) : cnt p (xs.take (i + 1)) = cnt p (xs.take i) + if p x = true then 1 else 0 := by
  unfold cnt
  rw [take_more h, List.filter_append, List.length_append]
  by_cases e : p x = true
  · rw [List.filter_cons_of_pos e, if_pos e]
    rfl
  · rw [List.filter_cons_of_neg e, if_neg e]
    rfl
theorem cnt_pos {α : Type} (p : α → Bool) (xs : List α) : decide (0 < cnt p xs) = xs.any p := by
  unfold cnt
  cases e : xs.any p with
  | true =>
    obtain ⟨x, m, h⟩ := List.any_eq_true.mp e
    exact decide_eq_true (List.length_pos_of_mem (List.mem_filter.mpr ⟨m, h⟩))
  | false =>
    refine decide_eq_false fun h => ?_
    obtain ⟨x, hx⟩ := List.exists_mem_of_length_pos h
    obtain ⟨m, q⟩ := List.mem_filter.mp hx
    exact absurd (List.any_eq_true.mpr ⟨x, m, q⟩) (by rw [e]; decide)
theorem cnt_le {α : Type} (p : α → Bool) (xs : List α) : cnt p xs ≤ xs.length := List.length_filter_le _ _
theorem merge_keys : ∀ (ls : List Int) (acc : List (Key × V)) (ks : List Int), acc.map (·.1) = ks.map Sum.inl → ks.Nodup →
    ∃ ks' : List Int, (mergeK acc (ls.map fun l => ((Sum.inl l : Key), V.int 1))).map (·.1) = ks'.map Sum.inl ∧ ks'.Nodup ∧ (∀ l, l ∈ ks' ↔ l ∈ ks ∨ l ∈ ls) ∧ ks'.length ≤ ks.length + ls.length
  | [], acc, ks, e, nd => ⟨ks, e, nd, fun l => by simp, Nat.le_refl _⟩
  | l :: r, acc, ks, e, nd => by
    have inK : (Sum.inl l : Key) ∈ acc.map (·.1) ↔ l ∈ ks := by
      rw [e, List.mem_map]
      exact ⟨fun ⟨b, m, q⟩ => Sum.inl.inj q ▸ m, fun m => ⟨l, m, rfl⟩⟩
    by_cases hk : l ∈ ks
    · obtain ⟨ks', a, b, c, d⟩ := merge_keys r (putK acc (Sum.inl l) (.int 1)) ks (by rw [keys_put_old (inK.mpr hk), e]) nd
      refine ⟨ks', a, b, fun z => ?_, by rw [List.length_cons]; omega⟩
      rw [c, List.mem_cons]
      exact ⟨fun h => h.elim .inl fun h => .inr (.inr h), fun h => h.elim .inl fun h => h.elim (fun h => .inl (h ▸ hk)) .inr⟩
    · have hkk : valV acc (Sum.inl l : Key) = none := by
        cases ev : valV acc (Sum.inl l : Key) with
        | none => rfl
        | some u => exact absurd (inK.mp (valV_in ev)) hk
      obtain ⟨ks', a, b, c, d⟩ := merge_keys r (putK acc (Sum.inl l) (.int 1)) (ks ++ [l]) (by rw [putK_new _ hkk, List.map_append, e, List.map_append]; rfl)
        (by rw [List.nodup_append]; exact ⟨nd, (by rw [List.nodup_cons]; exact ⟨List.not_mem_nil, List.nodup_nil⟩), fun x mx y my q => hk (by rw [List.mem_singleton.mp my] at q; exact q ▸ mx)⟩)
      refine ⟨ks', a, b, fun z => ?_, by rw [List.length_append] at d; rw [List.length_cons]; simp at d; omega⟩
      rw [c, List.mem_append, List.mem_singleton, List.mem_cons]
      exact ⟨fun h => h.elim (fun h => h.elim .inl fun h => .inr (.inl h)) fun h => .inr (.inr h), fun h => h.elim (fun h => .inl (.inl h)) fun h => h.elim (fun h => .inl (.inr h)) .inr⟩
/-- a list of pairs (l, 1) -/
def One1 (H : Hp) (v : V) (l : Int) : Prop := ∃ t, v = .ref t ∧ H t = some (.tup [.int l, .int 1])
theorem ones_pairs {K : PySem.W.Frag} {H : Hp} : ∀ {ys : List V} {ls : List Int}, All2 (One1 H) ys ls → ∃ ps : List Addr, ys = ps.map V.ref ∧ Paired (fun p (kv : Key × V) => SqT K H p [kV kv.1, kv.2]) ps (ls.map fun l => ((Sum.inl l : Key), V.int 1))
  | _, _, .nil => ⟨[], rfl, .nil⟩
  | _, _, .cons h t => by
    obtain ⟨q, rfl, hq⟩ := h
    obtain ⟨ps, rfl, hp⟩ := ones_pairs (K := K) t
    exact ⟨q :: ps, rfl, .cons (SqT.of hq) hp⟩
section
variable {P : Program} {w : World} {K : PySem.W.Frag} {mg : Str → Option Value} {base : Heap} {f C : Addr} {fd : FuncData}
abbrev owN : List Str := ["_law_literals", "_law_nodes", "_law_literal", "_law_one", "_law_node"]
abbrev keN : List Str := ["_law_bits", "_law_clause", "_law_one"]
theorem scFlip : FnScope ["_law_literal"] ["_law_literal"] (defScope sFlip) := ⟨rfl, rfl, rfl, by decide +kernel, rfl, by decide +kernel, by decide +kernel⟩
theorem ok_flip (F : FnP K "_law_flip" sFlip f fd) (T : Tx mg) : FnOk P w K mg base CX0 1 f fd ["_law_literal"] spFlip := by
  refine F.ok scFlip (fun vs H Q E h => ?_) (fun cdv A outer s H vs Q E hr h => ?_)
  · obtain ⟨l, rfl, _⟩ := h
    rfl
  · obtain ⟨l, rfl, q⟩ := h
    refine ⟨_, PSs.nox (pss_one (ps_ret (pe_op op_sub (pe_op op_add (pv 0) pe_int) (pe_op op_mul pe_int (pe_op op_mod (pe_callTy call_int1 (by rfl) T.lf.pen.int (by decide +kernel) (pa_cons (pv 0) pa_nil)) pe_int))))), ?_⟩
    exact ⟨_, rfl, _, _, rfl, rfl, _, rfl, .inl ⟨_, rfl, _, _, rfl, rfl, (by show (0 : Int) < 2; decide), _, _, rfl, rfl, .inl ⟨by decide, by decide⟩, _, _, rfl, rfl, q⟩⟩
theorem half_nd {ls ks : List Int} (h0 : ∀ l ∈ ls, 0 ≤ l) (nb : bad ls = false) (nd : ks.Nodup) (hm : ∀ l ∈ ks, l ∈ ls) : ((ks.filter fun l => decide (l > 1)).map fun l => l / 2).Nodup := by
  obtain ⟨b1, b2⟩ := not_bad nb
  have f : (ks.filter fun l => decide (l > 1)).Nodup := nd.filter _
  rw [List.Nodup, List.pairwise_map]
  refine f.imp_of_mem fun {a b} ma mb ne e => ?_
  obtain ⟨ma, a1⟩ := List.mem_filter.mp ma
  obtain ⟨mb, c1⟩ := List.mem_filter.mp mb
  have a1 := of_decide_eq_true a1
  have c1 := of_decide_eq_true c1
  have z : b = fl a := by
    unfold fl
    omega
  exact b2 a (hm a ma) (z ▸ hm b mb)
end
end Lc
namespace Dm
open PySem PySem.Spec PyProof.Rows L2 Pen Dat Ki Fi Gr No Lf Cm Cp Lc
/-! ## Drawn machines -/
theorem cat_use {K : PySem.W.Frag} {H : Hp} {a b : Addr} {xs ys : List V} {Q : VK} (ha : SqT K H a xs) (hb : SqT K H b ys) (hz : xs.length + ys.length ≤ sizeLine) (k : ∀ t H', Same H H' → SqT K H' t (xs ++ ys) → Q (.ref t) H') : L2.rCatA K (.ref a) (.ref b) H Q := by
  refine ⟨a, b, xs, ys, rfl, rfl, ha, hb, hz, fun e => ?_, fun _ e => ?_, fun _ _ p np => ?_⟩
  · subst e
    exact k b H (fun _ _ e => e) hb
  · subst e
    exact k a H (fun _ _ e => e) (by rw [List.append_nil]; exact ha)
  · exact k p _ (same_new np) (SqT.of upd_same)
def xorG (n : Int) (gs : List (Int × Int)) (a b : Int) : List (Int × Int) := gs ++ [(a, b), (fl a, fl b)] ++ [(2 * (1 + n + gs.length) + 1, 2 * (1 + n + gs.length) + 3)]
theorem okG_xor {n a b : Int} {gs : List (Int × Int)} (h : okG (2 * n + 1) gs = true) (a0 : 0 ≤ a) (a1 : a < 2 * (1 + n + gs.length)) (b0 : 0 ≤ b) (b1 : b < 2 * (1 + n + gs.length)) (n0 : 0 ≤ n) : okG (2 * n + 1) (xorG n gs a b) = true := by
  have e : xorG n gs a b = ((gs ++ [(a, b)]) ++ [(fl a, fl b)]) ++ [(2 * (1 + n + gs.length) + 1, 2 * (1 + n + gs.length) + 3)] := by
    unfold xorG
    simp
  rw [e]
  have u : ∀ x : Int, 0 ≤ x → x < 2 * (1 + n + gs.length) → 0 ≤ fl x ∧ fl x < 2 * (1 + n + gs.length) := fun x h0 h1 => by
    unfold fl
    omega
  have fa := u a a0 a1
  have fb := u b b0 b1
  refine okG_snoc (okG_snoc (okG_snoc h a0 (by show a ≤ _; omega) b0 (by show b ≤ _; omega)) fa.1 ?_ fb.1 ?_) (by show 0 ≤ _; omega) ?_ (by show 0 ≤ _; omega) ?_
  all_goals
    simp only [List.length_append, List.length_cons, List.length_nil]
    omega
def spXor (K : PySem.W.Frag) : Sp := fun vs H Q _ => ∃ (g : Addr) (n a b : Int) (gs : List (Int × Int)), vs = [.ref g, .int n, .int a, .int b] ∧ GT K H g gs ∧ gs.length ≤ 900 ∧
  ∀ (H' : Hp) (t g' : Addr), Same H H' → GT K H' g' (xorG n gs a b) → H' t = some (.tup [.ref g', .int (2 * (1 + n + gs.length) + 4)]) → Q (.ref t) H'
section
variable {P : Program} {w : World} {K : PySem.W.Frag} {mg : Str → Option Value} {base : Heap} {f C M : Addr} {fd : FuncData}
abbrev xoN : List Str := ["_law_gates", "_law_leaves", "_law_one", "_law_two", "_law_first"]
theorem scXor : FnScope xoN ["_law_gates", "_law_leaves", "_law_one", "_law_two"] (defScope sXor) := ⟨rfl, rfl, rfl, by decide +kernel, rfl, by decide +kernel, by decide +kernel⟩
theorem ok_xor {fF : Addr} {fdF : FuncData} (F : FnP K "_law_xor_gates" sXor f fd) (T : Lc.Tx mg) (FF : FnP K "_law_flip" sFlip fF fdF) (gF : mg "_law_flip" = some (.ref fF)) : FnOk P w K mg base CX0 2 f fd ["_law_gates", "_law_leaves", "_law_one", "_law_two"] (spXor K) := by
  have GF : FnOk P w K mg base CX0 1 fF fdF ["_law_literal"] spFlip := ok_flip FF T
  have bF : Binds K fdF ["_law_literal"] [] := FF.bindsN fun _ _ _ _ _ _ us hl => match us, hl with | [_], _ => rfl
  refine F.ok scXor (fun vs H Q E h => ?_) (fun cdv A outer s H vs Q E hr h => ?_)
  · obtain ⟨g, n, a, b, gs, rfl, _⟩ := h
    rfl
  · obtain ⟨g, n, a, b, gs, rfl, hG, hz, q⟩ := h
    obtain ⟨ps, hg, ha⟩ := hG
    have hr1 := hr.mono (j := 1) (by decide)
    refine ⟨_, PSs.nox (pss_cons (ps_set (i := 4) scXor.nd rfl (Or.inl rfl) (pe_op op_mul pe_int (pe_op op_add (pe_op op_add pe_int (pv 1)) (pe_callB call_len_seq (by rfl) T.lf.pen.len PySem.boot_len (pa_cons (pv 0) pa_nil)))))
      (pss_cons (ps_set (i := 0) scXor.nd rfl (Or.inl rfl) (pe_op op_catA (pv 0) (pe_tup (pa_cons (pe_tup (pa_cons (pv 2) (pa_cons (pv 3) pa_nil))) (pa_cons (pe_tup (pa_cons
        (pe_call GF hr1 (by rfl) gF FF.kp bF .nil pass0 (pa_cons (pv 2) pa_nil)) (pa_cons (pe_call GF hr1 (by rfl) gF FF.kp bF .nil pass0 (pa_cons (pv 3) pa_nil)) pa_nil))) pa_nil)))))
      (pss_one (ps_ret (pe_tup (pa_cons (pe_op op_catA (pv 0) (pe_tup (pa_cons (pe_tup (pa_cons (pe_op op_add (pv 4) pe_int) (pa_cons (pe_op op_add (pv 4) pe_int) pa_nil))) pa_nil))) (pa_cons (pe_op op_add (pv 4) pe_int) pa_nil))))))), ?_⟩
    refine ⟨_, rfl, _, _, rfl, rfl, _, rfl, g, ps, rfl, .inr hg, _, _, rfl, rfl, _, _, rfl, rfl, .inl ⟨by decide, by decide⟩, ?_⟩
    refine ⟨_, rfl, _, rfl, _, rfl, (by show 2 ≤ sizeLine; decide), fun t1 nt1 => ?_⟩
    have s1 := same_new (u := .tup [V.int a, V.int b]) nt1
    refine ⟨_, rfl, a, rfl, _, rfl, b, rfl, (by show 2 ≤ sizeLine; decide), fun t2 nt2 => ⟨(by show 2 ≤ sizeLine; decide), fun t3 nt3 => ?_⟩⟩
    have s2 := same_new (u := .tup [V.int (fl a), V.int (fl b)]) nt2
    have s3 := same_new (u := .tup [V.ref t1, V.ref t2]) nt3
    have ht1 := s3 _ _ (s2 _ _ (upd_same (H := H) (a := t1) (o := .tup [V.int a, V.int b])))
    have ht2 := s3 _ _ (upd_same (H := upd H t1 (.tup [V.int a, V.int b])) (a := t2) (o := .tup [V.int (fl a), V.int (fl b)]))
    have s13 := s1.trans (s2.trans s3)
    have psl : ps.length ≤ 900 := by
      rw [ha.len]
      exact hz
    refine cat_use (K := K) (seqT_same s13 hg) (SqT.of upd_same) (Nat.le_trans (by show ps.length + 2 ≤ 1000; omega) (by decide)) fun t4 H4 s4 h4 => ?_
    have s14 := s13.trans s4
    have a4 : All2 (Pt K H4) (ps ++ [V.ref t1, V.ref t2]) (gs ++ [(a, b), (fl a, fl b)]) :=
      (ha.imp fun _ _ h => h.firm (Firm.of s14)).append (.cons ⟨t1, rfl, SqT.of (s4 _ _ ht1)⟩ (.cons ⟨t2, rfl, SqT.of (s4 _ _ ht2)⟩ .nil))
    refine ⟨_, rfl, _, rfl, _, _, rfl, rfl, _, rfl, _, _, rfl, rfl, (by show 2 ≤ sizeLine; decide), fun t5 nt5 => ⟨(by show 1 ≤ sizeLine; decide), fun t6 nt6 => ?_⟩⟩
    have s5 := same_new (u := .tup [V.int (2 * (1 + n + (ps.length : Nat)) + 1), V.int (2 * (1 + n + (ps.length : Nat)) + 3)]) nt5
    have s6 := same_new (u := .tup [V.ref t5]) nt6
    have ht5 := s6 _ _ (upd_same (H := H4) (a := t5) (o := .tup [V.int (2 * (1 + n + (ps.length : Nat)) + 1), V.int (2 * (1 + n + (ps.length : Nat)) + 3)]))
    refine cat_use (K := K) (seqT_same (s5.trans s6) h4) (SqT.of upd_same) (by rw [List.length_append]; exact Nat.le_trans (by show ps.length + 2 + 1 ≤ 1000; omega) (by decide)) fun t7 H7 s7 h7 => ?_
    have s47 := s5.trans (s6.trans s7)
    have a7 : All2 (Pt K H7) ((ps ++ [V.ref t1, V.ref t2]) ++ [V.ref t5]) (xorG n gs a b) := by
      have a5 := (a4.imp fun _ _ h => h.firm (Firm.of s47)).snoc (x := (2 * (1 + n + (ps.length : Nat)) + 1, 2 * (1 + n + (ps.length : Nat)) + 3)) ⟨t5, rfl, SqT.of (s7 _ _ ht5)⟩
      rw [ha.len] at a5
      exact a5
    refine ⟨_, rfl, _, _, rfl, rfl, (by show 2 ≤ sizeLine; decide), fun t8 nt8 => ?_⟩
    have s8 := same_new (u := .tup [V.ref t7, V.int (2 * (1 + n + (ps.length : Nat)) + 4)]) nt8
    refine q _ t8 t7 (s14.trans (s47.trans s8)) ⟨_, seqT_same s8 h7, a7.imp fun _ _ h => h.firm (Firm.of s8)⟩ ?_
    rw [upd_same, ha.len]
def ownD (n i : Int) (g t1 t2 : Addr) (wi : Int) : List (Key × V) := [(.inr "leaves", .int n), (.inr "gates", .ref g), (.inr "inputs", .int i), (.inr "resets", .ref t1), (.inr "nexts", .ref t2), (.inr "wish", .int wi)]
/-- a machine of the law's own -/
structure OwnAt (K : PySem.W.Frag) (H : Hp) (o : Addr) (n i : Int) (gs : List (Int × Int)) (rs nx : List Int) (wi : Int) : Prop where
  at_ : ∃ g t1 t2, H o = some (.dK (ownD n i g t1 t2 wi)) ∧ GT K H g gs ∧ SqT K H t1 (rs.map V.int) ∧ SqT K H t2 (nx.map V.int)
structure OwnOk (n i : Int) (gs : List (Int × Int)) (rs nx : List Int) (wi : Int) : Prop where
  i0 : 0 ≤ i
  i1 : i ≤ n
  n7 : n ≤ 7
  gok : okG (2 * n + 1) gs = true
  glen : gs.length ≤ 40
  rl : (rs.length : Int) = n - i
  r01 : ∀ z ∈ rs, 0 ≤ z ∧ z ≤ 1
  nl : (nx.length : Int) = n - i
  nb : ∀ z ∈ nx, 0 ≤ z ∧ z ≤ 2 * (n + gs.length) + 1
  w0 : 0 ≤ wi
  w1 : wi ≤ 2 * (n + gs.length) + 1
def spMach (K : PySem.W.Frag) : Sp := fun vs H Q _ => ∃ (p c : Addr) (k : Nat) (i r m : Int), vs = [.ref p, .int i, .int r, .int m] ∧ PenC H p c k ∧ k ≤ 100000 ∧ 0 ≤ i ∧ i ≤ 3 ∧ 0 ≤ r ∧ r ≤ 4 ∧ 0 ≤ m ∧ m ≤ 9 ∧
  ∀ (H' : Hp) (o : Addr) (gs : List (Int × Int)) (rs nx : List Int) (wi : Int), PenC H' p c (k + 60) → But p H H' → OwnAt K H' o (i + r) i gs rs nx wi → OwnOk (i + r) i gs rs nx wi → o ≠ p → o ≠ c → Q (.ref o) H'
abbrev dmN : List Str := ["_law_pen_here", "_law_inputs", "_law_registers", "_law_many", "_law_leaves", "_law_gates", "_law_nexts", "_law_k", "_law_nodes", "_law_one", "_law_two", "_law_resets", "_law_bad", "_law_wish"]
theorem scMach : FnScope dmN ["_law_pen_here", "_law_inputs", "_law_registers", "_law_many"] (defScope sMach) := ⟨rfl, rfl, rfl, by decide +kernel, rfl, by decide +kernel, by decide +kernel⟩
theorem ok_mach {fF fD fW fX : Addr} {dF dD dW dX : FuncData} (F : FnP K "_law_drawn_machine" sMach f fd) (T : Lc.Tx mg) (FF : FnP K "_law_flip" sFlip fF dF) (gF : mg "_law_flip" = some (.ref fF)) (FD : FnP K "_law_draw" sDraw fD dD) (gD : mg "_law_draw" = some (.ref fD))
    (FW : FnP K "_law_drawn_gates" sDrawn fW dW) (gW : mg "_law_drawn_gates" = some (.ref fW)) (FX : FnP K "_law_xor_gates" sXor fX dX) (gX : mg "_law_xor_gates" = some (.ref fX)) :
    FnOk P w K mg base CX0 3 f fd ["_law_pen_here", "_law_inputs", "_law_registers", "_law_many"] (spMach K) := by
  have GF : FnOk P w K mg base CX0 1 fF dF ["_law_literal"] spFlip := ok_flip FF T
  have bF : Binds K dF ["_law_literal"] [] := FF.bindsN fun _ _ _ _ _ _ us hl => match us, hl with | [_], _ => rfl
  have GD : FnOk P w K mg base CX0 1 fD dD ["_law_pen_here", "_law_many"] spDraw := ok_draw FD T.lf.pen
  have bD : Binds K dD ["_law_pen_here", "_law_many"] [] := FD.bindsN fun _ _ _ _ _ _ us hl => match us, hl with | [_, _], _ => rfl
  have GW : FnOk P w K mg base CX0 2 fW dW ["_law_pen_here", "_law_leaves", "_law_many"] (spDrawn K) := ok_drawn FW T.lf FD gD
  have bW : Binds K dW ["_law_pen_here", "_law_leaves", "_law_many"] [] := FW.bindsN fun _ _ _ _ _ _ us hl => match us, hl with | [_, _, _], _ => rfl
  have GX : FnOk P w K mg base CX0 2 fX dX ["_law_gates", "_law_leaves", "_law_one", "_law_two"] (spXor K) := ok_xor FX T FF gF
  have bX : Binds K dX ["_law_gates", "_law_leaves", "_law_one", "_law_two"] [] := FX.bindsN fun _ _ _ _ _ _ us hl => match us, hl with | [_, _, _, _], _ => rfl
  refine F.ok scMach (fun vs H Q E h => ?_) (fun cdv A outer s H vs Q E hr h => ?_)
  · obtain ⟨p, c, k, i, r, m, rfl, _⟩ := h
    rfl
  · obtain ⟨p, c, k, i, r, m, rfl, hP, hk, i0, i1, r0, r1, m0, m1, q⟩ := h
    have hr1 := hr.mono (j := 1) (by decide)
    refine ⟨_, PSs.nox (pss_cons (ps_set (i := 4) scMach.nd rfl (Or.inl rfl) (pe_op op_add (pv 1) (pv 2))) (pss_cons (ps_set (i := 5) scMach.nd rfl (Or.inl rfl) (pe_call GW hr (by rfl) gW FW.kp bW .nil pass0 (pa_cons (pv 0) (pa_cons (pv 4) (pa_cons (pv 3) pa_nil))))) (pss_cons (ps_set (i := 6) scMach.nd rfl (Or.inl rfl) (pe_lst pa_nil)) (pss_cons (ps_for PassesOwn.never rfl (pi_range1 (by rfl) T.lf.range (pa_cons (pv 2) pa_nil)) (pg_name (i := 7) scMach.nd rfl (Or.inl rfl)) (pss_cons (ps_set (i := 8) scMach.nd rfl (Or.inl rfl) (pe_op op_mul pe_int (pe_op op_add (pe_op op_add pe_int (pv 4)) (pe_callB call_len_seq (by rfl) T.lf.pen.len PySem.boot_len (pa_cons (pv 5) pa_nil))))) (pss_cons (ps_par (i := 9) (j := 10) rfl scMach.nd rfl rfl (by decide) rfl rfl (pa_cons (pe_op op_sub (pe_op op_sub (pv 8) pe_int) (pe_op op_fdiv (pe_call GD hr1 (by rfl) gD FD.kp bD .nil pass0 (pa_cons (pv 0) (pa_cons (pv 8) pa_nil))) pe_int)) (pa_cons (pe_op op_add (pe_op op_mul pe_int (pe_op op_add pe_int (pe_call GD hr1 (by rfl) gD FD.kp bD .nil pass0 (pa_cons (pv 0) (pa_cons (pv 4) pa_nil))))) (pe_call GD hr1 (by rfl) gD FD.kp bD .nil pass0 (pa_cons (pv 0) (pa_cons pe_int pa_nil)))) pa_nil)) (by rfl)) (C8.pss_cut (ps_if (pt_cmpR op_gt (pe_call GD hr1 (by rfl) gD FD.kp bD .nil pass0 (pa_cons (pv 0) (pa_cons pe_int pa_nil))) pe_int (nomark _)) (pss_one (ps_asg (pe_call GX hr (by rfl) gX FX.kp bX .nil pass0 (pa_cons (pv 5) (pa_cons (pv 4) (pa_cons (pv 9) (pa_cons (pv 10) pa_nil))))) (pg_tup rfl (pgs_cons (pg_name (i := 5) scMach.nd rfl (Or.inl rfl)) (pgs_cons (pg_name (i := 9) scMach.nd rfl (Or.inl rfl)) pgs_nil))))) pss_nil) (pss_one (ps_expr (pe_bm PySem.F.plainAttrs_list PySem.F.slot_list_append PySem.F.type_list_append mt_append (pv 6) (pa_cons (pv 9) pa_nil)))))))) (pss_cons (ps_set (i := 11) scMach.nd rfl (Or.inl rfl) (pe_callTy (T := "tuple") (r := rTupOf K) (by exact call_tuple_of) (by rfl) T.lf.tuple (by decide +kernel) (pa_cons (pe_lc (own := [("_law_k", 7)]) (g := gName 7) (tt := tYes) rfl scMach.nd (pi_range1 (by rfl) T.lf.range (pa_cons (pv 2) pa_nil)) (blkOk_by (N := dmN) (sc := defScope sMach) (by decide +kernel)) (fun _ _ _ _ _ => pg_name (i := 7) scMach.nd rfl (Or.inl rfl)) (fun _ _ _ _ _ => pts_nil) (fun _ _ _ _ _ => (pe_call GD hr1 (by rfl) gD FD.kp bD .nil pass0 (pa_cons (pv 0) (pa_cons pe_int pa_nil))))) pa_nil))) (pss_cons (ps_set (i := 12) scMach.nd rfl (Or.inl rfl) pe_int) (C8.pss_cut (ps_if (pt_cmpR op_gt (pe_call GD hr1 (by rfl) gD FD.kp bD .nil pass0 (pa_cons (pv 0) (pa_cons pe_int pa_nil))) pe_int (nomark _)) (pss_cons (ps_for PassesOwn.never rfl (pi_range1 (by rfl) T.lf.range (pa_cons (pv 2) pa_nil)) (pg_name (i := 7) scMach.nd rfl (Or.inl rfl)) (pss_cons (ps_set (i := 5) scMach.nd rfl (Or.inl rfl) (pe_op op_catA (pv 5) (pe_tup (pa_cons (pe_tup (pa_cons (pv 12) (pa_cons (pe_op op_add (pe_op op_mul pe_int (pe_op op_add (pe_op op_add pe_int (pv 1)) (pv 7))) (pe_call GD hr1 (by rfl) gD FD.kp bD .nil pass0 (pa_cons (pv 0) (pa_cons pe_int pa_nil)))) pa_nil))) pa_nil)))) (pss_one (ps_set (i := 12) scMach.nd rfl (Or.inl rfl) (pe_op op_mul pe_int (pe_op op_add (pv 4) (pe_callB call_len_seq (by rfl) T.lf.pen.len PySem.boot_len (pa_cons (pv 5) pa_nil)))))))) (pss_one (ps_set (i := 13) scMach.nd rfl (Or.inl rfl) (pe_call GF hr1 (by rfl) gF FF.kp bF .nil pass0 (pa_cons (pv 12) pa_nil))))) (pss_one (ps_set (i := 13) scMach.nd rfl (Or.inl rfl) (pe_op op_sub (pe_op op_add (pe_op op_mul pe_int (pe_op op_add (pv 4) (pe_callB call_len_seq (by rfl) T.lf.pen.len PySem.boot_len (pa_cons (pv 5) pa_nil)))) pe_int) (pe_call GD hr1 (by rfl) gD FD.kp bD .nil pass0 (pa_cons (pv 0) (pa_cons pe_int pa_nil))))))) (pss_cons (ps_set (i := 6) scMach.nd rfl (Or.inl rfl) (pe_callTy (T := "tuple") (r := rTupOf K) (by exact call_tuple_of) (by rfl) T.lf.tuple (by decide +kernel) (pa_cons (pv 6) pa_nil))) (pss_one (ps_ret (pe_disp (pps_cons pe_str (pv 4) (pps_cons pe_str (pv 5) (pps_cons pe_str (pv 1) (pps_cons pe_str (pv 11) (pps_cons pe_str (pv 6) (pps_cons pe_str (pv 13) pps_nil)))))) (by rfl) (by rfl) (fun z => by cases z) (by decide)))))))))))), ?_⟩
    refine ⟨_, rfl, _, rfl, _, _, rfl, rfl, ?_⟩
    refine ⟨_, rfl, _, rfl, _, rfl, p, c, k, i + r, m, rfl, hP, by omega, by omega, by omega, m0, by omega, fun H1 g0 gs0 P1 B1 G1 ok1 len1 => ?_⟩
    refine ⟨(by show 0 ≤ sizeLine; decide), fun D nD => ?_⟩
    obtain ⟨Dp_, Dc⟩ := P1.free nD
    have sD := same_new (u := .lst []) nD
    have nDH : ∀ {b : Addr} {o : HO}, H b = some o → b ≠ p → b ≠ D := fun e ne z => by
      rw [z] at e
      have z1 := B1 _ _ e (z ▸ ne)
      rw [nD] at z1
      cases z1
    refine ⟨_, rfl, r, rfl, by omega, by omega, for_range (lo := 0) (n := r.toNat)
      (fun j σ H2 => ∃ (x7 x8 x9 x10 : Option V) (g : Addr) (gs : List (Int × Int)) (nx : List Int), σ = [some (.ref p), some (.int i), some (.int r), some (.int m), some (.int (i + r)), some (.ref g), some (.ref D), x7, x8, x9, x10, none, none, none] ∧
        PenC H2 p c (k + 2 * m.toNat + 4 * j) ∧ But p H H2 ∧ GT K H2 g gs ∧ okG (2 * (i + r) + 1) gs = true ∧ gs.length ≤ 9 + 3 * j ∧ H2 D = some (.lst (nx.map V.int)) ∧ nx.length = j ∧ ∀ z ∈ nx, 0 ≤ z ∧ z ≤ 2 * (i + r + gs.length) + 1)
      ⟨none, none, none, none, g0, gs0, [], rfl, P1.same sD, fun b o e ne => sD _ _ (B1 _ _ e ne), G1.firm (Firm.of sD), ok1, by omega, upd_same, rfl, fun z hz => by cases hz⟩ ?_ ?_⟩
    · rintro j σ H2 hj ⟨x7, x8, x9, x10, g, gs, nx, rfl, P2, k2, G2, ok2, l2, h2, nl, nb⟩
      obtain ⟨ps, hg, ha⟩ := id G2
      refine ⟨_, rfl, _, _, rfl, rfl, _, rfl, g, ps, rfl, .inr hg, _, _, rfl, rfl, _, _, rfl, rfl, .inl ⟨by decide, by decide⟩, ?_⟩
      rw [ha.len]
      refine ⟨_, rfl, _, _, rfl, rfl, _, rfl, _, rfl, p, c, _, _, rfl, P2, by omega, by omega, by omega, fun d1 H3 d10 d11 P3 B3 => ?_⟩
      refine ⟨_, _, rfl, rfl, ⟨by decide, by decide⟩, _, _, rfl, rfl, ?_⟩
      refine ⟨_, rfl, _, rfl, p, c, _, _, rfl, P3, by omega, by omega, by omega, fun d2 H4 d20 d21 P4 B4 => ?_⟩
      refine ⟨_, _, rfl, rfl, _, _, rfl, rfl, .inl ⟨by decide, by decide⟩, ?_⟩
      refine ⟨_, rfl, p, c, _, 2, rfl, P4, by omega, by decide, by decide, fun d3 H5 d30 d31 P5 B5 => ?_⟩
      refine ⟨_, _, rfl, rfl, _, _, rfl, ?_⟩
      have one0 : 0 ≤ 2 * (1 + (i + r) + (gs.length : Int)) - 1 - d1 / 2 := by omega
      have one1 : 2 * (1 + (i + r) + (gs.length : Int)) - 1 - d1 / 2 < 2 * (1 + (i + r) + gs.length) := by omega
      have two0 : 0 ≤ 2 * (1 + d2) + d3 := by omega
      have two1 : 2 * (1 + d2) + d3 < 2 * (1 + (i + r) + (gs.length : Int)) := by omega
      have f25 : Firm H2 H5 := (Firm.pen B3 P2).trans ((Firm.pen B4 P3).trans (Firm.pen B5 P4))
      have h5 := B5 _ _ (B4 _ _ (B3 _ _ h2 Dp_) Dp_) Dp_
      refine ⟨fun σ H7 => ∃ (v1 : Int) (g' : Addr) (gs' : List (Int × Int)), σ = [some (.ref p), some (.int i), some (.int r), some (.int m), some (.int (i + r)), some (.ref g'), some (.ref D), some (.int (0 + (j : Int))), some (.int (2 * (1 + (i + r) + (gs.length : Int)))), some (.int v1), some (.int (2 * (1 + d2) + d3)), none, none, none] ∧
        PenC H7 p c (k + 2 * m.toNat + 4 * (j + 1)) ∧ But p H H7 ∧ GT K H7 g' gs' ∧ okG (2 * (i + r) + 1) gs' = true ∧ gs'.length ≤ 9 + 3 * (j + 1) ∧ H7 D = some (.lst (nx.map V.int)) ∧ (∀ z ∈ nx, 0 ≤ z ∧ z ≤ 2 * (i + r + gs'.length) + 1) ∧ 0 ≤ v1 ∧ v1 ≤ 2 * (i + r + gs'.length) + 1, ?_, ?_⟩
      · refine ⟨_, rfl, p, c, _, 3, rfl, P5, by omega, by decide, by decide, fun d4 H6 d40 d41 P6 B6 => ?_⟩
        have f26 := f25.trans (Firm.pen B6 P5)
        have h6 := B6 _ _ h5 Dp_
        have k6 : But p H H6 := k2.trans (B3.trans (B4.trans (B5.trans B6)))
        have P6 := P6.more (m' := k + 2 * m.toNat + 4 * (j + 1)) (by omega)
        refine ⟨_, _, rfl, rfl, _, rfl, ite2 (fun _ => ?_) (fun _ => ?_)⟩
        · refine ⟨_, rfl, _, rfl, _, rfl, _, rfl, g, i + r, 2 * (1 + (i + r) + (gs.length : Int)) - 1 - d1 / 2, 2 * (1 + d2) + d3, gs, rfl, G2.firm f26, by omega, fun H7 t g' s7 G7 ht => ?_⟩
          refine ⟨t, _, rfl, SqT.of ht, rfl, _, _, rfl, _, _, rfl, rfl, ?_⟩
          have xl : (xorG (i + r) gs (2 * (1 + (i + r) + (gs.length : Int)) - 1 - d1 / 2) (2 * (1 + d2) + d3)).length = gs.length + 3 := by
            unfold xorG
            simp
          refine ⟨_, g', _, rfl, P6.same s7, fun b o e ne => s7 _ _ (k6 _ _ e ne), G7, okG_xor ok2 one0 one1 two0 two1 (by omega), by omega, s7 _ _ h6, fun z hz => ?_, by omega, by omega⟩
          obtain ⟨a, b⟩ := nb z hz
          exact ⟨a, by omega⟩
        · exact ⟨2 * (1 + (i + r) + (gs.length : Int)) - 1 - d1 / 2, g, gs, rfl, P6, k6, G2.firm f26, ok2, by omega, h6, nb, one0, by omega⟩
      · rintro σ H7 ⟨v1, g', gs', rfl, P7, k7, G7, ok7, l7, h7, nb7, v10, v11⟩
        have f8 : Firm H7 (upd H7 D (.lst (nx.map V.int ++ [.int v1]))) := Firm.upd h7 rfl
        refine ⟨_, rfl, .inl ⟨rfl, _, SqL.of h7⟩, _, rfl, D, _, _, rfl, rfl, h7, ?_, ?_⟩
        · rw [List.length_map, nl]
          exact Nat.lt_of_lt_of_le (by omega : j < 10) (by decide)
        · refine ⟨_, _, _, _, g', gs', nx ++ [v1], rfl, P7.upd Dp_ Dc, fun b o e ne => ?_, G7.firm f8, ok7, l7, ?_, ?_, fun z hz => ?_⟩
          · rw [upd_ne (nDH e ne)]
            exact k7 _ _ e ne
          · rw [upd_same, List.map_append]
            rfl
          · rw [List.length_append, nl]
            rfl
          · rcases List.mem_append.mp hz with hz | hz
            · exact nb7 z hz
            · rw [List.mem_singleton.mp hz]
              exact ⟨v10, v11⟩
    · rintro σ H2 ⟨x7, x8, x9, x10, g, gs, nx, rfl, P2, k2, G2, ok2, l2, h2, nl, nb⟩
      -- the resets
      refine ⟨_, rfl, r, rfl, by omega, by omega, fun D2 nD2 => ?_⟩
      obtain ⟨D2p, D2c⟩ := P2.free nD2
      have sD2 := same_new (u := .lst []) nD2
      refine lc_range (lo := 0) (n := r.toNat) (fun j H3 => PenC H3 p c (k + 2 * m.toNat + 4 * r.toNat + j) ∧ But p H2 H3 ∧ ∃ rs : List Int, H3 D2 = some (.lst (rs.map V.int)) ∧ rs.length = j ∧ ∀ l ∈ rs, 0 ≤ l ∧ l ≤ 1)
        ⟨P2.same sD2, But.of_same sD2, [], upd_same, rfl, fun l z => by cases z⟩ ?_ ?_
      · rintro j H3 hj ⟨P3, k3, rs, h3, rl, rb⟩
        refine ⟨rfl, yes_of ?_⟩
        refine ⟨_, rfl, p, c, _, 2, rfl, P3, by omega, by decide, by decide, fun d H4 d0 d1 P4 B4 => ?_⟩
        refine ⟨_, B4 _ _ h3 D2p, ?_, P4.upd D2p D2c, fun b o e ne => ?_, rs ++ [d], ?_, ?_, fun l ml => ?_⟩
        · rw [List.length_map, rl]
          exact Nat.lt_of_lt_of_le (by omega : j < 10) (by decide)
        · rw [upd_ne (ne_of_none e nD2)]
          exact B4 _ _ (k3 b o e ne) ne
        · rw [upd_same, List.map_append]
          rfl
        · rw [List.length_append, rl]
          rfl
        · rcases List.mem_append.mp ml with q | q
          · exact rb l q
          · rw [List.mem_singleton.mp q]
            omega
      rintro H3 ⟨P3, k3, rs, h3, rl, rb⟩
      refine ⟨D2, _, rfl, .inl ⟨SqL.of h3, fun t nt => ?_⟩⟩
      have st := same_new (u := .tup (rs.map V.int)) nt
      have f24 : Firm H2 (upd H3 t (.tup (rs.map V.int))) := (Firm.pen k3 P2).trans (Firm.of st)
      have P4 := P3.same st
      have k4 : But p H (upd H3 t (.tup (rs.map V.int))) := k2.trans (k3.trans (But.of_same st))
      have G4 := G2.firm f24
      have h4 := st _ _ (k3 _ _ h2 Dp_)
      have ht4 := SqT.of (K := K) (upd_same (H := H3) (a := t) (o := .tup (rs.map V.int)))
      generalize upd H3 t (.tup (rs.map V.int)) = H4 at P4 k4 G4 h4 ht4 ⊢
      clear f24 st nt h3 k3 P3 sD2 D2p D2c nD2 h2 G2 k2 P2
      -- the wish
      refine ⟨fun σ H5 => ∃ (y7 : Option V) (x12 : V) (g' : Addr) (gs' : List (Int × Int)) (wi : Int), σ = [some (.ref p), some (.int i), some (.int r), some (.int m), some (.int (i + r)), some (.ref g'), some (.ref D), y7, x8, x9, x10, some (.ref t), some x12, some (.int wi)] ∧
        PenC H5 p c (k + 60) ∧ But p H H5 ∧ GT K H5 g' gs' ∧ okG (2 * (i + r) + 1) gs' = true ∧ gs'.length ≤ 40 ∧ gs.length ≤ gs'.length ∧ H5 D = some (.lst (nx.map V.int)) ∧ SqT K H5 t (rs.map V.int) ∧ 0 ≤ wi ∧ wi ≤ 2 * (i + r + gs'.length) + 1, ?_, ?_⟩
      · refine ⟨_, rfl, p, c, _, 4, rfl, P4, by omega, by decide, by decide, fun d H5 d0 d1 P5 B5 => ?_⟩
        have f5 := Firm.pen B5 P4
        have k5 := k4.trans B5
        have G5 := G4.firm f5
        have h5 := B5 _ _ h4 Dp_
        have ht5 := firm_seq f5 ht4
        refine ⟨_, _, rfl, rfl, _, rfl, ite2 (fun _ => ?_) (fun _ => ?_)⟩
        · refine ⟨_, rfl, r, rfl, by omega, by omega, for_range (lo := 0) (n := r.toNat)
            (fun j σ H6 => ∃ (y7 : Option V) (g' : Addr) (gs' : List (Int × Int)) (bad : Int), σ = [some (.ref p), some (.int i), some (.int r), some (.int m), some (.int (i + r)), some (.ref g'), some (.ref D), y7, x8, x9, x10, some (.ref t), some (.int bad), none] ∧
              PenC H6 p c (k + 2 * m.toNat + 5 * r.toNat + 1 + j) ∧ But p H H6 ∧ GT K H6 g' gs' ∧ okG (2 * (i + r) + 1) gs' = true ∧ gs'.length = gs.length + j ∧ H6 D = some (.lst (nx.map V.int)) ∧ SqT K H6 t (rs.map V.int) ∧ 0 ≤ bad ∧ bad ≤ 2 * (i + r + gs'.length) + 1)
            ⟨_, g, gs, 1, rfl, P5.more (by omega), k5, G5, ok2, rfl, h5, ht5, by decide, by omega⟩ ?_ ?_⟩
          · rintro j σ H6 hj ⟨y7, g', gs', bad, rfl, P6, k6, G6, ok6, l6, h6, ht6, b0, b1⟩
            obtain ⟨ps, hg, ha⟩ := id G6
            refine ⟨_, rfl, _, rfl, _, rfl, _, _, rfl, rfl, _, rfl, _, _, rfl, rfl, _, _, rfl, rfl, .inl ⟨by decide, by decide⟩, ?_⟩
            refine ⟨_, rfl, p, c, _, 2, rfl, P6, by omega, by decide, by decide, fun d H7 d0 d1 P7 B7 => ?_⟩
            refine ⟨_, _, rfl, rfl, (by show 2 ≤ sizeLine; decide), fun t1 nt1 => ⟨(by show 1 ≤ sizeLine; decide), fun t2 nt2 => ?_⟩⟩
            have s1 := same_new (u := .tup [V.int bad, V.int (2 * (1 + i + (0 + (j : Int))) + d)]) nt1
            have s2 := same_new (u := .tup [V.ref t1]) nt2
            have f7 := Firm.pen B7 P6
            have ht1 := s2 _ _ (upd_same (H := H7) (a := t1) (o := .tup [V.int bad, V.int (2 * (1 + i + (0 + (j : Int))) + d)]))
            have pl : ps.length ≤ 40 := by
              rw [ha.len]
              omega
            refine cat_use (K := K) (seqT_same (s1.trans s2) (firm_seq f7 hg)) (SqT.of upd_same) (Nat.le_trans (by show ps.length + 1 ≤ 1000; omega) (by decide)) fun t3 H8 s3 h8 => ?_
            have s18 := s1.trans (s2.trans s3)
            have a8 : All2 (Pt K H8) (ps ++ [V.ref t1]) (gs' ++ [(bad, 2 * (1 + i + (0 + (j : Int))) + d)]) :=
              (ha.imp fun _ _ h => (h.firm f7).firm (Firm.of s18)).snoc ⟨t1, rfl, SqT.of (s3 _ _ ht1)⟩
            have al : (gs' ++ [(bad, 2 * (1 + i + (0 + (j : Int))) + d)]).length = gs'.length + 1 := by
              rw [List.length_append]
              rfl
            refine ⟨_, rfl, _, rfl, t3, _, rfl, .inr h8, _, _, rfl, rfl, _, _, rfl, rfl, .inl ⟨by decide, by decide⟩, ?_⟩
            refine ⟨_, t3, _, _, rfl, (P7.same s18).more (by omega), fun b o e ne => s18 _ _ (B7 _ _ (k6 _ _ e ne) ne), ⟨_, h8, a8⟩, okG_snoc ok6 b0 (by show bad ≤ _; omega) (by show 0 ≤ 2 * (1 + i + (0 + (j : Int))) + d; omega) (by show 2 * (1 + i + (0 + (j : Int))) + d ≤ _; omega), by omega, s18 _ _ (B7 _ _ h6 Dp_), seqT_same s18 (firm_seq f7 ht6), by omega, ?_⟩
            rw [a8.len]
            omega
          · rintro σ H6 ⟨y7, g', gs', bad, rfl, P6, k6, G6, ok6, l6, h6, ht6, b0, b1⟩
            refine ⟨_, rfl, bad, rfl, ?_⟩
            refine ⟨_, _, g', gs', fl bad, rfl, P6.more (by omega), k6, G6, ok6, by omega, by omega, h6, ht6, ?_, ?_⟩
            · unfold fl
              omega
            · unfold fl
              omega
        · obtain ⟨ps, hg, ha⟩ := id G5
          refine ⟨_, rfl, _, rfl, g, ps, rfl, .inr hg, _, _, rfl, rfl, _, _, rfl, rfl, .inl ⟨by decide, by decide⟩, _, _, rfl, rfl, ?_⟩
          rw [ha.len]
          refine ⟨_, rfl, p, c, _, 2, rfl, P5, by omega, by decide, by decide, fun d2 H6 d20 d21 P6 B6 => ?_⟩
          have f6 := Firm.pen B6 P5
          refine ⟨_, _, rfl, rfl, ?_⟩
          exact ⟨_, _, g, gs, _, rfl, P6.more (by omega), k5.trans B6, G5.firm f6, ok2, by omega, Nat.le_refl _, B6 _ _ h5 Dp_, firm_seq f6 ht5, by omega, by omega⟩
      · rintro σ H5 ⟨y7, x12, g', gs', wi, rfl, P5, k5, G5, ok5, l5, l5', h5, ht5, w0, w1⟩
        refine ⟨_, rfl, D, _, rfl, .inl ⟨SqL.of h5, fun t2 nt2 => ?_⟩⟩
        have s2 := same_new (u := .tup (nx.map V.int)) nt2
        intro o ho
        have so := same_new (u := .dK []) ho
        refine ⟨_, rfl, _, rfl, _, rfl, _, rfl, _, rfl, _, rfl, upd_same, ownD (i + r) i g' t t2 wi, rfl, (by show 6 ≤ 15; decide), ?_⟩
        rw [upd_upd]
        have so2 := same_new (u := .dK (ownD (i + r) i g' t t2 wi)) ho
        have s25 := s2.trans so2
        have n2 := (P5.same s2).free ho
        refine q _ o gs' rs nx wi (P5.same s25) (fun b o e ne => s25 _ _ (k5 _ _ e ne)) ⟨g', t, t2, upd_same, G5.firm (Firm.of s25), seqT_same s25 ht5, seqT_same so2 (SqT.of upd_same)⟩
          ⟨i0, by omega, by omega, ok5, l5, by omega, rb, by omega, fun z hz => ?_, w0, w1⟩ n2.1 n2.2
        obtain ⟨a, b⟩ := nb z hz
        exact ⟨a, by omega⟩
def spTick (K : PySem.W.Frag) : Sp := fun vs H Q _ => ∃ (o b1 b2 : Addr) (n i : Int) (gs : List (Int × Int)) (rs nx : List Int) (wi : Int) (st ins : List Int), vs = [.ref o, .ref b1, .ref b2] ∧ OwnAt K H o n i gs rs nx wi ∧ OwnOk n i gs rs nx wi ∧ SqT K H b1 (st.map V.int) ∧ SqT K H b2 (ins.map V.int) ∧
  B01 (ins ++ st) ∧ ((ins ++ st).length : Int) = n ∧ ∀ (H' : Hp) (t t1 : Addr), Same H H' → H' t = some (.tup [.ref t1, .int (lit (vals (ins ++ st) gs) wi)]) → H' t1 = some (.tup ((nx.map fun l => lit (vals (ins ++ st) gs) l).map V.int)) → Q (.ref t) H'
/-- clauses of a machine's own registers -/
structure StC (r : Int) (cl : List Int) : Prop where
  len : (cl.length : Int) ≤ r
  ok : ∀ z ∈ cl, z ≠ 0 ∧ (z.natAbs : Int) ≤ r
def spClause (K : PySem.W.Frag) : Sp := fun vs H Q _ => ∃ (p c : Addr) (k : Nat) (r : Int), vs = [.ref p, .int r] ∧ PenC H p c k ∧ k ≤ 1000000 ∧ 0 ≤ r ∧ r ≤ 4 ∧
  ∀ (H' : Hp) (t : Addr) (cl : List Int), PenC H' p c (k + 4) → But p H H' → H' t = some (.tup (cl.map V.int)) → StC r cl → Q (.ref t) H'
section
variable {o g t1 t2 : Addr} {n i wi : Int} {H : Hp}
theorem og_leaves (h : H o = some (.dK (ownD n i g t1 t2 wi))) : DGet H o (.str "leaves") (some (.int n)) := DGet.k (k := .inr "leaves") h
theorem og_gates (h : H o = some (.dK (ownD n i g t1 t2 wi))) : DGet H o (.str "gates") (some (.ref g)) := DGet.k (k := .inr "gates") h
theorem og_inputs (h : H o = some (.dK (ownD n i g t1 t2 wi))) : DGet H o (.str "inputs") (some (.int i)) := DGet.k (k := .inr "inputs") h
theorem og_resets (h : H o = some (.dK (ownD n i g t1 t2 wi))) : DGet H o (.str "resets") (some (.ref t1)) := DGet.k (k := .inr "resets") h
theorem og_nexts (h : H o = some (.dK (ownD n i g t1 t2 wi))) : DGet H o (.str "nexts") (some (.ref t2)) := DGet.k (k := .inr "nexts") h
theorem og_wish (h : H o = some (.dK (ownD n i g t1 t2 wi))) : DGet H o (.str "wish") (some (.int wi)) := DGet.k (k := .inr "wish") h
theorem op_nexts {t3 : Addr} (h : H o = some (.dK (ownD n i g t1 t2 wi))) : DPut H o (.str "nexts") (.ref t3) (upd H o (.dK (ownD n i g t1 t3 wi))) := DPut.k (k := .inr "nexts") h (by decide : 6 < sizeLine)
end
abbrev tiN : List Str := ["_law_machine", "_law_state", "_law_bits", "_law_found", "_law_literal"]
abbrev scN : List Str := ["_law_pen_here", "_law_registers", "_law_found", "_law_k", "_law_way"]
theorem scTick : FnScope tiN ["_law_machine", "_law_state", "_law_bits"] (defScope sTick) := ⟨rfl, rfl, rfl, by decide +kernel, rfl, by decide +kernel, by decide +kernel⟩
theorem ok_tick {fV fB : Addr} {dV dB : FuncData} (F : FnP K "_law_tick" sTick f fd) (T : Lc.Tx mg) (FV : FnP K "_law_values" sValues fV dV) (gV : mg "_law_values" = some (.ref fV)) (FB : FnP K "_law_bit" sBit fB dB) (gB : mg "_law_bit" = some (.ref fB)) :
    FnOk P w K mg base CX0 3 f fd ["_law_machine", "_law_state", "_law_bits"] (spTick K) := by
  have GV : FnOk P w K mg base CX0 2 fV dV ["_law_leaves", "_law_gates", "_law_bits"] (spValues K) := ok_values FV T.lf FB gB
  have bV : Binds K dV ["_law_leaves", "_law_gates", "_law_bits"] [] := FV.bindsN fun _ _ _ _ _ _ us hl => match us, hl with | [_, _, _], _ => rfl
  have GB : FnOk P w K mg base CX0 1 fB dB ["_law_found", "_law_literal"] (spBit K) := ok_bit FB T.lf
  have bB : Binds K dB ["_law_found", "_law_literal"] [] := FB.bindsN fun _ _ _ _ _ _ us hl => match us, hl with | [_, _], _ => rfl
  refine F.ok scTick (fun vs H Q E h => ?_) (fun cdv A outer s H vs Q E hr h => ?_)
  · obtain ⟨o, b1, b2, n, i, gs, rs, nx, wi, st, ins, rfl, _⟩ := h
    rfl
  · obtain ⟨o, b1, b2, n, i, gs, rs, nx, wi, st, ins, rfl, hO, ok, hb1, hb2, h01, hn, q⟩ := h
    have hu := hu_of hr
    have hr1 := hr.mono (j := 1) (by decide)
    refine ⟨_, PSs.nox (pss_cons (ps_set (i := 3) scTick.nd rfl (Or.inr rfl) (pe_call GV hr (by rfl) gV FV.kp bV .nil pass0 (pa_cons (pe_dget hu (pv 0) pe_str (fun _ _ => rfl)) (pa_cons (pe_dget hu (pv 0) pe_str (fun _ _ => rfl))
        (pa_cons (pe_op op_catA (pe_callTy call_tuple_of (by rfl) T.lf.tuple (by decide +kernel) (pa_cons (pv 2) pa_nil)) (pe_callTy call_tuple_of (by rfl) T.lf.tuple (by decide +kernel) (pa_cons (pv 1) pa_nil))) pa_nil)))))
      (pss_one (ps_ret (pe_tup (pa_cons (pe_callTy call_tuple_of (by rfl) T.lf.tuple (by decide +kernel) (pa_cons
        (pe_lc (own := [("_law_literal", 4)]) (g := gName 4) (tt := tYes) rfl scTick.nd (pi_tup (pe_dget hu (pv 0) pe_str (fun _ _ => rfl))) (blkOk_by (N := tiN) (sc := defScope sTick) (by decide +kernel)) (fun _ _ _ _ _ => pg_name (i := 4) scTick.nd rfl (Or.inl rfl)) (fun _ _ _ _ _ => pts_nil)
          (fun _ _ _ _ _ => pe_call GB hr1 (by rfl) gB FB.kp bB .nil pass0 (pa_cons (pv 3) (pa_cons (pv 4) pa_nil)))) pa_nil))
        (pa_cons (pe_call GB hr1 (by rfl) gB FB.kp bB .nil pass0 (pa_cons (pv 3) (pa_cons (pe_dget hu (pv 0) pe_str (fun _ _ => rfl)) pa_nil))) pa_nil)))))), ?_⟩
    obtain ⟨g, t1, t2, ho, G, h1, h2⟩ := hO
    have gl := ok.glen
    have n7 := ok.n7
    have wl : (ins ++ st).length ≤ 7 := by omega
    have vl := vals_len (ins ++ st) gs
    refine ⟨_, rfl, o, _, rfl, og_leaves ho, _, rfl, o, _, rfl, og_gates ho, _, rfl, b2, _, rfl, .inr ⟨hb2, _, rfl, b1, _, rfl, .inr ⟨hb1, ?_⟩⟩⟩
    refine cat_use (K := K) hb2 hb1 (by rw [List.length_map, List.length_map, ← List.length_append]; exact Nat.le_trans wl (by decide)) fun t H1 s1 hw => ?_
    rw [← List.map_append] at hw
    refine ⟨.int n, g, t, gs, ins ++ st, rfl, G.firm (Firm.of s1), hw, h01, by rw [hn]; exact ok.gok, by omega, by omega, fun H2 l s2 nl hl => ?_⟩
    have s12 := s1.trans s2
    have ho2 := s12 _ _ ho
    have hx2 := seqT_same s12 h2
    have nb := ok.nb
    have n0 : 0 ≤ n := Int.le_trans ok.i0 ok.i1
    refine ⟨_, rfl, o, _, rfl, og_nexts ho2, t2, rfl, ⟨_, hx2⟩, fun D nD => ?_⟩
    refine lc_tup (K := K) (a := t2) (xs := nx.map V.int) (fun k H3 => Same H2 H3 ∧ H3 D = some (.lst (((nx.take k).map fun z => lit (vals (ins ++ st) gs) z).map V.int))) ⟨same_new nD, upd_same⟩ (fun k H3 _ ⟨s3, _⟩ => seqT_same s3 hx2) ?_ ?_
    · rintro k y H3 hk ⟨s3, h3⟩
      obtain ⟨z, rfl, hz1⟩ := int_at hk
      obtain ⟨z0, z1⟩ := nb z (List.mem_of_getElem? hz1)
      refine ⟨rfl, yes_of ?_⟩
      refine ⟨_, rfl, _, rfl, l, _, z, rfl, SqL.of (s3 _ _ hl), z0, by omega, ?_⟩
      refine ⟨_, h3, ?_, fun b o e => ?_, ?_⟩
      · rw [List.length_map, List.length_map]
        have nl := ok.nl
        have i0 := ok.i0
        exact Nat.lt_of_le_of_lt (List.length_take_le' _ _) (Nat.lt_of_lt_of_le (by omega : nx.length < 100) (by decide))
      · rw [upd_ne (ne_of_none e nD)]
        exact s3 _ _ e
      · rw [upd_same, take_more hz1, List.map_append, List.map_append]
        rfl
    · rintro H3 ⟨s3, h3⟩
      rw [List.length_map, List.take_length] at h3
      refine ⟨D, _, rfl, .inl ⟨SqL.of h3, fun t9 nt9 => ?_⟩⟩
      have s4 := same_new (u := .tup ((nx.map fun z => lit (vals (ins ++ st) gs) z).map V.int)) nt9
      have s34 := s3.trans s4
      have w0 := ok.w0
      have w1 := ok.w1
      refine ⟨_, rfl, _, rfl, o, _, rfl, og_wish (s34 _ _ ho2), l, _, wi, rfl, SqL.of (s34 _ _ hl), w0, by omega, ?_⟩
      refine ⟨(by show 2 ≤ sizeLine; decide), fun t8 nt8 => ?_⟩
      have s5 := same_new (u := .tup [V.ref t9, V.int (lit (vals (ins ++ st) gs) wi)]) nt8
      exact q _ t8 t9 (s12.trans (s34.trans s5)) upd_same (s5 _ _ upd_same)
end
end Dm
namespace Yd
open PySem PySem.Spec PyProof.Rows L2 Wy
/-! ## repr of a value that may be a dict of one pair of ints -/
def D1 (i j : Int) : PyData := .dict [(.int i, .int j)]
/-- repr of v reads x -/
def Says (K : PySem.W.Frag) (H : Hp) (v : V) (x : Str) : Prop :=
  (∃ d, Dp K H v d ∧ d.showable = true ∧ d.hasDict = false ∧ d.depth ≤ 60 ∧ d.shown.length ≤ sizeLine ∧ x = d.shown) ∨
  ∃ (a : Addr) (i j : Int), v = .ref a ∧ H a = some (.dK [(.inl i, .int j)]) ∧ (D1 i j).showable = true ∧ (D1 i j).shown.length ≤ sizeLine ∧ x = (D1 i j).shown
theorem dict_reads {P : Program} {w : World} {H : Hp} {h : Heap} {a : Addr} {i j : Int} (ok : HOk P w H h) (e : H a = some (.dK [(.inl i, .int j)])) : ∃ as, Reads h (.ref a) (D1 i j) as ∧ sysModules ∉ as := by
  obtain ⟨_, ns, vs, kv, o, es, ep, ho, ex, hd, _, ps, _⟩ := (show ObjOk P w H h a (.dK [(.inl i, .int j)]) from ok a _ e)
  obtain ⟨k, u, rfl, e1, r2⟩ : ∃ k u, vs = [(k, u)] ∧ (Sum.inl i : Key) = k ∧ RelV (.int j) u := by
    cases kv with
    | cons r1 rest =>
      cases rest
      exact ⟨_, _, rfl, r1.1, r1.2⟩
  subst e1
  obtain ⟨t2, rfl⟩ := (show ∃ t, u = Value.int j t from r2)
  generalize hl : es.toList = el at ps
  cases ps with
  | cons hk hv hr =>
    rename_i en er
    cases hr
    rcases keyIs_shape (show keyIs (Sum.inl i) en.key = true from hk) with ⟨i', t1, e2, ek⟩ | ⟨x, t1, e2, _⟩
    · cases e2
      have hv : en.val = Value.int j t2 := hv
      refine ⟨_, .dict (kvs := [(.int i, .int j)]) ho ex.1 hd (by rw [hl]; show ReadsAll h [en.key] [.int i] _; rw [ek]; exact .cons (.int i t1) .nil) (by rw [hl]; show ReadsAll h [en.val] [.int j] _; rw [hv]; exact .cons (.int j t2) .nil), ?_⟩
      have na : a ≠ sysModules := beq_eq_false_iff_ne.mp ns
      simpa using Ne.symm na
    · cases e2
theorem d1_depth (i j : Int) : (D1 i j).depth ≤ 2 := by simp [D1, PyData.depth, PyData.depthAll, PyData.depthKv]
/-- repr(x) -/
def rSays (K : PySem.W.Frag) : List V → Hp → VK → Prop := fun xs H Q => ∃ (v : V) (x : Str), xs = [v] ∧ Says K H v x ∧ Q (.str x) H
theorem call_says {X : Cx} {K : PySem.W.Frag} (hK : X.K = K) (hg : X.A.guards = some []) (hu : X.A.units + 100 < cLine) : CallR X (.builtin "repr") (rSays K) := by
  subst hK
  intro pins s σ H xs us Q I r h
  obtain ⟨v, x, rfl, h, q⟩ := h
  rcases h with ⟨d, h1, h2, h3, h4, h5, rfl⟩ | ⟨a, i, j, rfl, h1, h2, h3, rfl⟩
  · exact call_repU hg hu pins s σ H _ us Q I r ⟨v, d, rfl, h1, h2, h3, h4, h5, q⟩
  · obtain ⟨u, rfl, ru⟩ := vals1 r
    cases (show u = Value.ref a from ru)
    obtain ⟨as, rd, ns⟩ := dict_reads I.hok h1
    exact repr_of_reads' rd h2 (fun _ => ns) hg (by have := d1_depth i j; omega) (fun _ _ e => e) (fun h' t tk hk => ⟨.str _, H, I.kept hk, ⟨t, rfl⟩, q⟩) h3
end Yd
namespace Yh
open PySem PySem.Spec PyProof.Rows L2 LamX Pen Wy Yd
/-! ## The def that tells what a call raised -/
theorem len3 {a b c : V} : [a, b, c].length ≤ sizeLine := (by decide : 3 ≤ sizeLine)
theorem len2 {a b : V} : [a, b].length ≤ sizeLine := (by decide : 2 ≤ sizeLine)
/-- what the telling def asks of the exception -/
def WhyE (K : PySem.W.Frag) (CN CR : Addr) (Q : VK) : XK := fun cls d H1 => ∃ dd fs, d = some dd ∧ H1 dd = some (.xd fs) ∧
  ((cls = .ref CN ∧ ∃ (m : Str) (v : V) (x : Str), fs.lookup ("what" : Str) = some (.str m) ∧ fs.lookup ("number" : Str) = some v ∧ Says K H1 v x ∧ ∀ t, H1 t = none → Q (.ref t) (upd H1 t (.tup [.str "number", .str m, .str x]))) ∨
   (cls = .ref CR ∧ ∃ (v : V) (x : Str), fs.lookup ("row" : Str) = some v ∧ Says K H1 v x ∧ ∀ t, H1 t = none → Q (.ref t) (upd H1 t (.tup [.str "row", .str x]))))
/-- what it makes of the call's reading -/
def TWhy (K : PySem.W.Frag) (CN CR : Addr) : (XK → Hp → VK → Prop) → Hp → VK → Prop := fun tl H Q => tl (WhyE K CN CR Q) H fun _ H1 => Q .non H1
abbrev yN : List Str := ["_law_call", "e"]
theorem scWhy : FnScope yN ["_law_call"] (defScope sWhy) := ⟨rfl, rfl, rfl, by decide +kernel, rfl, by decide +kernel, by decide +kernel⟩
structure Tw (K : PySem.W.Frag) (mg : Str → Option Value) (CN CR : Addr) : Prop where
  mN : mg "BadNumber" = some (.ref CN)
  mR : mg "BadRow" = some (.ref CR)
  nn : PySem.W.exmOne K (.ref CN) (.ref CN) = some true
  rn : PySem.W.exmOne K (.ref CR) (.ref CN) = some false
  rr : PySem.W.exmOne K (.ref CR) (.ref CR) = some true
  xN : XfC K CN
  xR : XfC K CR
  nw : NoAttr K CN "what"
  nb : NoAttr K CN "number"
  nr : NoAttr K CR "row"
  rep : mg "repr" = none
abbrev whyX (X : Cx) (g : Addr) (cdg : Value) (s : Shared) (H : Hp) : Cx := (cxOf C8.CX0 X.prog X.w X.K X.mg X.base yN "_law_why" (defScope sWhy) g cdg X.A X.stack s H C8.E0).nox
theorem why_gives {X : Cx} {q : Str} {g CN CR : Addr} {cdg : Value} {k : Nat} (T : Tw X.K X.mg CN CR) (hg : X.A.guards = some []) (hr : Room (k + 1) X.A) : GivesTo X yN "_law_why" (defScope sWhy) g cdg (defBody sWhy) "_law_call" q (TWhy X.K CN CR) := by
  intro f c' s H Q tl act hc h
  have un := hr.un
  refine ⟨_, pss_cons (ps_try_all (i := 1) (n := "e") (X := whyX X g cdg s H)
      (tb := fun W D σ H => ∃ Ech : XK, (∀ cls d σ' H', Ech cls d H' → W cls d σ' H') ∧ σ[0]? = some (some (.ref f)) ∧ H c' = some (CodeO c' q) ∧ tl Ech H fun _ H1 => D.nx σ H1)
      rfl rfl scWhy.nd rfl (by rfl) takes0 (fun W pn xe tk _ => ?_)
      (.cons (c := .ref CN) ⟨by rfl, by decide, .inl T.mN⟩ (fun a oe cls d pn hz hf => pss_one (ps_ret (pe_tup (pa_cons pe_str (pa_cons (pe_xfK T.xN rfl T.nw hz hf (pv 1) rfl) (pa_cons (pe_callB (id := "repr") (r := rSays X.K) (call_says (X := (whyX X g cdg s H).suite a ((a, oe) :: pn)) (K := X.K) rfl hg (by show X.A.units + 3 + 100 < cLine; omega)) (by rfl) T.rep (by decide +kernel) (pa_cons (pe_xfK T.xN rfl T.nb hz hf (pv 1) rfl) pa_nil)) pa_nil))))))
      (.cons (c := .ref CR) ⟨by rfl, by decide, .inl T.mR⟩ (fun a oe cls d pn hz hf => pss_one (ps_ret (pe_tup (pa_cons pe_str (pa_cons (pe_callB (id := "repr") (r := rSays X.K) (call_says (X := (whyX X g cdg s H).suite a ((a, oe) :: pn)) (K := X.K) rfl hg (by show X.A.units + 3 + 100 < cLine; omega)) (by rfl) T.rep (by decide +kernel) (pa_cons (pe_xfK T.xR rfl T.nr hz hf (pv 1) rfl) pa_nil)) pa_nil)))))
      .nil)))
    (pss_one (ps_ret pe_non)), ?_⟩
  · refine ⟨fun pins s' σ H' D I h' => ?_⟩
    obtain ⟨Ech, hW, h1, h2, h3⟩ := h'
    exact (pss_one (ps_expr (act W pn xe Ech _ _ tk hW))).run pins s' σ H' D I ⟨h1, h2, h3⟩
  · refine ⟨_, fun cls d σ' H1 x lz => ?_, rfl, hc, h⟩
    obtain ⟨dd, fs, rfl, hd, x⟩ := x
    obtain ⟨w0, w1, rfl⟩ : ∃ w0 w1 : Option V, σ' = [w0, w1] := match σ', lz with | [w0, w1], _ => ⟨w0, w1, rfl⟩
    rcases x with ⟨rfl, m, v, dat, f1, f2, tl, q⟩ | ⟨rfl, v, dat, f2, tl, q⟩
    · refine ⟨true, T.nn, fun _ a na => ?_, fun z => by cases z⟩
      refine ⟨_, rfl, rfl, rfl, dd, fs, .str m, rfl, hd, f1, ?_⟩
      exact ⟨_, rfl, rfl, rfl, dd, fs, v, rfl, hd, f2, v, dat, rfl, tl, len3, q⟩
    · refine ⟨false, T.rn, (fun z => by cases z), fun _ => ⟨true, T.rr, fun _ a na => ?_, fun z => by cases z⟩⟩
      exact ⟨_, rfl, rfl, rfl, dd, fs, v, rfl, hd, f2, v, dat, rfl, tl, len2, q⟩
end Yh
namespace Yt
open PySem PySem.Spec PyProof.Rows L2 LamX Gd Wy
/-! ## A law that holds a lambda: its table; it may call repr -/
/-- from the def's body; its code object is told -/
theorem mk_ofC {P : Program} {w : World} {K : PySem.W.Frag} {mg : Str → Option Value} {base : Heap} {CX : CXT} {k : Nat} {f : Addr} {fd : FuncData} {ps : List Str} {sp : Sp} {x qual : Str} {params : Arguments} {body : List Stmt} {scope : Scope} {dvs : List V} {kws : List (Str × V)} {N : List Str}
    (F : FunD K x qual params body scope dvs kws f fd) (S : FnScope N ps scope) (many : ∀ vs H Q E, sp vs H Q E → vs.length = ps.length)
    (walk : ∀ (cv : Value) (A : Around) (fs : List Env) (s : Shared) (H : Hp) (vs : List V) (Q : VK) (E : XK), fd.code = cv → A.guards = some [] → Room k (A.deeper (envOfC qual scope s.heap.objs.size f cv)) → sp vs H Q E →
      ∃ t, PSs (cxOf CX P w K mg base N qual scope f cv A fs s H E) body t ∧ t { nx := fun _ H' => Q .non H', rt := Q } (L2.start N vs) H) :
    FnG P w K mg base CX (k + 1) f fd ps sp := by
  obtain ⟨_, _, _, _, _, _, _, cv, _, _, rfl, look, code, d1, d2⟩ := F.ex
  refine ⟨many, fun A fs s H ag us vs Q E hg room e bind rel prom => ?_⟩
  have kin : K.In s.heap := e.mod.kin.keeps fun b u z => (e.bs b u z).1
  have kinds : ∀ y ∈ ps.zip us, scope.names.lookup y.1 = some .local ∨ (scope.names.lookup y.1 = some .cell ∧ ((cellsFrom (s.heap.objs.size + 1) scope.names []).lookup y.1).isSome = true) := by
    rintro ⟨y, u⟩ hy
    rcases S.par y (List.of_mem_zip hy).1 with q | q
    · exact Or.inl q
    · exact Or.inr ⟨q, PySem.W.cellsFrom_some _ _ _ (Or.inl q)⟩
  refine codeAny_call_function room.depth (kin _ _ look) rfl S.co S.gen rfl (PySem.W.codeRec_of kin code) (bind _ _ _ _ ?_)
  refine wpAny_newFunctionEnv_cells S.kind kinds ?_
  rintro env rfl s1 hs1
  refine ⟨(e.mod.nolimit.keeps fun b u z => (e.bs b u z).1).keeps hs1.toInCall.keep, codeAny_func ?_⟩
  obtain ⟨t, ht, q⟩ := walk cv A fs s H vs Q E rfl hg (room.deeper _) prom
  have I := inv_start (CX := CX) (E := E) S room.hd e (many _ _ _ _ prom) rel hs1
  refine wpAny_mono (ht.run [] s1 (L2.start N vs) H _ I q) (fun fl s2 z => ?_) (fun _ _ z => z)
  match fl, z with
  | .ret u, ⟨v, σ', H', J, rv, q⟩ => exact ⟨v, H', J.os, J.bare, J.base, J.hok, rv, q⟩
  | .next, ⟨σ', H', J, q⟩ => exact ⟨V.non, H', J.os, J.bare, J.base, J.hok, rfl, q⟩
  | .brk, ⟨_, _, _, q⟩ => exact q.elim
  | .cont, ⟨_, _, _, q⟩ => exact q.elim
abbrev none_ : Obj := { cls := .none, data := .fields #[] }
/-- the heap in which the script, if the top did not write it, and the law's table are tracked -/
def scrT (K : PySem.W.Frag) (a T : Addr) (vs : List Value) (ns : List Int) : Hp := fun b => if b = T then some (.tbl #[]) else onlyScr K a vs ns b
theorem scrT_get {K : PySem.W.Frag} {a T b : Addr} {vs : List Value} {ns : List Int} {o : HO} (h : scrT K a T vs ns b = some o) : (b = T ∧ o = .tbl #[]) ∨ (b ≠ T ∧ b = a ∧ K.lookup a = none ∧ o = .frz (scr vs) (.lst (ns.map V.int))) := by
  unfold scrT at h
  by_cases e : b = T
  · rw [if_pos e] at h
    exact .inl ⟨e, (Option.some.inj h).symm⟩
  · rw [if_neg e] at h
    exact .inr ⟨e, onlyScr_get h⟩
theorem law_goT {P : Program} {w : World} {K : PySem.W.Frag} {mg mb : Str → Option Value} {CX : CXT} {k : Nat} {f a c T : Addr} {fd : FuncData} {x : Str} {sp : Sp} {s : Shared} {vs : List Value} {ns : List Int}
    (kin : K.In s.heap) (hm : s.heap.Ns mainGlobals mg) (hb : s.heap.Ns builtinsNs mb) (hbb : ∀ y : Str, y ≠ "__name__" → mb y = bootBuiltins y) (lim : s.heap.NoLimit) (hgen : s.gens = #[])
    (tab : s.heap.get? T = some none_) (out : K.lookup T = none) (hd : PySem.W.codeHdIn K c T = true) (bmain : ∃ (bm : Addr) (ob : Obj), mg "__builtins__" = some (.ref bm) ∧ bm ≠ builtinsNs ∧ s.heap.get? bm = some ob ∧ ob.cls = .type "module" ∧ ob.dict = some builtinsNs ∧ ob.data = .plain)
    (ha : s.heap.get? a = some (scr vs)) (hi : IntsAre vs ns) (hl : ns.length ≤ sizeLine) (hr : Room k callerA)
    (F : ∀ base : Heap, K.In base → base.Ns mainGlobals mg → TabB base mg c T → FnG P w K mg base CX k f fd [x] sp) (bind : ∀ (s : Shared) (u : Value), BindsTo s fd ⟨[u], []⟩ [(x, u)])
    (prom : ∀ H : Hp, H T = some (.tbl #[]) → SqL K H a (ns.map V.int) → sp [.ref a] H (fun v _ => v = .bl true) fun _ _ _ => False)
    (none_out : ∀ H e s', CX [] H s (fun _ _ _ => False) e s' → False) :
    codeAny (model P w) callerA (.call (.ref f) ⟨[.ref a], []⟩) (fun r s' => r = .ok (.ret (.bool true)) ∧ OldK s.heap s'.heap ∧ s'.os = s.os ∧ AllBare s'.gens) s := by
  have hv := vals_ints hi
  have hlen := hi.length
  have aT : a ≠ T := fun z => by
    rw [z, tab] at ha
    cases ha
  let H := scrT K a T vs ns
  have hT : H T = some (.tbl #[]) := if_pos rfl
  have gone : ∀ {b : Addr} {o : Obj}, K.lookup b = some o → H b = none := fun {b o} q => by
    cases e : H b with
    | none => rfl
    | some u =>
      rcases scrT_get e with ⟨rfl, _⟩ | ⟨_, rfl, n, _⟩
      · rw [out] at q
        cases q
      · rw [n] at q
        cases q
  have free : ∀ {b : Addr} {o : Obj}, s.heap.get? b = some o → (∀ (u : Array Value) (n : Nat), o.data ≠ .seq u n) → (∀ u, o.data ≠ .fields u) → H b = none := fun {b o} q d1 d2 => by
    cases e : H b with
    | none => rfl
    | some u =>
      rcases scrT_get e with ⟨rfl, _⟩ | ⟨_, rfl, _, _⟩
      · rw [tab] at q
        cases q
        exact (d2 _ rfl).elim
      · rw [ha] at q
        cases q
        exact (d1 _ _ rfl).elim
  have stays : ∀ {b : Addr} {m : Str → Option Value}, s.heap.Ns b m → (hidT s.heap H).Ns b m := fun ⟨o, es, ep, q, d, r⟩ =>
    ⟨o, es, ep, hidT_get q (free q (fun _ _ z => by rw [d] at z; cases z) fun _ z => by rw [d] at z; cases z), d, r⟩
  have kinT : K.In (hidT s.heap H) := fun b o q => hidT_get (kin b o q) (gone q)
  have hok : HOk P w H s.heap := fun b u q => by
    rcases scrT_get q with ⟨rfl, rfl⟩ | ⟨_, rfl, _, rfl⟩
    · exact tab
    · exact ⟨ha, by rw [List.length_map]; exact hl, vs, _, hv, ha⟩
  have hS : SqL K H a (ns.map V.int) := by
    cases e : K.lookup a with
    | none => exact .inl (.inr ⟨scr vs, (if_neg aT).trans (if_pos ⟨rfl, by rw [e]; rfl⟩)⟩)
    | some o =>
      have q := kin a o e
      rw [ha] at q
      cases q
      exact .inr ⟨_, vs.toArray, _, e, rfl, rfl, rfl, by rw [List.size_toArray, hlen]; exact hl, by simpa using hv⟩
  have notG : mainGlobals ≠ T := fun z => by
    obtain ⟨o, es, ep, q, d, _⟩ := hm
    rw [z, tab] at q
    cases q
    cases d
  have TB : TabB (hidT s.heap H) mg c T := by
    obtain ⟨bm, ob, b1, b2, b3, b4, b5, b6⟩ := bmain
    refine ⟨PySem.W.codeHd_of_K kinT hd, ⟨bm, ob, b1, b2, fun z => ?_, fun z => ?_, hidT_get b3 (free b3 (fun _ _ z => by rw [b6] at z; cases z) fun _ z => by rw [b6] at z; cases z), b4, b5, b6⟩, notG⟩
    · obtain ⟨o, es, ep, q, d, _⟩ := hm
      rw [z, q] at b3
      cases b3
      rw [d] at b6
      cases b6
    · rw [z, tab] at b3
      cases b3
      cases b6
  obtain ⟨mc, l1, l2⟩ := lim
  have e0 : Env0 P w K mg (hidT s.heap H) callerA [] s H := by
    refine ⟨rfl, ⟨kinT, stays hm, ⟨mb, stays hb, hbb⟩, ⟨mc, stays l1, l2⟩⟩, fun b o q => of_hidT q, Nat.le_of_eq (hidT_size _ _), trivial, fun b q => ?_, hok, .of_eq hgen⟩
    cases q
  refine codeAny_mono ((F _ kinT (stays hm) TB).go callerA [] s H ⟨[.ref a], []⟩ [.ref a] [.ref a] _ _ rfl hr e0 (bind s (.ref a)) (.cons rfl .nil) (prom H hT hS)) fun r s' h => ?_
  match r, h with
  | .error e, h => exact (none_out H e s' h).elim
  | .ok .next, h => exact h.elim
  | .ok .brk, h => exact h.elim
  | .ok .cont, h => exact h.elim
  | .ok (.ret u), ⟨v, H', os, bare, un, hok', rv, q⟩ =>
    have q' : v = .bl true := q
    subst q'
    have hu : u = Value.bool true := rv
    subst hu
    have rest : ∀ b o, b ≠ T → s.heap.get? b = some o → s'.heap.get? b = some o := fun b o nb z => by
      cases e : H b with
      | none => exact un.keep b o z e (by intro y; cases y) (by simp)
      | some t =>
        rcases scrT_get e with ⟨y, _⟩ | ⟨_, rfl, _, rfl⟩
        · exact absurd y nb
        · rw [ha] at z
          cases z
          exact (hok' b _ (un.frzs b _ _ e)).1
    obtain ⟨more, grown⟩ := un.tbls T #[] hT
    have hT2 : s'.heap.get? T = some { cls := .none, data := .fields (#[] ++ more) } := hok' T _ grown
    refine ⟨rfl, ⟨fun b o z => ?_, fun b o z => ?_⟩, os, bare⟩
    · by_cases nb : b = T
      · subst nb
        rw [tab] at z
        cases z
        exact .inr (.inl ⟨((PySem.W.codeHd_of_K kin hd).tab tab).isCodeTable, rfl, #[], more, rfl, hT2⟩)
      · exact .inl (rest b o nb z)
    · by_cases nb : b = T
      · subst nb
        exact ⟨_, hT2⟩
      · exact ⟨o, rest b o nb z⟩
theorem walk_goT {l : PySem.W.OpenLaw} {n k : Nat} {q : Program} {loose : List Str} {XP : (Str → Option Value) → Heap → Prop} {YP : World → Heap → Prop} {d : DefRec} {CX : World → CXT} {x : Str}
    (hn : l.most = some n) (hn2 : n ≤ sizeLine) (hdf : d.params.defaults = []) (hr : Room k callerA)
    (F : ∀ (w : World) (mg : Str → Option Value) (f : Addr) (h : Heap), YP w h → h.Ns mainGlobals mg → mg d.name = some (.ref f) → ∃ (K : PySem.W.Frag) (fd : FuncData) (sp : Sp) (c T : Addr), K.In h ∧ h.get? T = some none_ ∧ K.lookup T = none ∧ PySem.W.codeHdIn K c T = true ∧ (∀ (s : Shared) (u : Value), BindsTo s fd ⟨[u], []⟩ [(x, u)]) ∧
      (∀ (H : Hp) (a : Addr) (ns : List Int), ns.length ≤ n → H T = some (.tbl #[]) → SqL K H a (ns.map V.int) → sp [.ref a] H (fun v _ => v = .bl true) fun _ _ _ => False) ∧ ∀ base : Heap, K.In base → base.Ns mainGlobals mg → TabB base mg c T → FnG l.prog w K mg base (CX w) k f fd [x] sp)
    (none_out : ∀ (w : World) (H : Hp) (s : Shared) (e : Value) (s' : Shared), CX w [] H s (fun _ _ _ => False) e s' → False) : PySem.W.WalkO q loose XP YP l.row.toRowW d [] (fun f vs => PySem.call f vs) :=
  Att.attach_call hn hdf fun w _ s _ _ f _ _ _ _ a _ ns G Y _ _ _ hmg hobj hints hlen hgen =>
    let ⟨_, _, _, _, _, kin, tab, out, hd, bind, prom, ok⟩ := F w _ f _ Y G.T.g hmg
    law_goT kin G.T.g G.T.b G.T.builtins G.T.nolimit hgen tab out hd G.T.bmain hobj hints (Nat.le_trans hlen hn2) hr ok bind (fun H hT hS => prom H a ns hlen hT hS) fun H e s' => none_out w H s e s'
end Yt
namespace Exo
open PySem PySem.Spec PyProof.Rows L2
/-! ## Own exceptions as values: made by a call, with or without an own __init__, their fields, isinstance -/
/-- the class at C: an own exception class over ValueError -/
def oexB (K : PySem.W.Frag) (C : Addr) : Bool := match K.lookup C with
  | some ⟨.type "type", _, .cls cd, sl⟩ =>
    (match cd.mro, sl.toList with
    | .ref D :: bm, [_, _, _, _, some (.builtin n), _] => (decide (D = C) && decide (n = "ValueError.__new__")) && ((!cd.hasDel && cd.hasDict) && PySem.HandSPX.refsVE bm)
    | _, _ => false)
  | _ => false
theorem and2 {a b : Bool} (h : (a && b) = true) : a = true ∧ b = true := Bool.and_eq_true_iff.mp h
theorem oexB_ok {K : PySem.W.Frag} {C : Addr} (h : oexB K C = true) :
    ∃ nm q N bs bm sn sub ab col dd k0 k1 k2 k3 k5, K.lookup C = some (excClassObj nm q C N bs bm true sn sub ab col dd k0 k1 k2 k3 k5 "ValueError.__new__") ∧ PySem.HandSPX.refsVE bm = true := by
  unfold oexB at h
  split at h
  · rename_i dd cd sl ho
    split at h
    · rename_i D bm k0 k1 k2 k3 n k5 hm hs
      obtain ⟨h1, h2⟩ := and2 h
      obtain ⟨e1, e2⟩ := and2 h1
      obtain ⟨h3, h4⟩ := and2 h2
      obtain ⟨e3, e4⟩ := and2 h3
      have e1 := of_decide_eq_true e1
      have e2 := of_decide_eq_true e2
      subst e1 e2
      obtain ⟨nm, bs, mro, ns, qn, hd, sn, sub, ab, col, del⟩ := cd
      dsimp only at hm e3 e4
      have e3 : del = false := by
        cases del with
        | false => rfl
        | true => cases e3
      subst hm e3 e4
      have hsl : sl = #[k0, k1, k2, k3, some (.builtin "ValueError.__new__"), k5] := by
        obtain ⟨l⟩ := sl
        have hs : l = _ := hs
        rw [hs]
      subst hsl
      exact ⟨nm, qn, ns, bs, bm, sn, sub, ab, col, dd, k0, k1, k2, k3, k5, ho, h4⟩
    · cases h
  · cases h
/-- all that is asked of such a class, decided -/
def okB (K : PySem.W.Frag) (C : Addr) : Bool :=
  (oexB K C && decide (PySem.W.findIn K (.ref C) "__setattr__" = some (some (.builtin "object.__setattr__")))) &&
  ((decide (PySem.W.subIn K (.ref C) (.type "BaseException") = some true) && decide (PySem.W.typeIn K (.ref C) = some (.type "type"))) &&
  ((PySem.W.keepIn K (.ref C) && decide (PySem.W.findIn K (.ref C) "__getattribute__" = some (some (.builtin "BaseException.__getattribute__")))) &&
  ((decide (PySem.W.findIn K (.ref C) "__getattr__" = some none) && PySem.W.hasDictIn K C) &&
  ((decide (PySem.W.findIn K (.ref C) "__class__" = some (some (.builtin "object.__class__"))) && decide (PySem.W.specialIn K (.builtin "object.__class__") "__get__" = some (some (.builtin "getset_descriptor.__get__")))) &&
  (decide (PySem.W.takesIn K (.builtin "object.__class__") = some true) && decide (PySem.W.mroIn K C (.type "object") = some true))))))
structure Cl (K : PySem.W.Frag) (C : Addr) : Prop where
  oe : OexC K C
  ex : ExcC K C
theorem okB_ok {K : PySem.W.Frag} {C : Addr} (h : okB K C = true) : Cl K C := by
  obtain ⟨h1, h⟩ := and2 h
  obtain ⟨a1, a2⟩ := and2 h1
  obtain ⟨h2, h⟩ := and2 h
  obtain ⟨a3, a4⟩ := and2 h2
  obtain ⟨h3, h⟩ := and2 h
  obtain ⟨a5, a6⟩ := and2 h3
  obtain ⟨h4, h⟩ := and2 h
  obtain ⟨a7, a8⟩ := and2 h4
  obtain ⟨h5, h6⟩ := and2 h
  obtain ⟨a9, b1⟩ := and2 h5
  obtain ⟨b2, b3⟩ := and2 h6
  exact ⟨⟨oexB_ok a1, of_decide_eq_true a2, of_decide_eq_true a3, of_decide_eq_true a4, a5⟩,
    ⟨of_decide_eq_true a6, of_decide_eq_true a7, of_decide_eq_true a3, a8, of_decide_eq_true a9, of_decide_eq_true b1, of_decide_eq_true b2, of_decide_eq_true b3⟩⟩
end Exo
namespace Zm
open PySem PySem.Spec PyProof.Rows L2 LamX Pen Dat Ki Fi Gr Wy Yg
/-! ## Machines: made, refused, compared -/
abbrev sNumI : Stmt := inClass cBadN 0
abbrev sRowI : Stmt := inClass cBadR 0
abbrev sMInit : Stmt := inClass cMach 0
abbrev sMEq : Stmt := inClass cMach 1
abbrev sUInit : Stmt := inClass cUnr 0
abbrev niN : List Str := ["self", "what", "number"]
abbrev riN : List Str := ["self", "row"]
abbrev miN : List Str := ["self", "graph", "inputs", "resets", "nexts", "wish", "most"]
abbrev mpN : List Str := ["self", "graph", "inputs", "resets", "nexts", "wish"]
theorem scNumI : FnScope niN niN (defScope sNumI) := ⟨rfl, rfl, rfl, by decide +kernel, rfl, by decide +kernel, by decide +kernel⟩
theorem scRowI : FnScope riN riN (defScope sRowI) := ⟨rfl, rfl, rfl, by decide +kernel, rfl, by decide +kernel, by decide +kernel⟩
theorem scMInit : FnScope miN mpN (defScope sMInit) := ⟨rfl, rfl, rfl, by decide +kernel, rfl, by decide +kernel, by decide +kernel⟩
def spNumI (C : Addr) : Sp := fun vs H Q _ => ∃ (a : Addr) (m v : V), vs = [.ref a, m, v] ∧ H a = some (exo a C none) ∧
  ∀ d, H d = none → d ≠ a → Q .non (upd (upd (upd H d (exd d [("what", m)])) a (exo a C (some d))) d (exd d [("number", v), ("what", m)]))
def spRowI (C : Addr) : Sp := fun vs H Q _ => ∃ (a : Addr) (v : V), vs = [.ref a, v] ∧ H a = some (exo a C none) ∧ ∀ d, H d = none → d ≠ a → Q .non (upd (upd H d (exd d [("row", v)])) a (exo a C (some d)))
/-- the exception that tells a wrong number, a wrong row -/
def Num (CN : Addr) (E : XK) (H : Hp) (m : Str) (v : V) : Prop := ∀ d H', Same H H' → H' d = some (.xd [("number", v), ("what", .str m)]) → E (.ref CN) (some d) H'
def Row (CR : Addr) (E : XK) (H : Hp) (v : V) : Prop := ∀ d H', Same H H' → H' d = some (.xd [("row", v)]) → E (.ref CR) (some d) H'
theorem del_keep {H H2 : Hp} {a d : Addr} {u : HO} (na : H a = none) (nd : H d = none) (s : ∀ b o, H b = some o → b ≠ a → b ≠ d → H2 b = some o) : Same H (upd (del H2 a) d u) := fun b o e => by
  have ha : b ≠ a := ne_of_none e na
  have hd : b ≠ d := ne_of_none e nd
  rw [upd_ne hd, del_ne ha]
  exact s b o e ha hd
theorem mk_num {σ : L2.St} {H : Hp} {Q : XK} {CN : Addr} {m : Str} {v : V} {te : TE} (hv : ∀ R : VK, R v H → te σ H R) (q : Num CN Q H m v) : tMkO CN (spNumI CN) [] (tCons (tC (.str m)) (tCons te tNil)) σ H Q := by
  refine hv _ ⟨(by show 2 ≤ 1000; decide), fun a na => ⟨a, .str m, v, rfl, upd_same, fun d nd dne => ?_⟩⟩
  rw [upd_ne dne] at nd
  refine ⟨rfl, d, _, by rw [upd_ne (Ne.symm dne), upd_same], upd_same, nd, q d _ (del_keep na nd fun b o e ha hd => ?_) upd_same⟩
  rw [upd_ne hd, upd_ne ha, upd_ne hd, upd_ne ha]
  exact e
theorem mk_row {σ : L2.St} {H : Hp} {Q : XK} {CR : Addr} {v : V} {te : TE} (hv : ∀ R : VK, R v H → te σ H R) (q : Row CR Q H v) : tMkO CR (spRowI CR) [] (tCons te tNil) σ H Q := by
  refine hv _ ⟨(by show 1 ≤ 1000; decide), fun a na => ⟨a, v, rfl, upd_same, fun d nd dne => ?_⟩⟩
  rw [upd_ne dne] at nd
  refine ⟨rfl, d, _, upd_same, by rw [upd_ne dne, upd_same], nd, q d _ (del_keep na nd fun b o e ha hd => ?_) upd_same⟩
  rw [upd_ne ha, upd_ne hd, upd_ne ha]
  exact e
/-- what is asked of an exception class, and of its __init__ -/
structure Xi (K : PySem.W.Frag) (C f : Addr) : Prop where
  oe : OexC K C
  ini : PySem.W.findIn K (.ref C) "__init__" = some (some (.ref f))
  fn : PySem.W.typeIn K (.ref f) = some (.type "function")
structure Tz (K : PySem.W.Frag) (mg : Str → Option Value) (C M CN CR fN fR : Addr) : Prop where
  gr : Gr.Tx K mg C
  why : Yg.Tw K mg CN CR
  n : Xi K CN fN
  r : Xi K CR fR
  cl : Cls K M
  nG : NoAttr K M "graph"
  nI : NoAttr K M "inputs"
  nR : NoAttr K M "resets"
  nN : NoAttr K M "nexts"
  nW : NoAttr K M "wish"
  mgM : mg "Machine" = some (.ref M)
section
variable {P : Program} {w : World} {K : PySem.W.Frag} {mg : Str → Option Value} {base : Heap} {f C M CN CR fN fR : Addr} {fd : FuncData}
theorem ok_numi (F : FunD K "__init__" "BadNumber.__init__" (defArgs sNumI) (defBody sNumI) (defScope sNumI) [] [] f fd) (T : Tz K mg C M CN CR fN fR) : FnOk P w K mg base CX0 1 f fd niN (spNumI CN) := by
  refine F.ok scNumI (fun vs H Q E h => ?_) (fun cdv A outer s H vs Q E hr h => ?_)
  · obtain ⟨a, m, v, rfl, _⟩ := h
    rfl
  · obtain ⟨a, m, v, rfl, ha, q⟩ := h
    refine ⟨_, PSs.nox (pss_cons (ps_ost (pv 0) (pv 1)) (pss_one (ps_ost (pv 0) (pv 2)))), ?_⟩
    refine ⟨_, rfl, _, rfl, a, CN, rfl, T.n.oe, T.why.nw, .inl ⟨ha, fun d hd dne => ?_⟩⟩
    exact ⟨_, rfl, _, rfl, a, CN, rfl, T.n.oe, T.why.nb, .inr ⟨d, _, upd_same, (by rw [upd_ne dne, upd_same]), (by show 1 ≤ 900; decide), q d hd dne⟩⟩
theorem ok_rowi (F : FunD K "__init__" "BadRow.__init__" (defArgs sRowI) (defBody sRowI) (defScope sRowI) [] [] f fd) (T : Tz K mg C M CN CR fN fR) : FnOk P w K mg base CX0 1 f fd riN (spRowI CR) := by
  refine F.ok scRowI (fun vs H Q E h => ?_) (fun cdv A outer s H vs Q E hr h => ?_)
  · obtain ⟨a, v, rfl, _⟩ := h
    rfl
  · obtain ⟨a, v, rfl, ha, q⟩ := h
    refine ⟨_, PSs.nox (pss_one (ps_ost (pv 0) (pv 1))), ?_⟩
    exact ⟨_, rfl, _, rfl, a, CR, rfl, T.r.oe, T.why.nr, .inl ⟨ha, fun d hd dne => q d hd dne⟩⟩
/-- a row of ints, a list or a tuple -/
def RowI (K : PySem.W.Frag) (H : Hp) (v : V) (ns : List Int) : Prop := ∃ r, v = .ref r ∧ (SqL K H r (ns.map V.int) ∨ SqT K H r (ns.map V.int))
/-- a machine -/
structure MA (K : PySem.W.Frag) (M : Addr) (H : Hp) (p x : Addr) (i wi : Int) (rs nx : List Int) : Prop where
  ex : ∃ dx fs t1 t2, H p = some (.ins M dx fs) ∧ fs.lookup ("graph" : Str) = some (.ref x) ∧ fs.lookup ("inputs" : Str) = some (.int i) ∧ fs.lookup ("resets" : Str) = some (.ref t1) ∧ fs.lookup ("nexts" : Str) = some (.ref t2) ∧
    fs.lookup ("wish" : Str) = some (.int wi) ∧ SqT K H t1 (rs.map V.int) ∧ SqT K H t2 (nx.map V.int)
def mst (n : Int) (gs : List (Int × Int)) : Int := 2 * (n + gs.length) + 1
def spMI (K : PySem.W.Frag) (C M CN CR : Addr) : Sp := fun vs H Q E => ∃ (p dx x : Addr) (n : Int) (gs : List (Int × Int)) (vi vr vn vw : V), vs = [.ref p, .ref x, vi, vr, vn, vw] ∧ H p = some (.ins M dx []) ∧ GraphAt K C H x n gs ∧
  ((∃ di, Dp K H vi di ∧ betD di 0 n = false ∧ Num CN E H "inputs" vi) ∨ ∃ i, vi = .int i ∧ 0 ≤ i ∧ i ≤ n ∧ ∃ dr, Dp K H vr dr ∧ (rowsD dr).length ≤ 1000 ∧
  ((rowB dr (n - i) 0 1 = false ∧ Row CR E H vr) ∨ (rowB dr (n - i) 0 1 = true ∧ ∃ dn, Dp K H vn dn ∧ (rowsD dn).length ≤ 1000 ∧
  ((rowB dn (n - i) 0 (mst n gs) = false ∧ Row CR E H vn) ∨ (rowB dn (n - i) 0 (mst n gs) = true ∧
  ((∃ dw, Dp K H vw dw ∧ betD dw 0 (mst n gs) = false ∧ Num CN E H "wish" vw) ∨ ∃ wi rs nx, vw = .int wi ∧ 0 ≤ wi ∧ wi ≤ mst n gs ∧ RowI K H vr rs ∧ RowI K H vn nx ∧
    ∀ H', (∀ b o, H b = some o → b ≠ p → H' b = some o) → MA K M H' p x i wi rs nx → Q .non H'))))))
theorem rowI_keep {p dx : Addr} {fs fs' : List (Str × V)} {H : Hp} {v : V} {ns : List Int} (hp : H p = some (.ins M dx fs)) (h : RowI K H v ns) : RowI K (upd H p (.ins M dx fs')) v ns := by
  obtain ⟨r, rfl, h⟩ := h
  refine ⟨r, rfl, ?_⟩
  have ne : ∀ {u : HO}, H r = some u → (∀ d f, u ≠ .ins M d f) → upd H p (.ins M dx fs') r = some u := fun {u} e no => by
    rw [upd_ne (fun z => by rw [z, hp] at e; exact no _ _ (Option.some.inj e).symm)]
    exact e
  rcases h with h | h
  · rcases h with (h | ⟨o, h⟩) | h
    · exact .inl (.inl (.inl (ne h fun _ _ z => by cases z)))
    · exact .inl (.inl (.inr ⟨o, ne h fun _ _ z => by cases z⟩))
    · exact .inl (.inr h)
  · rcases h with (h | ⟨o, h⟩) | h
    · exact .inr (.inl (.inl (ne h fun _ _ z => by cases z)))
    · exact .inr (.inl (.inr ⟨o, ne h fun _ _ z => by cases z⟩))
    · exact .inr (.inr h)
theorem seqT_ins {p dx : Addr} {fs fs' : List (Str × V)} {H : Hp} {t : Addr} {xs : List V} (hp : H p = some (.ins M dx fs)) (h : SqT K H t xs) : SqT K (upd H p (.ins M dx fs')) t xs := by
  rcases h with (h | ⟨o, h⟩) | h
  · exact .inl (.inl (by rw [upd_ne (fun z => by rw [z, hp] at h; cases h)]; exact h))
  · exact .inl (.inr ⟨o, by rw [upd_ne (fun z => by rw [z, hp] at h; cases h)]; exact h⟩)
  · exact .inr h
theorem rowI_same {H H' : Hp} {v : V} {ns : List Int} (s : Same H H') (h : RowI K H v ns) : RowI K H' v ns := by
  obtain ⟨r, rfl, h | h⟩ := h
  · exact ⟨r, rfl, .inl (s.seq h)⟩
  · exact ⟨r, rfl, .inr (seqT_same s h)⟩
theorem rowI_dp {H : Hp} {v : V} {ns : List Int} (h : RowI K H v ns) : ∃ d, Dp K H v d ∧ rowsD d = ns.map .int ∧ isRowD d = true := by
  obtain ⟨r, rfl, h | h⟩ := h
  · exact ⟨.list (ns.map .int), .lst h (ints_dp _), rfl, rfl⟩
  · exact ⟨.tuple (ns.map .int), .tup h (ints_dp _), rfl, rfl⟩
theorem tupOf_any {H : Hp} {v : V} {ns : List Int} {Q : VK} (h : RowI K H v ns) (q : ∀ H' t, Same H H' → SqT K H' t (ns.map V.int) → Q (.ref t) H') : rTupOf K [v] H Q := by
  obtain ⟨r, rfl, h | h⟩ := h
  · exact ⟨r, _, rfl, .inl ⟨h, fun l nl => q _ l (same_new nl) (.inl (.inl upd_same))⟩⟩
  · exact ⟨r, _, rfl, .inr ⟨h, q _ r (Same.refl _) h⟩⟩
/-- tuple(x), x a row of ints -/
def rTupI (K : PySem.W.Frag) : List V → Hp → VK → Prop := fun xs H Q => ∃ (v : V) (ns : List Int), xs = [v] ∧ RowI K H v ns ∧ ∀ H' t, Same H H' → SqT K H' t (ns.map V.int) → Q (.ref t) H'
theorem call_tupI {X : Cx} (hK : X.K = K) : CallR X (.type "tuple") (rTupI K) := by
  subst hK
  intro pins s σ H xs us Q I r h
  obtain ⟨v, ns, rfl, hv, q⟩ := h
  exact call_tuple_of pins s σ H _ us Q I r (tupOf_any hv q)
theorem ok_mi {fB fR' : Addr} {fdB fdR fd1 fd2 : FuncData} (F : FunD K "__init__" "Machine.__init__" (defArgs sMInit) (defBody sMInit) (defScope sMInit) [] [] f fd) (T : Tz K mg C M CN CR fN fR)
    (GB : FnOk P w K mg base CX0 1 fB fdB ["value", "least", "most"] (spBetween K)) (gB : mg "is_between" = some (.ref fB)) (kB : PySem.W.keepIn K (.ref fB) = true) (bB : Binds K fdB ["value", "least", "most"] [])
    (GR : FnOk P w K mg base CX0 2 fR' fdR ["value", "many", "least", "most"] (spRowB K)) (gR : mg "is_row_between" = some (.ref fR')) (kR : PySem.W.keepIn K (.ref fR') = true) (bR : Binds K fdR ["value", "many", "least", "most"] [])
    (GN : FnOk P w K mg base CX0 1 fN fd1 niN (spNumI CN)) (bN : Binds K fd1 niN []) (GX : FnOk P w K mg base CX0 1 fR fd2 riN (spRowI CR)) (bX : Binds K fd2 riN []) :
    FnOk P w K mg base (L2.CX P w) 3 f fd mpN (spMI K C M CN CR) := by
  refine F.ok scMInit (fun vs H Q E h => ?_) (fun cdv A outer s H vs Q E hr h => ?_)
  · obtain ⟨p, dx, x, n, gs, vi, vr, vn, vw, rfl, _⟩ := h
    rfl
  · obtain ⟨p, dx, x, n, gs, vi, vr, vn, vw, rfl, hp, hx, h⟩ := h
    have hr1 := hr.mono (j := 1) (by decide)
    have tk : Takes (cxOf (L2.CX P w) P w K mg base miN "Machine.__init__" (defScope sMInit) f cdv A outer s H E) (fun cls d _ H => E cls d H) := takes_of rfl rfl rfl rfl
    refine ⟨_, pss_cons (ps_set (i := 6) scMInit.nd rfl (Or.inl rfl) (pe_op op_add (pe_op op_mul pe_int (pe_op op_add (pe_fld (pv 1) rfl) (pe_callB call_len_seq (by rfl) T.gr.ki.len PySem.boot_len (pa_cons (pe_fld (pv 1) rfl) pa_nil)))) pe_int))
      (pss_cons (ps_if (pt_not (pt_val (pe_call GB hr1 (by rfl) gB kB bB .nil pass0 (pa_cons (pv 2) (pa_cons pe_int (pa_cons (pe_fld (pv 1) rfl) pa_nil)))))) (pss_one (ps_raise rfl tk (pmk_oex T.n.oe T.n.ini T.n.fn GN hr bN .nil pass0 (by rfl) T.why.mN (pa_cons pe_str (pa_cons (pv 2) pa_nil))))) pss_nil)
      (pss_cons (ps_if (pt_not (pt_val (pe_call GR hr (by rfl) gR kR bR .nil pass0 (pa_cons (pv 3) (pa_cons (pe_op op_sub (pe_fld (pv 1) rfl) (pv 2)) (pa_cons pe_int (pa_cons pe_int pa_nil))))))) (pss_one (ps_raise rfl tk (pmk_oex T.r.oe T.r.ini T.r.fn GX hr bX .nil pass0 (by rfl) T.why.mR (pa_cons (pv 3) pa_nil)))) pss_nil)
      (pss_cons (ps_if (pt_not (pt_val (pe_call GR hr (by rfl) gR kR bR .nil pass0 (pa_cons (pv 4) (pa_cons (pe_op op_sub (pe_fld (pv 1) rfl) (pv 2)) (pa_cons pe_int (pa_cons (pv 6) pa_nil))))))) (pss_one (ps_raise rfl tk (pmk_oex T.r.oe T.r.ini T.r.fn GX hr bX .nil pass0 (by rfl) T.why.mR (pa_cons (pv 4) pa_nil)))) pss_nil)
      (pss_cons (ps_if (pt_not (pt_val (pe_call GB hr1 (by rfl) gB kB bB .nil pass0 (pa_cons (pv 5) (pa_cons pe_int (pa_cons (pv 6) pa_nil)))))) (pss_one (ps_raise rfl tk (pmk_oex T.n.oe T.n.ini T.n.fn GN hr bN .nil pass0 (by rfl) T.why.mN (pa_cons pe_str (pa_cons (pv 5) pa_nil))))) pss_nil)
      (pss_cons (ps_fld (pv 0) (pv 1) rfl) (pss_cons (ps_fld (pv 0) (pv 2) rfl)
      (pss_cons (ps_fld (pv 0) (pe_callTy (call_tupI (K := K) rfl) (by rfl) T.gr.ki.tuple (by decide +kernel) (pa_cons (pv 3) pa_nil)) rfl)
      (pss_cons (ps_fld (pv 0) (pe_callTy (call_tupI (K := K) rfl) (by rfl) T.gr.ki.tuple (by decide +kernel) (pa_cons (pv 4) pa_nil)) rfl)
      (pss_one (ps_fld (pv 0) (pv 5) rfl)))))))))), ?_⟩
    obtain ⟨dg, g, x1, ps, hg, ha⟩ := hx
    refine ⟨_, rfl, x, C, dg, _, _, rfl, x1, T.gr.cl, T.gr.nL, flds_L _ _, _, rfl, x, C, dg, _, _, rfl, x1, T.gr.cl, T.gr.nG, flds_G _ _, g, ps, rfl, .inr hg, _, _, rfl, rfl, _, _, rfl, rfl, .inl ⟨by decide, by decide⟩, _, _, rfl, rfl, ?_⟩
    rw [ha.len]
    refine ⟨_, rfl, _, rfl, x, C, dg, _, _, rfl, x1, T.gr.cl, T.gr.nL, flds_L _ _, ?_⟩
    have bet : ∀ {lo hi z : Int}, lo ≤ z → z ≤ hi → betD (.int z) lo hi = true := fun {lo hi z} a b => by
      show (decide (lo ≤ z) && decide (z ≤ hi)) = true
      rw [decide_eq_true a, decide_eq_true b]
      rfl
    rcases h with ⟨di, hdi, bi, num⟩ | ⟨i, rfl, i0, i1, dr, hdr, lr, h⟩
    · refine ⟨_, _, _, _, rfl, hdi, _, rfl, ?_⟩
      rw [bi]
      refine iteT ?_
      exact mk_num (te := tVar 2) (fun R r => ⟨_, rfl, r⟩) num
    refine ⟨_, _, _, _, rfl, .int i, _, rfl, ?_⟩
    rw [bet i0 i1]
    refine iteF ?_
    refine ⟨_, rfl, _, rfl, x, C, dg, _, _, rfl, x1, T.gr.cl, T.gr.nL, flds_L _ _, _, rfl, _, _, rfl, rfl, _, _, _, _, _, rfl, hdr, lr, fun H1 s1 => ⟨_, rfl, ?_⟩⟩
    have x1' := s1 _ _ x1
    have numS : ∀ {H1 : Hp} {m : Str} {v : V}, Same H H1 → Num CN E H m v → Num CN E H1 m v := fun s q d H' s2 e => q d H' (s.trans s2) e
    have rowS : ∀ {H1 : Hp} {v : V}, Same H H1 → Row CR E H v → Row CR E H1 v := fun s q d H' s2 e => q d H' (s.trans s2) e
    rcases h with ⟨br, row⟩ | ⟨br, dn, hdn, ln, h⟩
    · rw [br]
      refine iteT ?_
      exact mk_row (te := tVar 3) (fun R r => ⟨_, rfl, r⟩) (rowS s1 row)
    rw [br]
    refine iteF ?_
    refine ⟨_, rfl, _, rfl, x, C, dg, _, _, rfl, x1', T.gr.cl, T.gr.nL, flds_L _ _, _, rfl, _, _, rfl, rfl, _, rfl, _, _, _, _, _, rfl, dp_same s1 hdn, ln, fun H2 s2 => ⟨_, rfl, ?_⟩⟩
    have s12 := s1.trans s2
    rcases h with ⟨bn, row⟩ | ⟨bn, h⟩
    · rw [show rowB dn (n - i) 0 (2 * (n + (gs.length : Int)) + 1) = false from bn]
      refine iteT ?_
      exact mk_row (te := tVar 4) (fun R r => ⟨_, rfl, r⟩) (rowS s12 row)
    rw [show rowB dn (n - i) 0 (2 * (n + (gs.length : Int)) + 1) = true from bn]
    refine iteF ?_
    rcases h with ⟨dw, hdw, bw, num⟩ | ⟨wi, rs, nx, rfl, w0, w1, hr, hn, q⟩
    · refine ⟨_, rfl, _, rfl, _, _, _, _, rfl, dp_same s12 hdw, _, rfl, ?_⟩
      rw [show betD dw 0 (2 * (n + (gs.length : Int)) + 1) = false from bw]
      refine iteT ?_
      exact mk_num (te := tVar 5) (fun R r => ⟨_, rfl, r⟩) (numS s12 num)
    refine ⟨_, rfl, _, rfl, _, _, _, _, rfl, .int wi, _, rfl, ?_⟩
    rw [show betD (.int wi) 0 (2 * (n + (gs.length : Int)) + 1) = true from bet w0 w1]
    refine iteF ?_
    have hr := rowI_same s12 hr
    have hn := rowI_same s12 hn
    have hp2 := s12 _ _ hp
    refine ⟨_, rfl, _, rfl, p, M, dx, _, rfl, hp2, T.cl, T.nG, (by show 0 < 1000; decide), ?_⟩
    refine ⟨_, rfl, _, rfl, p, M, dx, _, rfl, upd_same, T.cl, T.nI, (by show 1 < 1000; decide), ?_⟩
    rw [upd_upd]
    have hr := rowI_keep (fs' := putF "inputs" (.int i) (putF "graph" (.ref x) [])) hp2 hr
    have hn := rowI_keep (fs' := putF "inputs" (.int i) (putF "graph" (.ref x) [])) hp2 hn
    refine ⟨_, rfl, _, rs, rfl, hr, fun H3 t1 s3 ht1 => ?_⟩
    have hp3 := s3 _ _ (upd_same (H := H2) (a := p) (o := .ins M dx (putF "inputs" (.int i) (putF "graph" (.ref x) []))))
    refine ⟨_, rfl, p, M, dx, _, rfl, hp3, T.cl, T.nR, (by show 2 < 1000; decide), ?_⟩
    have hn := rowI_keep (fs' := putF "resets" (.ref t1) (putF "inputs" (.int i) (putF "graph" (.ref x) []))) hp3 (rowI_same s3 hn)
    have ht1 := seqT_ins (fs' := putF "resets" (.ref t1) (putF "inputs" (.int i) (putF "graph" (.ref x) []))) hp3 ht1
    refine ⟨_, rfl, _, nx, rfl, hn, fun H4 t2 s4 ht2 => ?_⟩
    have hp4 := s4 _ _ (upd_same (H := H3) (a := p) (o := .ins M dx (putF "resets" (.ref t1) (putF "inputs" (.int i) (putF "graph" (.ref x) [])))))
    refine ⟨_, rfl, p, M, dx, _, rfl, hp4, T.cl, T.nN, (by show 3 < 1000; decide), ?_⟩
    refine ⟨_, rfl, _, rfl, p, M, dx, _, rfl, upd_same, T.cl, T.nW, (by show 4 < 1000; decide), ?_⟩
    rw [upd_upd]
    have fin1 := seqT_ins (fs' := putF "wish" (.int wi) (putF "nexts" (.ref t2) (putF "resets" (.ref t1) (putF "inputs" (.int i) (putF "graph" (.ref x) []))))) hp4 (seqT_same s4 ht1)
    have fin2 := seqT_ins (fs' := putF "wish" (.int wi) (putF "nexts" (.ref t2) (putF "resets" (.ref t1) (putF "inputs" (.int i) (putF "graph" (.ref x) []))))) hp4 ht2
    refine q _ (fun b o e ne => ?_) ⟨⟨dx, _, t1, t2, upd_same, rfl, rfl, rfl, rfl, rfl, fin1, fin2⟩⟩
    rw [upd_ne ne]
    refine s4 _ _ ?_
    rw [upd_ne ne]
    refine s3 _ _ ?_
    rw [upd_ne ne]
    exact s12 _ _ e
end
end Zm
namespace Um
open PySem PySem.Spec PyProof.Rows L2 Pen Dat Ki Fi Gr No Bd Be Bf Bg Bm Bx Ca
/-! ## Cycles, and cycles unrolled into one graph: the mathematics -/
abbrev Gates := List (Int × Int)
abbrev Pl := List (List Int × Int)
def plStep (gs : Gates) (nx : List Int) (wi : Int) (s : Pl × List Int) (row : List Int) : Pl × List Int :=
  (s.1 ++ [(s.2, lit (vals (row ++ s.2) gs) wi)], nx.map fun a => lit (vals (row ++ s.2) gs) a)
def playM (gs : Gates) (nx : List Int) (wi : Int) (st : List Int) (rows : List (List Int)) : Pl × List Int := rows.foldl (plStep gs nx wi) ([], st)
section
variable {gs : Gates} {nx : List Int} {wi : Int} {st : List Int}
theorem play_take {rows : List (List Int)} {i : Nat} {r : List Int} (h : rows[i]? = some r) : playM gs nx wi st (rows.take (i + 1)) = plStep gs nx wi (playM gs nx wi st (rows.take i)) r := by
  unfold playM
  rw [take_more h, List.foldl_append]
  rfl
/-- what holds of states and wishes played -/
structure PlOk (m : Nat) (s : Pl × List Int) : Prop where
  l : s.2.length = m
  b : B01 s.2
  a : ∀ p ∈ s.1, p.1.length = m ∧ B01 p.1 ∧ (p.2 = 0 ∨ p.2 = 1)
theorem PlOk.step {s : Pl × List Int} {row : List Int} (h : PlOk nx.length s) (hr : B01 row) : PlOk nx.length (plStep gs nx wi s row) := by
  have v : B01 (vals (row ++ s.2) gs) := vals_01 gs fun z hz => by
    rcases List.mem_append.mp hz with q | q
    · exact hr z q
    · exact h.b z q
  refine ⟨List.length_map .., fun z hz => ?_, fun p hp => ?_⟩
  · obtain ⟨a, _, rfl⟩ := List.mem_map.mp hz
    exact lit_01 v a
  · rcases List.mem_append.mp hp with q | q
    · exact h.a p q
    · rw [List.mem_singleton.mp q]
      exact ⟨h.l, h.b, lit_01 v wi⟩
theorem play_ok : ∀ (rows : List (List Int)) {s : Pl × List Int}, PlOk nx.length s → (∀ r ∈ rows, B01 r) → PlOk nx.length (rows.foldl (plStep gs nx wi) s)
  | [], _, h, _ => h
  | r :: t, _, h, hr => play_ok t (h.step (hr r List.mem_cons_self)) fun x hx => hr x (List.mem_cons_of_mem _ hx)
theorem foldP_len : ∀ (rows : List (List Int)) (s : Pl × List Int), (rows.foldl (plStep gs nx wi) s).1.length = s.1.length + rows.length
  | [], _ => rfl
  | r :: t, s => by
    show (t.foldl (plStep gs nx wi) (plStep gs nx wi s r)).1.length = _
    rw [foldP_len t]
    show (s.1 ++ [_]).length + t.length = s.1.length + (t.length + 1)
    rw [List.length_append]
    show s.1.length + 1 + t.length = _
    omega
theorem play_len (rows : List (List Int)) : (playM gs nx wi st rows).1.length = rows.length := by
  unfold playM
  rw [foldP_len]
  exact Nat.zero_add _
theorem start_ok (h : st.length = nx.length) (b : B01 st) : PlOk nx.length (([], st) : Pl × List Int) := ⟨h, b, fun p hp => by cases hp⟩
end
/-- the leaves of cycle k -/
def leafL (ahead i k : Nat) : List Int := (List.range i).map fun (j : Nat) => 2 * (((ahead + k * i + 1 : Nat) : Int) + (j : Int))
structure US where
  g : Gates
  st : List Int
  sts : List (List Int)
  ws : List Int
def uStep (N : Nat) (gs : Gates) (nx : List Int) (wi : Int) (ahead i : Nat) (s : US) (k : Nat) : US :=
  ⟨(putM N s.g (leafL ahead i k ++ s.st) gs).1, nx.map (ledL (putM N s.g (leafL ahead i k ++ s.st) gs).2), s.sts ++ [nx.map (ledL (putM N s.g (leafL ahead i k ++ s.st) gs).2)], s.ws ++ [ledL (putM N s.g (leafL ahead i k ++ s.st) gs).2 wi]⟩
def unrM (N : Nat) (gs : Gates) (nx : List Int) (wi : Int) (ahead i : Nat) (st0 : List Int) (c : Nat) : US := (List.range c).foldl (uStep N gs nx wi ahead i) ⟨[], st0, [st0], []⟩
theorem unr_more (N : Nat) (gs : Gates) (nx : List Int) (wi : Int) (ahead i : Nat) (st0 : List Int) (c : Nat) : unrM N gs nx wi ahead i st0 (c + 1) = uStep N gs nx wi ahead i (unrM N gs nx wi ahead i st0 c) c := by
  unfold unrM
  rw [List.range_succ, List.foldl_append]
  rfl
theorem leaf_len (ahead i k : Nat) : (leafL ahead i k).length = i := by
  unfold leafL
  rw [List.length_map, List.length_range]
theorem leaf_in {N ahead i k : Nat} {g : Gates} (h : ahead + (k + 1) * i ≤ N) : ∀ z ∈ leafL ahead i k, InN N g z := fun z hz => by
  obtain ⟨j, hj, rfl⟩ := List.mem_map.mp hz
  have hj := List.mem_range.mp hj
  rw [Nat.add_mul, Nat.one_mul] at h
  unfold InN
  omega
/-- what holds of the unrolled cycles, whatever the bits -/
structure UOk (N m c : Nat) (gs : Gates) (s : US) : Prop where
  ok : okG (2 * (N : Int) + 1) s.g = true
  gl : s.g.length ≤ c * gs.length
  sl : s.st.length = m
  si : ∀ z ∈ s.st, InN N s.g z
  tl : s.sts.length = c + 1
  ti : ∀ t ∈ s.sts, t.length = m ∧ ∀ z ∈ t, InN N s.g z
  wl : s.ws.length = c
  wi : ∀ z ∈ s.ws, InN N s.g z
theorem inN_ext {N : Nat} {g g' : Gates} {a : Int} (e : ∃ ts, g' = g ++ ts) (h : InN N g a) : InN N g' a := by
  obtain ⟨ts, rfl⟩ := e
  obtain ⟨a0, a1⟩ := h
  refine ⟨a0, ?_⟩
  rw [List.length_append]
  omega
theorem led_in {N : Nat} {g : Gates} {ls : List Int} (h : ∀ z ∈ ls, InN N g z) (a : Int) : InN N g (ledL ls a) := by
  have g0 : InN N g (ls.getD (a / 2).toNat 0) := by
    rw [List.getD_eq_getElem?_getD]
    cases e : ls[(a / 2).toNat]? with
    | none => exact ⟨Int.le_refl _, by show (0 : Int) ≤ _; omega⟩
    | some u => exact h _ (List.mem_of_getElem? e)
  unfold ledL
  split
  · obtain ⟨x, y⟩ := g0
    unfold InN flp
    omega
  · exact g0
section
variable {N m c : Nat} {gs : Gates} {nx : List Int} {wi : Int} {ahead i : Nat} {s : US}
theorem zero_in (g : Gates) : InN N g 0 := ⟨Int.le_refl _, by show (0 : Int) ≤ _; omega⟩
theorem lits_in (h : UOk N m c gs s) (hN : ahead + (c + 1) * i ≤ N) : ∀ z ∈ 0 :: (leafL ahead i c ++ s.st), InN N s.g z := fun z hz => by
  rcases List.mem_cons.mp hz with rfl | hz
  · exact zero_in _
  · rcases List.mem_append.mp hz with q | q
    · exact leaf_in hN z q
    · exact h.si z q
theorem UOk.step (h : UOk N m c gs s) (hm : nx.length = m) (hN : ahead + (c + 1) * i ≤ N) : UOk N m (c + 1) gs (uStep N gs nx wi ahead i s c) := by
  obtain ⟨y1, y2, y3, y4⟩ := put_ok (n := N) gs h.ok (lits_in (ahead := ahead) (i := i) h hN)
  have st : ∀ z ∈ nx.map (ledL (putM N s.g (leafL ahead i c ++ s.st) gs).2), InN N (putM N s.g (leafL ahead i c ++ s.st) gs).1 z := fun z hz => by
    obtain ⟨a, _, rfl⟩ := List.mem_map.mp hz
    exact led_in y3 a
  refine ⟨y1, ?_, by rw [← hm]; exact List.length_map .., st, ?_, fun t ht => ?_, ?_, fun z hz => ?_⟩
  · have g1 := h.gl
    have e : (c + 1) * gs.length = c * gs.length + gs.length := by rw [Nat.add_mul, Nat.one_mul]
    rw [e]
    exact Nat.le_trans y4 (by omega)
  · show (s.sts ++ [_]).length = _
    rw [List.length_append, h.tl]
    rfl
  · rcases List.mem_append.mp ht with q | q
    · exact ⟨(h.ti t q).1, fun z hz => inN_ext y2 ((h.ti t q).2 z hz)⟩
    · rw [List.mem_singleton.mp q]
      exact ⟨by rw [← hm]; exact List.length_map .., st⟩
  · show (s.ws ++ [_]).length = _
    rw [List.length_append, h.wl]
    rfl
  · rcases List.mem_append.mp hz with q | q
    · exact inN_ext y2 (h.wi z q)
    · rw [List.mem_singleton.mp q]
      exact led_in y3 wi
end
theorem unr_ok {N m : Nat} {gs : Gates} {nx : List Int} {wi : Int} {ahead i : Nat} {st0 : List Int} (hs : st0.length = m) (hi : ∀ z ∈ st0, InN N [] z) (hm : nx.length = m) : ∀ c, ahead + c * i ≤ N → UOk N m c gs (unrM N gs nx wi ahead i st0 c)
  | 0, _ => ⟨rfl, Nat.zero_le _, hs, hi, rfl, fun t ht => by rw [List.mem_singleton.mp ht]; exact ⟨hs, hi⟩, rfl, fun z hz => by cases hz⟩
  | c + 1, h => by
    rw [unr_more]
    have e : (c + 1) * i = c * i + i := by rw [Nat.add_mul, Nat.one_mul]
    exact (unr_ok hs hi hm c (by omega)).step hm h
/-- the inputs of cycle k among the bits -/
def rowK (bs : List Int) (ahead i k : Nat) : List Int := (bs.drop (ahead + k * i)).take i
def rowsK (bs : List Int) (ahead i c : Nat) : List (List Int) := (List.range c).map fun k => rowK bs ahead i k
theorem rowsK_more (bs : List Int) (ahead i c : Nat) : rowsK bs ahead i (c + 1) = rowsK bs ahead i c ++ [rowK bs ahead i c] := by
  unfold rowsK
  rw [List.range_succ, List.map_append]
  rfl
theorem play_more (gs : Gates) (nx : List Int) (wi : Int) (S : List Int) (bs : List Int) (ahead i c : Nat) : playM gs nx wi S (rowsK bs ahead i (c + 1)) = plStep gs nx wi (playM gs nx wi S (rowsK bs ahead i c)) (rowK bs ahead i c) := by
  unfold playM
  rw [rowsK_more, List.foldl_append]
  rfl
theorem leaf_val {bs : List Int} {g : Gates} (h01 : B01 bs) {ahead i k : Nat} (h : ahead + (k + 1) * i ≤ bs.length) : ((leafL ahead i k).map fun l => lit (vals bs g) l) = rowK bs ahead i k := by
  have e : (k + 1) * i = k * i + i := by rw [Nat.add_mul, Nat.one_mul]
  have ll : (rowK bs ahead i k).length = i := by
    unfold rowK
    rw [List.length_take, List.length_drop]
    omega
  refine List.ext_getElem (by rw [List.length_map, leaf_len, ll]) fun j h1 h2 => ?_
  have hj : j < i := by omega
  have e1 : (leafL ahead i k)[j]? = some (2 * (((ahead + k * i + 1 : Nat) : Int) + (j : Int))) := by
    unfold leafL
    rw [List.getElem?_map, List.getElem?_range hj]
    rfl
  rw [List.getElem_map]
  obtain ⟨h3, e3⟩ := List.getElem?_eq_some_iff.mp e1
  rw [e3]
  have pre := lit_pre (bs := bs) [] g (a := 2 * (((ahead + k * i + 1 : Nat) : Int) + (j : Int))) (by omega) (by
    show _ < 1 + bs.length + 0
    omega)
  rw [List.nil_append] at pre
  rw [pre]
  have e4 : ((2 * (((ahead + k * i + 1 : Nat) : Int) + (j : Int))) / 2).toNat = ahead + k * i + j + 1 := by omega
  have e5 : (2 * (((ahead + k * i + 1 : Nat) : Int) + (j : Int))) % 2 = 0 := by omega
  show ab ((0 :: bs).getD ((2 * (((ahead + k * i + 1 : Nat) : Int) + (j : Int))) / 2).toNat 0 - (2 * (((ahead + k * i + 1 : Nat) : Int) + (j : Int))) % 2) = _
  rw [e4, e5]
  have lt : ahead + k * i + j < bs.length := by omega
  have e6 : (0 :: bs).getD (ahead + k * i + j + 1) 0 = bs[ahead + k * i + j] := by
    rw [List.getD_eq_getElem?_getD, List.getElem?_cons_succ, List.getElem?_eq_getElem lt]
    rfl
  have e7 : (rowK bs ahead i k)[j] = bs[ahead + k * i + j] := by
    have z : (rowK bs ahead i k)[j]? = some bs[ahead + k * i + j] := by
      unfold rowK
      rw [List.getElem?_take, if_pos hj, List.getElem?_drop, List.getElem?_eq_getElem lt]
    exact (List.getElem?_eq_some_iff.mp z).2
  rw [e6, e7]
  rcases h01 _ (List.getElem_mem lt) with z | z <;> rw [z] <;> rfl
/-- what the unrolled cycles mean -/
structure UVal (bs : List Int) (s : US) (pl : Pl × List Int) : Prop where
  st : (s.st.map fun l => lit (vals bs s.g) l) = pl.2
  sts : (s.sts.map fun t => t.map fun l => lit (vals bs s.g) l) = pl.1.map (·.1) ++ [pl.2]
  ws : (s.ws.map fun l => lit (vals bs s.g) l) = pl.1.map (·.2)
theorem put_mean {bs : List Int} (h01 : B01 bs) {g : Gates} {ls : List Int} {gs : Gates} (ok : okG (2 * (bs.length : Int) + 1) g = true) (hl : ∀ z ∈ 0 :: ls, InN bs.length g z) (hk : okG (2 * (ls.length : Int) + 1) gs = true) {a : Int} (ha : (a / 2).toNat < 1 + ls.length + gs.length) :
    lit (vals bs (putM bs.length g ls gs).1) (ledL (putM bs.length g ls gs).2 a) = lit (vals (ls.map fun l => lit (vals bs g) l) gs) a := by
  have hl' : ∀ z ∈ 0 :: ls, Inb bs g z := hl
  have P := put_val h01 gs (gs := g) (ls := 0 :: ls) ok hl' (by
    have e : 2 * ((0 :: ls).length : Int) - 1 = 2 * (ls.length : Int) + 1 := by
      rw [List.length_cons]
      omega
    rw [e]
    exact hk)
  obtain ⟨_, _, y3, _⟩ := put_ok (n := bs.length) gs ok hl
  have y3' : ∀ z ∈ (gs.foldl (putStep bs.length) (g, 0 :: ls)).2, Inb bs (gs.foldl (putStep bs.length) (g, 0 :: ls)).1 z := y3
  have z0 : lit (vals bs g) 0 = 0 := by
    have pre := lit_pre (bs := bs) [] g (a := 0) (by omega) (by
      show _ < 1 + bs.length + 0
      omega)
    rw [List.nil_append] at pre
    rw [pre]
    rfl
  have e0 : ((0 :: ls).map fun l => lit (vals bs g) l) = 0 :: ls.map fun l => lit (vals bs g) l := by
    rw [List.map_cons, z0]
  rw [e0] at P
  have ll : (gs.foldl (putStep bs.length) (g, 0 :: ls)).2.length = 1 + ls.length + gs.length := by
    have e := congrArg List.length P
    rw [List.length_map, foldl_len, List.length_cons, List.length_map] at e
    omega
  show lit (vals bs (gs.foldl (putStep bs.length) (g, 0 :: ls)).1) (ledL (gs.foldl (putStep bs.length) (g, 0 :: ls)).2 a) = _
  rw [led_val h01 y3' (by rw [ll]; exact ha), P]
  rfl
theorem unr_val {bs : List Int} (h01 : B01 bs) {n m : Nat} {gs : Gates} {nx : List Int} {wi : Int} {ahead i : Nat} {st0 S : List Int} (hs : st0.length = m) (hi : ∀ z ∈ st0, InN bs.length [] z) (hm : nx.length = m) (hn : i + m = n) (hk : okG (2 * (n : Int) + 1) gs = true)
    (hx : ∀ a ∈ nx, 0 ≤ a ∧ a ≤ 2 * ((n : Int) + gs.length) + 1) (hw : 0 ≤ wi ∧ wi ≤ 2 * ((n : Int) + gs.length) + 1) (hS : (st0.map fun l => lit (0 :: bs) l) = S) : ∀ c, ahead + c * i ≤ bs.length → UVal bs (unrM bs.length gs nx wi ahead i st0 c) (playM gs nx wi S (rowsK bs ahead i c))
  | 0, _ => ⟨hS, congrArg (fun x => [x]) hS, rfl⟩
  | c + 1, h => by
    have e : (c + 1) * i = c * i + i := by rw [Nat.add_mul, Nat.one_mul]
    have ih := unr_val h01 (S := S) (ahead := ahead) (i := i) hs hi hm hn hk hx hw hS c (by omega)
    have ok := unr_ok (N := bs.length) (gs := gs) (wi := wi) (ahead := ahead) (i := i) hs hi hm c (by omega)
    rw [unr_more, play_more]
    generalize unrM bs.length gs nx wi ahead i st0 c = s at ih ok ⊢
    generalize playM gs nx wi S (rowsK bs ahead i c) = pl at ih ⊢
    have li := lits_in (ahead := ahead) (i := i) ok h
    have lsl : (leafL ahead i c ++ s.st).length = n := by rw [List.length_append, leaf_len, ok.sl]; exact hn
    obtain ⟨y1, y2, y3, y4⟩ := put_ok (n := bs.length) gs ok.ok li
    have row : ((leafL ahead i c ++ s.st).map fun l => lit (vals bs s.g) l) = rowK bs ahead i c ++ pl.2 := by
      rw [List.map_append, leaf_val h01 h, ih.st]
    have mean : ∀ a : Int, 0 ≤ a → a ≤ 2 * ((n : Int) + gs.length) + 1 → lit (vals bs (putM bs.length s.g (leafL ahead i c ++ s.st) gs).1) (ledL (putM bs.length s.g (leafL ahead i c ++ s.st) gs).2 a) = lit (vals (rowK bs ahead i c ++ pl.2) gs) a := fun a a0 a1 => by
      rw [put_mean h01 ok.ok li (by rw [lsl]; exact hk) (by rw [lsl]; omega), row]
    have keep : ∀ z, InN bs.length s.g z → lit (vals bs (putM bs.length s.g (leafL ahead i c ++ s.st) gs).1) z = lit (vals bs s.g) z := fun z hz => (inb_ext (bs := bs) y2 hz).2
    have st : ((nx.map (ledL (putM bs.length s.g (leafL ahead i c ++ s.st) gs).2)).map fun l => lit (vals bs (putM bs.length s.g (leafL ahead i c ++ s.st) gs).1) l) = nx.map fun a => lit (vals (rowK bs ahead i c ++ pl.2) gs) a := by
      rw [List.map_map]
      exact List.map_congr_left fun a ha => mean a (hx a ha).1 (hx a ha).2
    refine ⟨st, ?_, ?_⟩
    · show ((s.sts ++ [nx.map (ledL (putM bs.length s.g (leafL ahead i c ++ s.st) gs).2)]).map fun t => t.map fun l => lit (vals bs (putM bs.length s.g (leafL ahead i c ++ s.st) gs).1) l) = (pl.1 ++ [_]).map (fun q : List Int × Int => q.1) ++ [_]
      rw [List.map_append, List.map_append]
      have o : (s.sts.map fun t => t.map fun l => lit (vals bs (putM bs.length s.g (leafL ahead i c ++ s.st) gs).1) l) = s.sts.map fun t => t.map fun l => lit (vals bs s.g) l :=
        List.map_congr_left fun t ht => List.map_congr_left fun z hz => keep z ((ok.ti t ht).2 z hz)
      rw [o, ih.sts]
      exact congrArg (fun x => (List.map (fun q : List Int × Int => q.1) pl.1 ++ [pl.2]) ++ [x]) st
    · show ((s.ws ++ [ledL (putM bs.length s.g (leafL ahead i c ++ s.st) gs).2 wi]).map fun l => lit (vals bs (putM bs.length s.g (leafL ahead i c ++ s.st) gs).1) l) = (pl.1 ++ [_]).map (fun q : List Int × Int => q.2)
      rw [List.map_append, List.map_append]
      have o : (s.ws.map fun l => lit (vals bs (putM bs.length s.g (leafL ahead i c ++ s.st) gs).1) l) = s.ws.map fun l => lit (vals bs s.g) l := List.map_congr_left fun z hz => keep z (ok.wi z hz)
      rw [o, ih.ws]
      exact congrArg (fun x => List.map (fun q : List Int × Int => q.2) pl.1 ++ [x]) (mean wi hw.1 hw.2)
end Um
namespace Zn2
open PySem PySem.Spec PyProof.Rows L2 LamX Pen Dat Ki Fi Gr Wy Yg Zm
/-! ## Machines compared; unrolled cycles as they are told -/
def tD (ns : List Int) : PyData := .tuple (ns.map .int)
theorem can_ints : ∀ ns : List Int, PyData.canLayAll0 (ns.map .int) = true
  | [] => rfl
  | _ :: r => can_ints r
theorem deep_ints : ∀ ns : List Int, PyData.depthAll (ns.map .int) = 0
  | [] => rfl
  | _ :: r => by
    show max 0 (PyData.depthAll (r.map .int)) = 0
    rw [deep_ints r]
    rfl
theorem shaped_ints (ns : List Int) : SeqAt.shaped (tD ns) = true := by
  unfold SeqAt.shaped
  rw [Bool.and_eq_true]
  exact ⟨can_ints ns, decide_eq_true (by show PyData.depthAll (ns.map .int) + 1 ≤ 64; rw [deep_ints]; decide)⟩
/-- what x == y of two machines tells -/
def sameM (n n' : Int) (gs gs' : List (Int × Int)) (i i' wi wi' : Int) (rs rs' nx nx' : List Int) : Bool :=
  (decide (n = n') && PyData.eqv (gD gs) (gD gs')) && (decide (i = i') && (PyData.eqv (tD rs) (tD rs') && (PyData.eqv (tD nx) (tD nx') && decide (wi = wi'))))
def spMEq (K : PySem.W.Frag) (C M : Addr) : Sp := fun vs H Q _ => ∃ (p q x : Addr) (n i wi : Int) (gs : List (Int × Int)) (rs nx : List Int), vs = [.ref p, .ref q] ∧ MA K M H p x i wi rs nx ∧ GraphAt K C H x n gs ∧
  ((∃ (x' : Addr) (n' i' wi' : Int) (gs' : List (Int × Int)) (rs' nx' : List Int), MA K M H q x' i' wi' rs' nx' ∧ GraphAt K C H x' n' gs' ∧ Q (.bl (sameM n n' gs gs' i i' wi wi' rs rs' nx nx')) H) ∨
    ((∃ dy fs, H q = some (.ins C dy fs)) ∧ Q (.bl false) H))
structure Tq (K : PySem.W.Frag) (mg : Str → Option Value) (C M CN CR fN fR fE fF : Addr) : Prop where
  z : Tz K mg C M CN CR fN fR
  eqG : PySem.W.findIn K (.ref C) "__eq__" = some (some (.ref fE))
  fnG : PySem.W.isFn K (.ref fE) = true
  tupG : PySem.W.subIn K (.type "tuple") (.ref C) = some false
  eqM : PySem.W.findIn K (.ref M) "__eq__" = some (some (.ref fF))
  fnM : PySem.W.isFn K (.ref fF) = true
  gM : PySem.W.subIn K (.ref C) (.ref M) = some false
  metM : ∀ {H : Hp} {a dx : Addr} {fs : List (Str × V)}, H a = some (.ins M dx fs) → TyOf K H (.ref a) (.ref M)
  ownM : PySem.W.kitOne K (.ref M) (.ref M) = some true
  notM : PySem.W.kitOne K (.ref C) (.ref M) = some false
  lisG : PySem.W.kitOne K (.ref C) (.type "list") = some false
/-- x == y by the own == of x's class; y an instance of that class, or of one that isn't its child -/
def rOwnX (K : PySem.W.Frag) (C : Addr) (sp : Sp) (E : XK) : R2 := fun x y H Q => ∃ (a dx : Addr) (fs : List (Str × V)), x = .ref a ∧ H a = some (.ins C dx fs) ∧
  (∃ (b D dy : Addr) (gs : List (Str × V)), y = .ref b ∧ H b = some (.ins D dy gs) ∧ (D = C ∨ PySem.W.subIn K (.ref D) (.ref C) = some false)) ∧ sp [x, y] H (fun v H' => ∃ k : Bool, v = .bl k ∧ Q (.bl k) H') E
theorem op_ownX {X : Cx} {K : PySem.W.Frag} {CX : CXT} {n : Nat} {f C : Addr} {fd : FuncData} {ps : List Str} {sp : Sp} {E : XK} (hK : X.K = K) (F : FnOk X.prog X.w X.K X.mg X.base CX n f fd ps sp) (hr : Room n X.A)
    (hs : PySem.W.findIn K (.ref C) "__eq__" = some (some (.ref f))) (hf : PySem.W.isFn K (.ref f) = true) (hb : Binds K fd ps []) (hx : Passes CX X E) : OpR X (compareOp .Eq) (rOwnX K C sp E) := by
  subst hK
  intro pins s σ H x y v u Q I rx ry h
  obtain ⟨a, dx, fs, rfl, ha, ⟨b, D, dy, gs, rfl, e, hD⟩, hq⟩ := h
  cases (show v = Value.ref a from rx)
  cases (show u = Value.ref b from ry)
  obtain ⟨_, J2, _⟩ := ins_get I.hok e
  obtain ⟨_, J2, _⟩ := J2.look
  have first : PySem.W.notFirst X.K C (.ref D) = true := by
    rcases hD with rfl | hD
    · simp [PySem.W.notFirst]
    · simp [PySem.W.notFirst, hD]
  obtain ⟨_, J, _⟩ := ins_get I.hok ha
  obtain ⟨_, J, _⟩ := J.look
  obtain ⟨_, hF⟩ := I.fr
  show wpAny (model X.prog X.w) X.A (richCompare .Eq (.ref a) (.ref b)) (EP X pins σ Q) X.xe s
  refine PySem.W.cmp_K (op := .Eq) hr.units0 hF I.ok.mod.kin J J2.type first hs hf ?_
  have bind : BindsTo s fd ⟨[.ref a, .ref b], []⟩ (ps.zip [Value.ref a, .ref b]) := by
    have z := hb s [.ref a, .ref b] I.kIn (by simpa using F.len _ _ _ _ hq)
    simpa using z
  refine wpAny_call (codeAny_mono (F.run X.A X.stack s H ⟨[.ref a, .ref b], []⟩ [.ref a, .ref b] [.ref a, .ref b] _ E hr I.env0 bind (.cons rfl (.cons rfl .nil)) hq) fun r s' z => ?_)
  match r, z with
  | .error e, z => exact hx pins σ H s e s' I z
  | .ok .next, z => exact z.elim
  | .ok .brk, z => exact z.elim
  | .ok .cont, z => exact z.elim
  | .ok (.ret u'), z =>
    obtain ⟨v, H', I', rv, k, rfl, q⟩ := I.after z
    cases (show u' = Value.bool k from rv)
    exact ⟨.bl k, H', I', rfl, q⟩
def spKept (K : PySem.W.Frag) (C : Addr) : Sp := fun vs H Q _ => ∃ r : Addr, vs = [.ref r] ∧ ((∃ xs, SqL K H r xs ∧ ∀ l, H l = none → Q (.ref l) (upd H l (.tup xs))) ∨ ((∃ dx fs, H r = some (.ins C dx fs)) ∧ Q (.ref r) H))
def spUI (K : PySem.W.Frag) (C U : Addr) : Sp := fun vs H Q _ => ∃ (p dx x r1 r2 : Addr) (xs1 xs2 : List V), vs = [.ref p, .ref x, .ref r1, .ref r2] ∧ H p = some (.ins U dx []) ∧ (∃ dy fs, H x = some (.ins C dy fs)) ∧ SqL K H r1 xs1 ∧ SqL K H r2 xs2 ∧
  ∀ H' t1 t2 fs, (∀ b o, H b = some o → b ≠ p → H' b = some o) → H' p = some (.ins U dx fs) → fs.lookup ("graph" : Str) = some (.ref x) → fs.lookup ("states" : Str) = some (.ref t1) → fs.lookup ("wishes" : Str) = some (.ref t2) → SqT K H' t1 xs1 → SqT K H' t2 xs2 → Q .non H'
section
variable {P : Program} {w : World} {K : PySem.W.Frag} {mg : Str → Option Value} {base : Heap} {f C M U CN CR fN fR fE fF : Addr} {fd : FuncData}
theorem scMEq : FnScope ["self", "other"] ["self", "other"] (defScope sMEq) := ⟨rfl, rfl, rfl, by decide +kernel, rfl, by decide +kernel, by decide +kernel⟩
theorem scKept : FnScope ["value"] ["value"] (defScope sKeptR) := ⟨rfl, rfl, rfl, by decide +kernel, rfl, by decide +kernel, by decide +kernel⟩
abbrev uN : List Str := ["self", "graph", "states", "wishes"]
theorem scUI : FnScope uN uN (defScope sUInit) := ⟨rfl, rfl, rfl, by decide +kernel, rfl, by decide +kernel, by decide +kernel⟩
theorem ok_meq {fdE : FuncData} (F : FunD K "__eq__" "Machine.__eq__" (defArgs sMEq) (defBody sMEq) (defScope sMEq) [] [] f fd) (T : Tq K mg C M CN CR fN fR fE fF)
    (GE : FnOk P w K mg base CX0 1 fE fdE ["self", "other"] (spEqG K C)) (bE : Binds K fdE ["self", "other"] []) : FnOk P w K mg base CX0 2 f fd ["self", "other"] (spMEq K C M) := by
  refine F.ok scMEq (fun vs H Q E h => ?_) (fun cdv A outer s H vs Q E hr h => ?_)
  · obtain ⟨p, q, x, n, i, wi, gs, rs, nx, rfl, _⟩ := h
    rfl
  · obtain ⟨p, q, x, n, i, wi, gs, rs, nx, rfl, hp, hx, h⟩ := h
    refine ⟨_, PSs.nox (pss_one (ps_ret (pe_and (pe_callB call_isi (by rfl) T.z.gr.ki.isi (by decide +kernel) (pa_cons (pv 1) (pa_cons (pe_glob (v := V.ref M) (by rfl) T.z.mgM rfl) pa_nil)))
      (pe_and (pe_cmpR (op_ownX (K := K) rfl GE hr T.eqG T.fnG bE pass0) (pe_fld (pv 0) rfl) (pe_fld (pv 1) rfl) (nomark _))
      (pe_and (pe_cmpR op_eq (pe_fld (pv 0) rfl) (pe_fld (pv 1) rfl) (nomark _))
      (pe_and (pe_cmpR (op_eqD hr.units) (pe_fld (pv 0) rfl) (pe_fld (pv 1) rfl) (nomark _))
      (pe_and (pe_cmpR (op_eqD hr.units) (pe_fld (pv 0) rfl) (pe_fld (pv 1) rfl) (nomark _))
      (pe_one (pe_cmpR op_eq (pe_fld (pv 0) rfl) (pe_fld (pv 1) rfl) (nomark _)))))))))), ?_⟩
    obtain ⟨dx, fs, t1, t2, h1, g1, g2, g3, g4, g5, r1, r2⟩ := hp.ex
    rcases h with ⟨x', n', i', wi', gs', rs', nx', hq, hx', k⟩ | ⟨⟨dy, fy, hq⟩, k⟩
    · obtain ⟨dy, fy, u1, u2, h2, j1, j2, j3, j4, j5, s1, s2⟩ := hq.ex
      refine ⟨_, rfl, _, _, _, _, _, rfl, .own _, .base (T.metM h2), T.ownM, _, rfl, iteT ?_⟩
      obtain ⟨da, ga, e1, _⟩ := id hx
      obtain ⟨db, gb, e2, _⟩ := id hx'
      refine ⟨_, rfl, p, M, dx, _, _, rfl, h1, T.z.cl, T.z.nG, g1, _, rfl, q, M, dy, _, _, rfl, h2, T.z.cl, T.z.nG, j1, x, da, _, rfl, e1, ⟨x', C, db, _, rfl, e2, .inl rfl⟩, x, _, n, gs, rfl, hx, .inl ⟨x', n', gs', rfl, hx', _, rfl, _, rfl, ite2 (fun c => ?_) (fun c => ?_)⟩⟩
      · have dr := Dp.tup r1 (ints_dp rs)
        have dr' := Dp.tup s1 (ints_dp rs')
        have dn := Dp.tup r2 (ints_dp nx)
        have dn' := Dp.tup s2 (ints_dp nx')
        have lead : sameM n n' gs gs' i i' wi wi' rs rs' nx nx' = (decide (i = i') && (PyData.eqv (tD rs) (tD rs') && (PyData.eqv (tD nx) (tD nx') && decide (wi = wi')))) := by
          unfold sameM
          rw [c]
          rfl
        rw [lead] at k
        refine ⟨_, rfl, p, M, dx, _, _, rfl, h1, T.z.cl, T.z.nI, g2, _, rfl, q, M, dy, _, _, rfl, h2, T.z.cl, T.z.nI, j2, rfl, _, rfl, ite2 (fun c2 => ?_) (fun c2 => ?_)⟩
        · have e : i = i' := V.int.inj (of_decide_eq_true c2)
          rw [decide_eq_true e] at k
          refine ⟨_, rfl, p, M, dx, _, _, rfl, h1, T.z.cl, T.z.nR, g3, _, rfl, q, M, dy, _, _, rfl, h2, T.z.cl, T.z.nR, j3, _, _, dr, dr', shaped_ints rs, shaped_ints rs', _, rfl, ite2 (fun c3 => ?_) (fun c3 => ?_)⟩
          · rw [show PyData.eqv (tD rs) (tD rs') = true from c3] at k
            refine ⟨_, rfl, p, M, dx, _, _, rfl, h1, T.z.cl, T.z.nN, g4, _, rfl, q, M, dy, _, _, rfl, h2, T.z.cl, T.z.nN, j4, _, _, dn, dn', shaped_ints nx, shaped_ints nx', _, rfl, ite2 (fun c4 => ?_) (fun c4 => ?_)⟩
            · rw [show PyData.eqv (tD nx) (tD nx') = true from c4] at k
              refine ⟨_, rfl, p, M, dx, _, _, rfl, h1, T.z.cl, T.z.nW, g5, _, rfl, q, M, dy, _, _, rfl, h2, T.z.cl, T.z.nW, j5, rfl, ?_⟩
              have e5 : decide (V.int wi = V.int wi') = decide (wi = wi') := by
                by_cases z : wi = wi'
                · rw [decide_eq_true z, decide_eq_true (congrArg V.int z)]
                · rw [decide_eq_false z, decide_eq_false fun y => z (V.int.inj y)]
              have k2 : Q (.bl (decide (wi = wi'))) H := k
              rw [← e5] at k2
              exact k2
            · rw [show PyData.eqv (tD nx) (tD nx') = false from eq_false_of_ne_true c4] at k
              exact k
          · rw [show PyData.eqv (tD rs) (tD rs') = false from eq_false_of_ne_true c3] at k
            exact k
        · have e : ¬ i = i' := fun z => c2 (decide_eq_true (congrArg V.int z))
          rw [decide_eq_false e] at k
          exact k
      · rw [show sameM n n' gs gs' i i' wi wi' rs rs' nx nx' = false from by unfold sameM; rw [eq_false_of_ne_true c]; rfl] at k
        exact k
    · exact ⟨_, rfl, _, _, _, _, _, rfl, .own _, .base (T.z.gr.met hq), T.notM, _, rfl, iteF k⟩
theorem ok_kept (F : FnP K "row_kept" sKeptR f fd) (T : Tq K mg C M CN CR fN fR fE fF) : FnOk P w K mg base CX0 1 f fd ["value"] (spKept K C) := by
  refine F.ok scKept (fun vs H Q E h => ?_) (fun cdv A outer s H vs Q E hr h => ?_)
  · obtain ⟨r, rfl, _⟩ := h
    rfl
  · obtain ⟨r, rfl, h⟩ := h
    refine ⟨_, PSs.nox (pss_one (ps_ret (pe_ifExp (pt_val (pe_callB call_isi (by rfl) T.z.gr.ki.isi (by decide +kernel) (pa_cons (pv 0) (pa_cons (pe_bltn (v := .ty "list") (by rfl) T.z.gr.ki.list (by decide +kernel) rfl) pa_nil))))
      (pe_callTy call_tuple_of (by rfl) T.z.gr.ki.tuple (by decide +kernel) (pa_cons (pv 0) pa_nil)) (pv 0)))), ?_⟩
    rcases h with ⟨xs, hs, k⟩ | ⟨⟨dx, fs, hs⟩, k⟩
    · refine ⟨_, rfl, _, _, _, _, _, rfl, .ty _, ty_list hs, rfl, _, rfl, iteT ?_⟩
      exact ⟨_, rfl, r, xs, rfl, .inl ⟨hs, k⟩⟩
    · exact ⟨_, rfl, _, _, _, _, _, rfl, .ty _, .base (T.z.gr.met hs), T.lisG, _, rfl, iteF ⟨_, rfl, k⟩⟩
theorem ok_ui {fK : Addr} {fdK : FuncData} (F : FunD K "__init__" "Unrolled.__init__" (defArgs sUInit) (defBody sUInit) (defScope sUInit) [] [] f fd) (T : Tq K mg C M CN CR fN fR fE fF) (clU : Cls K U) (n1 : NoAttr K U "graph") (n2 : NoAttr K U "states") (n3 : NoAttr K U "wishes")
    (GK : FnOk P w K mg base CX0 1 fK fdK ["value"] (spKept K C)) (gK : mg "row_kept" = some (.ref fK)) (kK : PySem.W.keepIn K (.ref fK) = true) (bK : Binds K fdK ["value"] []) : FnOk P w K mg base CX0 2 f fd uN (spUI K C U) := by
  refine F.ok scUI (fun vs H Q E h => ?_) (fun cdv A outer s H vs Q E hr h => ?_)
  · obtain ⟨p, dx, x, r1, r2, xs1, xs2, rfl, _⟩ := h
    rfl
  · obtain ⟨p, dx, x, r1, r2, xs1, xs2, rfl, hp, ⟨dy, fy, hx⟩, h1, h2, q⟩ := h
    refine ⟨_, PSs.nox (pss_cons (ps_fld (pv 0) (pe_call GK hr (by rfl) gK kK bK .nil pass0 (pa_cons (pv 1) pa_nil)) rfl)
      (pss_cons (ps_fld (pv 0) (pe_call GK hr (by rfl) gK kK bK .nil pass0 (pa_cons (pv 2) pa_nil)) rfl)
      (pss_one (ps_fld (pv 0) (pe_call GK hr (by rfl) gK kK bK .nil pass0 (pa_cons (pv 3) pa_nil)) rfl)))), ?_⟩
    have keepL : ∀ {H : Hp} {fs fs' : List (Str × V)} {r : Addr} {xs : List V}, H p = some (.ins U dx fs) → SqL K H r xs → SqL K (upd H p (.ins U dx fs')) r xs := fun {H fs fs' r xs} hp h => by
      rcases h with (h | ⟨o, h⟩) | h
      · exact .inl (.inl (by rw [upd_ne (fun z => by rw [z, hp] at h; cases h)]; exact h))
      · exact .inl (.inr ⟨o, by rw [upd_ne (fun z => by rw [z, hp] at h; cases h)]; exact h⟩)
      · exact .inr h
    refine ⟨_, rfl, x, rfl, .inr ⟨⟨dy, fy, hx⟩, _, rfl, p, U, dx, _, rfl, hp, clU, n1, (by show 0 < 1000; decide), ?_⟩⟩
    have k1 := keepL (fs' := putF "graph" (.ref x) []) hp h1
    have k2 := keepL (fs' := putF "graph" (.ref x) []) hp h2
    refine ⟨_, rfl, r1, rfl, .inl ⟨xs1, k1, fun l nl => ?_⟩⟩
    have hp1 : upd (upd H p (.ins U dx (putF "graph" (.ref x) []))) l (.tup xs1) p = some (.ins U dx (putF "graph" (.ref x) [])) := by rw [upd_ne (ne_of_none upd_same nl), upd_same]
    have s1 := same_new (u := .tup xs1) nl
    refine ⟨_, rfl, p, U, dx, _, rfl, hp1, clU, n2, (by show 1 < 1000; decide), ?_⟩
    have k2 := keepL (fs' := putF "states" (.ref l) (putF "graph" (.ref x) [])) hp1 (s1.seq k2)
    refine ⟨_, rfl, r2, rfl, .inl ⟨xs2, k2, fun m nm => ?_⟩⟩
    have hl : upd (upd (upd H p (.ins U dx (putF "graph" (.ref x) []))) l (.tup xs1)) p (.ins U dx (putF "states" (.ref l) (putF "graph" (.ref x) []))) l = some (.tup xs1) := by
      rw [upd_ne (fun z => by rw [z] at nl; rw [upd_same] at nl; cases nl), upd_same]
    have np : m ≠ p := fun z => by
      rw [z, upd_same] at nm
      cases nm
    have nl2 : m ≠ l := fun z => by
      rw [z, hl] at nm
      cases nm
    have hp2 : ∀ {G : Hp} {v u : HO}, upd (upd G p v) m u p = some v := fun {G v u} => by rw [upd_ne (Ne.symm np), upd_same]
    refine ⟨_, rfl, p, U, dx, _, rfl, hp2, clU, n3, (by show 2 < 1000; decide), ?_⟩
    have nlp : l ≠ p := fun z => by
      rw [z, upd_same] at nl
      cases nl
    refine q _ l m _ (fun b o e ne => ?_) upd_same rfl rfl rfl (.inl (.inl ?_)) (.inl (.inl ?_))
    · have hl2 : b ≠ l := fun z => by
        rw [← z, upd_ne ne, e] at nl
        cases nl
      have hm2 : b ≠ m := fun z => by
        rw [← z, upd_ne ne, upd_ne hl2, upd_ne ne, e] at nm
        cases nm
      rw [upd_ne ne, upd_ne hm2, upd_ne ne, upd_ne hl2, upd_ne ne]
      exact e
    · rw [upd_ne nlp, upd_ne (Ne.symm nl2)]
      exact hl
    · rw [upd_ne np, upd_same]
end
end Zn2
namespace Tm
open PySem PySem.Spec PyProof.Rows L2
/-! ## tuple * int, the number 0 and 1 too -/
theorem mul_self (l : Addr) (us : Array Value) (n : Nat) (dd : Option Addr) (sl : Array (Option Value)) (tk : Tok) :
    Meets (Builtin.«tuple.__mul__» ⟨[.ref l, .int 1 tk], []⟩) (fun _ R s => s.heap.get? l = some { cls := .type "tuple", dict := dd, data := .seq us n, slots := sl } ∧ R (.ok (.ret (.ref l))) s) :=
  .of_wp fun prog w A R s h => by
    obtain ⟨hp, gs, dr, tks, os⟩ := s
    obtain ⟨hl, q⟩ := h
    have f1 := AutoSeq1.idx_int
    have c1 : (us.isEmpty || (1 : Int) == 1) = true := by simp
    wp_walk using wpAny_loadPart' hl
    repeat (first
      | (refine wpAny_ite_true (decide_eq_true c1) ?_; wp_walk using wpAny_loadPart' hl)
      | (refine wpAny_ite_true c1 ?_; wp_walk using wpAny_loadPart' hl))
    exact ⟨_, rfl, q⟩
theorem mul_nil (l : Addr) (us : Array Value) (n : Nat) (dd : Option Addr) (sl : Array (Option Value)) (tk : Tok) (ne : us.isEmpty = false) :
    Meets (Builtin.«tuple.__mul__» ⟨[.ref l, .int 0 tk], []⟩) (fun _ R s => s.heap.get? l = some { cls := .type "tuple", dict := dd, data := .seq us n, slots := sl } ∧
      R (.ok (.ret (.ref s.heap.objs.size))) { s with heap := s.heap.push { cls := .type "tuple", data := .seq #[] }, toks := s.toks }) :=
  .of_wp fun prog w A R s h => by
    obtain ⟨hp, gs, dr, tks, os⟩ := s
    obtain ⟨hl, q⟩ := h
    have f1 := AutoSeq1.idx_int
    have c1 : (us.isEmpty || (0 : Int) == 1) = false := by rw [ne]; rfl
    have c2 : (decide ((0 : Int) ≤ 0) || us.isEmpty) = true := by simp
    wp_walk using wpAny_loadPart' hl
    repeat (first
      | (refine wpAny_ite_false (decide_eq_false (by rw [c1]; exact Bool.false_ne_true)) ?_; wp_walk using wpAny_loadPart' hl)
      | (refine wpAny_ite_true (decide_eq_true c2) ?_; wp_walk using wpAny_loadPart' hl))
    exact ⟨_, rfl, q⟩
def rMulT (K : PySem.W.Frag) : R2 := fun x y H Q => ∃ l k xs, x = .ref l ∧ y = .int k ∧ SqT K H l xs ∧ xs ≠ [] ∧ xs.length ≤ 1000 ∧
  ((k = 0 ∧ ∀ p, H p = none → Q (.ref p) (upd H p (.tup []))) ∨ (k = 1 ∧ Q (.ref l) H) ∨ (2 ≤ k ∧ k ≤ 1000 ∧ ∀ p, H p = none → Q (.ref p) (upd H p (.tup (List.replicate k.toNat xs).flatten))))
section
variable {X : Cx}
theorem op_mulT : OpR X (binaryOp .Mult) (rMulT X.K) := by
  intro pins s σ H x y v u Q I rx ry h
  obtain ⟨l, k, xs, rfl, rfl, hT, hne, hz, h⟩ := h
  rcases h with ⟨rfl, q⟩ | ⟨rfl, q⟩ | ⟨h1, h2, q⟩
  · cases rx
    obtain ⟨t, rfl⟩ := ry
    obtain ⟨its, rv, ⟨⟨cl, dd, da, sl⟩, ho, hc, n, hd⟩, _⟩ := I.tuple hT
    simp only at hc hd
    subst hc hd
    have ne : its.toArray.isEmpty = false := by
      cases its with
      | nil =>
        have z := rv.length
        exact absurd (List.eq_nil_of_length_eq_zero z) hne
      | cons _ _ => rfl
    refine wpAny_binaryOp_repeat_ref (T := "tuple") (U := "int") (by decide) ⟨_, ho, rfl⟩ (fun s' => typeIs_int s' 0 t) noFill_tuple_mul F.fills_int_mul F.slot_int_rmul repeat_tuple F.slot_int_index.lookup
      (call_meets F.slot_int_rmul (typeIs_int s 0 t) F.entry_int_rmul (F.args_int_rmul_2 _ _) (int_rmul_tuple 0 t l its.toArray n dd sl)
        ⟨ho, rfl, ⟨_, ho, rfl⟩, call_meets F.slot_tuple_mul ⟨_, ho, rfl⟩ F.entry_tuple_mul (F.args_tuple_mul_2 _ _) (mul_nil l its.toArray n dd sl t ne) ⟨ho, ?_⟩⟩)
    exact ⟨.ref s.heap.objs.size, _, I.laid (t' := s.toks) (o := .tup []) (fun b ob q => Heap.get?_push_of_some _ q) (Nat.le_refl _) ⟨Nat.zero_le _, [], .nil, IsTup.new _ _⟩, rfl, q _ (I.hok.fresh (Nat.le_refl _))⟩
  · cases rx
    obtain ⟨t, rfl⟩ := ry
    obtain ⟨its, rv, ⟨⟨cl, dd, da, sl⟩, ho, hc, n, hd⟩, _⟩ := I.tuple hT
    simp only at hc hd
    subst hc hd
    exact wpAny_binaryOp_repeat_ref (T := "tuple") (U := "int") (by decide) ⟨_, ho, rfl⟩ (fun s' => typeIs_int s' 1 t) noFill_tuple_mul F.fills_int_mul F.slot_int_rmul repeat_tuple F.slot_int_index.lookup
      (call_meets F.slot_int_rmul (typeIs_int s 1 t) F.entry_int_rmul (F.args_int_rmul_2 _ _) (int_rmul_tuple 1 t l its.toArray n dd sl)
        ⟨ho, rfl, ⟨_, ho, rfl⟩, call_meets F.slot_tuple_mul ⟨_, ho, rfl⟩ F.entry_tuple_mul (F.args_tuple_mul_2 _ _) (mul_self l its.toArray n dd sl t) ⟨ho, .ref l, H, I, rfl, q⟩⟩)
  · exact op_repT pins s σ H _ _ v u Q I rx ry ⟨l, k, xs, rfl, rfl, hT, hne, h1, h2, hz, q⟩
end
end Tm
namespace Ul
open PySem PySem.Spec PyProof.Rows L2 LamX Pen Dat Ki Fi Gr No Bd Be Bf Bg Bm Bx Ca Um Dm Wy Yg Zm Zn2
/-! ## Machines played and unrolled, by the program -/
def bitsB (d : PyData) (n : Int) : Bool := isRowD d && (rowsD d).all fun e => rowB e n 0 1
def spRowsBits (K : PySem.W.Frag) : Sp := fun vs H Q _ => ∃ (v : V) (n : Int) (d : PyData), vs = [v, .int n] ∧ Dp K H v d ∧ (rowsD d).length ≤ 1000 ∧ (∀ e ∈ rowsD d, (rowsD e).length ≤ 1000) ∧ ∀ H', Same H H' → Q (.bl (bitsB d n)) H'
/-- a state and a wish -/
def Pw (K : PySem.W.Frag) (H : Hp) (v : V) (p : List Int × Int) : Prop := ∃ a b, v = .ref a ∧ H a = some (.tup [.ref b, .int p.2]) ∧ SqT K H b (p.1.map V.int)
theorem Pw.firm {K : PySem.W.Frag} {H H' : Hp} {v : V} {p : List Int × Int} (s : Firm H H') (h : Pw K H v p) : Pw K H' v p := let ⟨a, b, e, h1, h2⟩ := h; ⟨a, b, e, s _ _ h1 rfl, firm_seq s h2⟩
def PlAt (K : PySem.W.Frag) (H : Hp) (t : Addr) (ps : Pl) : Prop := ∃ us, H t = some (.tup us) ∧ All2 (Pw K H) us ps
theorem PlAt.firm {K : PySem.W.Frag} {H H' : Hp} {t : Addr} {ps : Pl} (s : Firm H H') (h : PlAt K H t ps) : PlAt K H' t ps := let ⟨us, h1, h2⟩ := h; ⟨us, s _ _ h1 rfl, h2.imp fun _ _ z => z.firm s⟩
/-- rows of bits, a list or a tuple of tuples -/
def RowsAt (K : PySem.W.Frag) (H : Hp) (v : V) (rows : List (List Int)) : Prop := ∃ r ws, v = .ref r ∧ (SqL K H r ws ∨ SqT K H r ws) ∧ All2 (Tu K H) ws rows
def rwD (r : List Int) : PyData := .tuple (r.map .int)
theorem len0 : ([] : List V).length ≤ sizeLine := Nat.zero_le _
theorem tu_dp {K : PySem.W.Frag} {H : Hp} : ∀ {ws : List V} {rows : List (List Int)}, All2 (Tu K H) ws rows → DpAll K H ws (rows.map rwD)
  | _, _, .nil => .nil
  | _, _, .cons h t => by
    obtain ⟨q, rfl, h⟩ := h
    exact .cons (.tup (SqT.of h) (ints_dp _)) (tu_dp t)
theorem rowB01 {r : List Int} {n : Int} (hl : (r.length : Int) = n) (hb : B01 r) : rowB (.tuple (r.map .int)) n 0 1 = true := by
  show (true && (decide (((r.map PyData.int).length : Int) = n) && (r.map PyData.int).all fun e => betD e 0 1)) = true
  rw [List.length_map, decide_eq_true hl, List.all_map]
  have z : (r.all ((fun e => betD e 0 1) ∘ PyData.int)) = true := List.all_eq_true.mpr fun z hz => by
    rcases hb z hz with rfl | rfl <;> rfl
  rw [z]
  rfl
theorem rows_dp {K : PySem.W.Frag} {H : Hp} {v : V} {rows : List (List Int)} {n : Int} (h : RowsAt K H v rows) (hr : ∀ r ∈ rows, (r.length : Int) = n ∧ B01 r) : ∃ d, Dp K H v d ∧ (rowsD d).length = rows.length ∧ (∀ e ∈ rowsD d, ((rowsD e).length : Int) = n) ∧ bitsB d n = true := by
  obtain ⟨r, ws, rfl, hs, ha⟩ := h
  have e1 : ∀ e ∈ rows.map rwD, ((rowsD e).length : Int) = n := fun e he => by
    obtain ⟨x, hx, rfl⟩ := List.mem_map.mp he
    show (((x.map PyData.int).length : Nat) : Int) = n
    rw [List.length_map]
    exact (hr x hx).1
  have e2 : ((rows.map rwD).all fun e => rowB e n 0 1) = true := List.all_eq_true.mpr fun e he => by
    obtain ⟨x, hx, rfl⟩ := List.mem_map.mp he
    exact rowB01 (hr x hx).1 (hr x hx).2
  rcases hs with hs | hs
  · exact ⟨.list (rows.map rwD), .lst hs (tu_dp ha), List.length_map .., (fun e he => e1 e he), by show (true && _) = true; rw [Bool.true_and]; exact e2⟩
  · exact ⟨.tuple (rows.map rwD), .tup hs (tu_dp ha), List.length_map .., (fun e he => e1 e he), by show (true && _) = true; rw [Bool.true_and]; exact e2⟩
def spPlayed (K : PySem.W.Frag) (C M : Addr) : Sp := fun vs H Q _ => ∃ (p x : Addr) (v : V) (n i wi : Int) (gs : Gates) (rs nx : List Int) (rows : List (List Int)), vs = [.ref p, v] ∧ MA K M H p x i wi rs nx ∧ GraphAt K C H x n gs ∧ OwnOk n i gs rs nx wi ∧
  RowsAt K H v rows ∧ rows.length ≤ 100 ∧ (∀ r ∈ rows, (r.length : Int) = i ∧ B01 r) ∧ ∀ H' t, Same H H' → PlAt K H' t (playM gs nx wi rs rows).1 → Q (.ref t) H'
def spPlayX (K : PySem.W.Frag) (M CR : Addr) : Sp := fun vs H Q E => ∃ (p x : Addr) (v : V) (i wi : Int) (rs nx : List Int) (d : PyData), vs = [.ref p, v] ∧ MA K M H p x i wi rs nx ∧ Dp K H v d ∧ (rowsD d).length ≤ 1000 ∧ (∀ e ∈ rowsD d, (rowsD e).length ≤ 1000) ∧ bitsB d i = false ∧ Row CR E H v
def brkB (ws : List Int) : Bool := decide (0 < ws.length) && (decide (ws.getLast? = some 0) && !decide ((0 : Int) ∈ ws.dropLast))
def spBreaks (K : PySem.W.Frag) (C M : Addr) : Sp := fun vs H Q _ => ∃ (p x : Addr) (v : V) (n i wi : Int) (gs : Gates) (rs nx : List Int) (rows : List (List Int)), vs = [.ref p, v] ∧ MA K M H p x i wi rs nx ∧ GraphAt K C H x n gs ∧ OwnOk n i gs rs nx wi ∧
  RowsAt K H v rows ∧ rows.length ≤ 100 ∧ (∀ r ∈ rows, (r.length : Int) = i ∧ B01 r) ∧ ∀ H', Same H H' → Q (.bl (brkB ((playM gs nx wi rs rows).1.map fun q => q.2))) H'
def spKept2 (K : PySem.W.Frag) (C : Addr) : Sp := fun vs H Q _ => ∃ r : Addr, vs = [.ref r] ∧ ((∃ xs, SqT K H r xs) ∨ ∃ dx fs, H r = some (.ins C dx fs)) ∧ Q (.ref r) H
def spUI2 (K : PySem.W.Frag) (C U : Addr) : Sp := fun vs H Q _ => ∃ (p dx x r1 r2 : Addr) (xs1 xs2 : List V), vs = [.ref p, .ref x, .ref r1, .ref r2] ∧ H p = some (.ins U dx []) ∧ (∃ dy fs, H x = some (.ins C dy fs)) ∧ SqT K H r1 xs1 ∧ SqT K H r2 xs2 ∧
  ∀ H' fs, (∀ b o, H b = some o → b ≠ p → H' b = some o) → H' p = some (.ins U dx fs) → fs.lookup ("graph" : Str) = some (.ref x) → fs.lookup ("states" : Str) = some (.ref r1) → fs.lookup ("wishes" : Str) = some (.ref r2) → Q .non H'
def TuS (K : PySem.W.Frag) (H : Hp) (v : V) (r : List Int) : Prop := ∃ q, v = .ref q ∧ SqT K H q (r.map V.int)
theorem TuS.firm {K : PySem.W.Frag} {H H' : Hp} {v : V} {r : List Int} (s : Firm H H') (h : TuS K H v r) : TuS K H' v r := let ⟨q, e, h⟩ := h; ⟨q, e, firm_seq s h⟩
/-- the unrolled cycles, as they are told -/
def UnrAt (K : PySem.W.Frag) (C U : Addr) (H : Hp) (o : Addr) (N : Int) (s : US) : Prop := ∃ dx fs y t1 t2 sv, H o = some (.ins U dx fs) ∧ fs.lookup ("graph" : Str) = some (.ref y) ∧ fs.lookup ("states" : Str) = some (.ref t1) ∧ fs.lookup ("wishes" : Str) = some (.ref t2) ∧
  GraphAt K C H y N s.g ∧ H t1 = some (.tup sv) ∧ All2 (TuS K H) sv s.sts ∧ H t2 = some (.tup (s.ws.map V.int))
theorem UnrAt.firm {K : PySem.W.Frag} {C U : Addr} {H H' : Hp} {o : Addr} {N : Int} {u : US} (s : Firm H H') (h : UnrAt K C U H o N u) : UnrAt K C U H' o N u := by
  obtain ⟨dx, fs, y, t1, t2, sv, a, b, c, d, e, f, g, h⟩ := h
  exact ⟨dx, fs, y, t1, t2, sv, s _ _ a rfl, b, c, d, e.firm s, s _ _ f rfl, g.imp fun _ _ z => z.firm s, s _ _ h rfl⟩
def aheadN (fr : Bool) (m : Nat) : Nat := if fr = true then m else 0
def st0N (fr : Bool) (m : Nat) (rs : List Int) : List Int := if fr = true then ownL m else rs
def spUnrolled (K : PySem.W.Frag) (C M U : Addr) : Sp := fun vs H Q _ => ∃ (p x : Addr) (c n i : Nat) (fr : Bool) (wi : Int) (gs : Gates) (rs nx : List Int), vs = [.ref p, .int c, .bl fr] ∧ MA K M H p x i wi rs nx ∧ GraphAt K C H x n gs ∧ OwnOk n i gs rs nx wi ∧ c ≤ 6 ∧
  ∀ H' o, Same H H' → UnrAt K C U H' o ((aheadN fr rs.length + c * i : Nat) : Int) (unrM (aheadN fr rs.length + c * i) gs nx wi (aheadN fr rs.length) i (st0N fr rs.length rs) c) → Q (.ref o) H'
def spUnrX (CN : Addr) (K : PySem.W.Frag) : Sp := fun vs H Q E => ∃ (m v fr : V) (d : PyData), vs = [m, v, fr] ∧ Dp K H v d ∧ fromD d 0 = false ∧ Num CN E H "cycles" v
structure Tl (K : PySem.W.Frag) (mg : Str → Option Value) (C M B U CN CR fN fR fE fF fA fG fI : Addr) : Prop where
  q : Tq K mg C M CN CR fN fR fE fF
  ty : Ty K mg B fA
  mG : Meth K B "graph" fG
  rng : mg "range" = none
  clU : Cls K U
  u1 : NoAttr K U "graph"
  u2 : NoAttr K U "states"
  u3 : NoAttr K U "wishes"
theorem inV_ints (a : Int) : ∀ xs : List Int, inV (.int a) (xs.map V.int) = decide (a ∈ xs)
  | [] => rfl
  | x :: r => by
    have t := inV_ints a r
    show (eqV (.int x) (.int a) || inV (.int a) (r.map V.int)) = _
    rw [t]
    have e : eqV (.int x) (.int a) = decide (x = a) := by
      show (x == a) = decide (x = a)
      by_cases h : x = a
      · rw [h, decide_eq_true rfl]
        exact beq_self_eq_true a
      · rw [decide_eq_false h]
        exact beq_eq_false_iff_ne.mpr h
    rw [e]
    by_cases h : x = a
    · subst h
      simp
    · have h2 : ¬ a = x := fun z => h z.symm
      simp [h, h2]
theorem cut_neg {xs : List V} : cutV xs none (some (-1)) = xs.take (xs.length - 1) := by
  show (xs.drop 0).take (HT.sIx xs.length xs.length (some (-1)) - 0) = _
  have e : HT.sIx xs.length xs.length (some (-1)) = xs.length - 1 := by
    show (if (-1 : Int) < 0 then ((-1 : Int) + (xs.length : Int)).toNat else min (-1 : Int).toNat xs.length) = _
    rw [if_pos (by decide)]
    omega
  rw [e]
  rfl
/-- t[:-1] of a tuple -/
theorem cutA_neg {K : PySem.W.Frag} {H : Hp} {t : Addr} {xs : List V} {R : VK} (h : H t = some (.tup xs)) (hn : xs ≠ []) (k : ∀ q H', Same H H' → H' q = some (.tup (xs.take (xs.length - 1))) → R (.ref q) H') : L2.rSlA K (.ref t) none (some (-1)) H R := by
  refine ⟨t, _, rfl, SqT.of h, fun hw => ?_, fun _ p np => ?_⟩
  · have e := hw.2
    have e2 : HT.sIx xs.length xs.length (some (-1)) = xs.length - 1 := by
      show (if (-1 : Int) < 0 then ((-1 : Int) + (xs.length : Int)).toNat else min (-1 : Int).toNat xs.length) = _
      rw [if_pos (by decide)]
      omega
    rw [e2] at e
    have := List.length_pos_iff.mpr hn
    omega
  · exact k p _ (same_new np) (by rw [upd_same, cut_neg])
theorem own_leaf (m : Nat) : ownL m = (List.range m).map fun (k : Nat) => 2 * ((1 : Int) + (k : Int)) := by
  unfold ownL
  exact List.map_congr_left fun k _ => by omega
section
variable {P : Program} {w : World} {K : PySem.W.Frag} {mg : Str → Option Value} {base : Heap} {f C M B U CN CR fN fR fE fF fA fG fI : Addr} {fd : FuncData}
abbrev nRowsBits : List Str := ["value", "many", "row"]
theorem scRowsBits : FnScope nRowsBits ["value", "many"] (defScope sRowsBits) := ⟨rfl, rfl, rfl, by decide +kernel, rfl, by decide +kernel, by decide +kernel⟩
abbrev nPlayed : List Str := ["machine", "rows", "told", "state", "row", "found", "literal"]
theorem scPlayed : FnScope nPlayed ["machine", "rows"] (defScope sPlayed) := ⟨rfl, rfl, rfl, by decide +kernel, rfl, by decide +kernel, by decide +kernel⟩
abbrev nBreaks : List Str := ["machine", "rows", "_", "wish", "wishes"]
theorem scBreaks : FnScope nBreaks ["machine", "rows"] (defScope sBreaks) := ⟨rfl, rfl, rfl, by decide +kernel, rfl, by decide +kernel, by decide +kernel⟩
abbrev nUnrolled : List Str := ["machine", "cycles", "free", "ahead", "builder", "n", "state", "states", "wishes", "k", "first", "leaves", "told"]
theorem scUnrolled : FnScope nUnrolled ["machine", "cycles", "free"] (defScope sUnrolled) := ⟨rfl, rfl, rfl, by decide +kernel, rfl, by decide +kernel, by decide +kernel⟩
theorem ok_rowsbits (F : FnP K "are_rows_of_bits" sRowsBits f fd) (T : Ki.Tx mg)
    {fW fB : Addr} {dW dB : FuncData}
    (GW : FnOk P w K mg base CX0 1 fW dW ["value"] (spRow K)) (gW : mg "is_row" = some (.ref fW)) (kW : PySem.W.keepIn K (.ref fW) = true) (bW : Binds K dW ["value"] [])
    (GB : FnOk P w K mg base CX0 2 fB dB ["value", "many", "least", "most"] (spRowB K)) (gB : mg "is_row_between" = some (.ref fB)) (kB : PySem.W.keepIn K (.ref fB) = true) (bB : Binds K dB ["value", "many", "least", "most"] [])
    : FnOk P w K mg base CX0 3 f fd ["value", "many"] (spRowsBits K) := by
  refine F.ok scRowsBits (fun vs H Q E h => ?_) (fun cdv A outer s H vs Q E hr h => ?_)
  · obtain ⟨v, n, d, rfl, _⟩ := h
    rfl
  · obtain ⟨v, n, d, rfl, hd, hz, hz2, q⟩ := h
    cases hd with
    | lst ht ha =>
      rename_i a vs ds
      have hlen := dps_len ha
      have hz' : ds.length ≤ 1000 := hz
      refine ⟨_, PSs.nox (pss_one (ps_ret (pe_and (pe_call GW (hr.mono (by decide)) (by rfl) gW kW bW .nil pass0 (pa_cons (pv 0) pa_nil)) (pe_one (pe_callB (cr_all rfl) (by rfl) T.all (by decide +kernel) (pa_cons (pe_lc (own := [("row", 2)]) (g := gName 2) (tt := tYes) rfl scRowsBits.nd (pi_list (pv 0)) (blkOk_by (N := nRowsBits) (sc := defScope sRowsBits) (by decide +kernel)) (fun _ _ _ _ _ => pg_name (i := 2) scRowsBits.nd rfl (Or.inl rfl)) (fun _ _ _ _ _ => pts_nil) (fun _ _ _ _ _ => (pe_call GB (hr.mono (by decide)) (by rfl) gB kB bB .nil pass0 (pa_cons (pv 2) (pa_cons (pv 1) (pa_cons pe_int (pa_cons pe_int pa_nil))))))) pa_nil)))))), ?_⟩
      refine ⟨_, rfl, _, _, rfl, .lst ht ha, fun H1 s1 => ⟨_, rfl, iteT ?_⟩⟩
      have hq1 := Same.seq s1 ht
      refine ⟨_, rfl, a, rfl, ⟨_, hq1⟩, fun D nD => ?_⟩
      have sD : Same H1 (upd H1 D (.lst [])) := same_new nD
      refine lc_list (K := K) (a := a) (xs := vs) (fun i H2 => Same H1 H2 ∧ H2 D = some (.lst ((ds.take i).map fun e => V.bl (rowB e n 0 1)))) ⟨sD, by rw [upd_same]; rfl⟩ (fun i H2 _ ⟨s2, _⟩ => Same.seq s2 hq1) ?_ ?_
      · rintro i v H2 hi ⟨s2, h2⟩
        obtain ⟨e, he, hv⟩ := dps_get ha hi
        refine ⟨rfl, yes_of ?_⟩
        refine ⟨_, rfl, _, rfl, v, n, 0, 1, e, rfl, dp_same (s1.trans s2) hv, hz2 e (List.mem_of_getElem? he), fun H3 s3 => ⟨_, s3 _ _ h2, ?_, fun b o z => ?_, ?_⟩⟩
        · rw [List.length_map, List.length_take]
          exact Nat.lt_of_le_of_lt (Nat.min_le_right _ _) (Nat.lt_of_le_of_lt hz' (by decide))
        · rw [upd_ne (ne_of_none z nD)]
          exact s3 _ _ (s2 _ _ z)
        · rw [upd_same, take_more he, List.map_append]
          rfl
      · rintro H2 ⟨s2, h2⟩
        rw [hlen, List.take_length] at h2
        refine ⟨D, ds.map fun e => rowB e n 0 1, rfl, SqL.of ?_, ?_⟩
        · rw [h2, List.map_map]
          rfl
        · have e3 : bitsB (.list ds) n = (ds.map fun e => rowB e n 0 1).all id := by
            show (true && ds.all fun e => rowB e n 0 1) = _
            rw [List.all_map]
            rfl
          rw [← e3]
          exact q _ (s1.trans s2)
    | tup ht ha =>
      rename_i a vs ds
      have hlen := dps_len ha
      have hz' : ds.length ≤ 1000 := hz
      refine ⟨_, PSs.nox (pss_one (ps_ret (pe_and (pe_call GW (hr.mono (by decide)) (by rfl) gW kW bW .nil pass0 (pa_cons (pv 0) pa_nil)) (pe_one (pe_callB (cr_all rfl) (by rfl) T.all (by decide +kernel) (pa_cons (pe_lc (own := [("row", 2)]) (g := gName 2) (tt := tYes) rfl scRowsBits.nd (pi_tup (pv 0)) (blkOk_by (N := nRowsBits) (sc := defScope sRowsBits) (by decide +kernel)) (fun _ _ _ _ _ => pg_name (i := 2) scRowsBits.nd rfl (Or.inl rfl)) (fun _ _ _ _ _ => pts_nil) (fun _ _ _ _ _ => (pe_call GB (hr.mono (by decide)) (by rfl) gB kB bB .nil pass0 (pa_cons (pv 2) (pa_cons (pv 1) (pa_cons pe_int (pa_cons pe_int pa_nil))))))) pa_nil)))))), ?_⟩
      refine ⟨_, rfl, _, _, rfl, .tup ht ha, fun H1 s1 => ⟨_, rfl, iteT ?_⟩⟩
      have hq1 := seqT_same s1 ht
      refine ⟨_, rfl, a, rfl, ⟨_, hq1⟩, fun D nD => ?_⟩
      have sD : Same H1 (upd H1 D (.lst [])) := same_new nD
      refine lc_tup (K := K) (a := a) (xs := vs) (fun i H2 => Same H1 H2 ∧ H2 D = some (.lst ((ds.take i).map fun e => V.bl (rowB e n 0 1)))) ⟨sD, by rw [upd_same]; rfl⟩ (fun i H2 _ ⟨s2, _⟩ => seqT_same s2 hq1) ?_ ?_
      · rintro i v H2 hi ⟨s2, h2⟩
        obtain ⟨e, he, hv⟩ := dps_get ha hi
        refine ⟨rfl, yes_of ?_⟩
        refine ⟨_, rfl, _, rfl, v, n, 0, 1, e, rfl, dp_same (s1.trans s2) hv, hz2 e (List.mem_of_getElem? he), fun H3 s3 => ⟨_, s3 _ _ h2, ?_, fun b o z => ?_, ?_⟩⟩
        · rw [List.length_map, List.length_take]
          exact Nat.lt_of_le_of_lt (Nat.min_le_right _ _) (Nat.lt_of_le_of_lt hz' (by decide))
        · rw [upd_ne (ne_of_none z nD)]
          exact s3 _ _ (s2 _ _ z)
        · rw [upd_same, take_more he, List.map_append]
          rfl
      · rintro H2 ⟨s2, h2⟩
        rw [hlen, List.take_length] at h2
        refine ⟨D, ds.map fun e => rowB e n 0 1, rfl, SqL.of ?_, ?_⟩
        · rw [h2, List.map_map]
          rfl
        · have e3 : bitsB (.tuple ds) n = (ds.map fun e => rowB e n 0 1).all id := by
            show (true && ds.all fun e => rowB e n 0 1) = _
            rw [List.all_map]
            rfl
          rw [← e3]
          exact q _ (s1.trans s2)
    | non =>
      refine ⟨_, PSs.nox (pss_one (ps_ret (pe_and (pe_call GW (hr.mono (by decide)) (by rfl) gW kW bW .nil pass0 (pa_cons (pv 0) pa_nil)) (pe_one (pe_callB (cr_all rfl) (by rfl) T.all (by decide +kernel) (pa_cons (pe_lc (own := [("row", 2)]) (g := gName 2) (tt := tYes) rfl scRowsBits.nd (pi_list (pv 0)) (blkOk_by (N := nRowsBits) (sc := defScope sRowsBits) (by decide +kernel)) (fun _ _ _ _ _ => pg_name (i := 2) scRowsBits.nd rfl (Or.inl rfl)) (fun _ _ _ _ _ => pts_nil) (fun _ _ _ _ _ => (pe_call GB (hr.mono (by decide)) (by rfl) gB kB bB .nil pass0 (pa_cons (pv 2) (pa_cons (pv 1) (pa_cons pe_int (pa_cons pe_int pa_nil))))))) pa_nil)))))), ?_⟩
      exact ⟨_, rfl, _, _, rfl, .non, fun H1 s1 => ⟨_, rfl, iteF (q _ s1)⟩⟩
    | bl b =>
      refine ⟨_, PSs.nox (pss_one (ps_ret (pe_and (pe_call GW (hr.mono (by decide)) (by rfl) gW kW bW .nil pass0 (pa_cons (pv 0) pa_nil)) (pe_one (pe_callB (cr_all rfl) (by rfl) T.all (by decide +kernel) (pa_cons (pe_lc (own := [("row", 2)]) (g := gName 2) (tt := tYes) rfl scRowsBits.nd (pi_list (pv 0)) (blkOk_by (N := nRowsBits) (sc := defScope sRowsBits) (by decide +kernel)) (fun _ _ _ _ _ => pg_name (i := 2) scRowsBits.nd rfl (Or.inl rfl)) (fun _ _ _ _ _ => pts_nil) (fun _ _ _ _ _ => (pe_call GB (hr.mono (by decide)) (by rfl) gB kB bB .nil pass0 (pa_cons (pv 2) (pa_cons (pv 1) (pa_cons pe_int (pa_cons pe_int pa_nil))))))) pa_nil)))))), ?_⟩
      exact ⟨_, rfl, _, _, rfl, .bl b, fun H1 s1 => ⟨_, rfl, iteF (q _ s1)⟩⟩
    | int i =>
      refine ⟨_, PSs.nox (pss_one (ps_ret (pe_and (pe_call GW (hr.mono (by decide)) (by rfl) gW kW bW .nil pass0 (pa_cons (pv 0) pa_nil)) (pe_one (pe_callB (cr_all rfl) (by rfl) T.all (by decide +kernel) (pa_cons (pe_lc (own := [("row", 2)]) (g := gName 2) (tt := tYes) rfl scRowsBits.nd (pi_list (pv 0)) (blkOk_by (N := nRowsBits) (sc := defScope sRowsBits) (by decide +kernel)) (fun _ _ _ _ _ => pg_name (i := 2) scRowsBits.nd rfl (Or.inl rfl)) (fun _ _ _ _ _ => pts_nil) (fun _ _ _ _ _ => (pe_call GB (hr.mono (by decide)) (by rfl) gB kB bB .nil pass0 (pa_cons (pv 2) (pa_cons (pv 1) (pa_cons pe_int (pa_cons pe_int pa_nil))))))) pa_nil)))))), ?_⟩
      exact ⟨_, rfl, _, _, rfl, .int i, fun H1 s1 => ⟨_, rfl, iteF (q _ s1)⟩⟩
    | str x =>
      refine ⟨_, PSs.nox (pss_one (ps_ret (pe_and (pe_call GW (hr.mono (by decide)) (by rfl) gW kW bW .nil pass0 (pa_cons (pv 0) pa_nil)) (pe_one (pe_callB (cr_all rfl) (by rfl) T.all (by decide +kernel) (pa_cons (pe_lc (own := [("row", 2)]) (g := gName 2) (tt := tYes) rfl scRowsBits.nd (pi_list (pv 0)) (blkOk_by (N := nRowsBits) (sc := defScope sRowsBits) (by decide +kernel)) (fun _ _ _ _ _ => pg_name (i := 2) scRowsBits.nd rfl (Or.inl rfl)) (fun _ _ _ _ _ => pts_nil) (fun _ _ _ _ _ => (pe_call GB (hr.mono (by decide)) (by rfl) gB kB bB .nil pass0 (pa_cons (pv 2) (pa_cons (pv 1) (pa_cons pe_int (pa_cons pe_int pa_nil))))))) pa_nil)))))), ?_⟩
      exact ⟨_, rfl, _, _, rfl, .str x, fun H1 s1 => ⟨_, rfl, iteF (q _ s1)⟩⟩
theorem ok_played (F : FnP K "played" sPlayed f fd) (T : Tl K mg C M B U CN CR fN fR fE fF fA fG fI)
    {fW fN fL : Addr} {dW dN dL : FuncData}
    (GW : FnOk P w K mg base CX0 3 fW dW ["value", "many"] (spRowsBits K)) (gW : mg "are_rows_of_bits" = some (.ref fW)) (kW : PySem.W.keepIn K (.ref fW) = true) (bW : Binds K dW ["value", "many"] [])
    (GN : FnOk P w K mg base CX0 3 fN dN ["graph", "bits"] (spNode K C)) (gN : mg "node_values" = some (.ref fN)) (kN : PySem.W.keepIn K (.ref fN) = true) (bN : Binds K dN ["graph", "bits"] [])
    (GL : FnOk P w K mg base CX0 1 fL dL ["found", "literal"] (spLit K)) (gL : mg "literal_value" = some (.ref fL)) (kL : PySem.W.keepIn K (.ref fL) = true) (bL : Binds K dL ["found", "literal"] [])
    : FnOk P w K mg base CX0 4 f fd ["machine", "rows"] (spPlayed K C M) := by
  refine F.ok scPlayed (fun vs H Q E h => ?_) (fun cdv A outer s H vs Q E hr h => ?_)
  · obtain ⟨p, x, v, n, i, wi, gs, rs, nx, rows, rfl, _⟩ := h
    rfl
  · obtain ⟨p, x, v, n, i, wi, gs, rs, nx, rows, rfl, ⟨dm, fm, t1, t2, hm, fg, fi, fr, fn, fw, hrs, hnx⟩, hG, ok, hrow, lrow, brow, q⟩ := h
    obtain ⟨d, d1, d2, d3, d4⟩ := rows_dp hrow brow
    have i0 := ok.i0
    have i1 := ok.i1
    have n7 := ok.n7
    have gl := ok.glen
    have rl := ok.rl
    have nl' := ok.nl
    obtain ⟨r, ws, rfl, ht, ha⟩ := id hrow
    rcases ht with ht | ht
    · refine ⟨_, PSs.nox (pss_cons (ps_if (pt_not (pt_val (pe_call GW (hr.mono (by decide)) (by rfl) gW kW bW .nil pass0 (pa_cons (pv 1) (pa_cons (pe_fld (pv 0) rfl) pa_nil)))))
        (pss_one ps_never)
        pss_nil)
      (pss_cons (ps_set (i := 2) scPlayed.nd rfl (Or.inl rfl) (pe_lst pa_nil))
      (pss_cons (ps_set (i := 3) scPlayed.nd rfl (Or.inl rfl) (pe_fld (pv 0) rfl))
      (pss_cons (ps_for PassesOwn.never rfl (pi_list (pv 1)) (pg_name (i := 4) scPlayed.nd rfl (Or.inl rfl))
        (pss_cons (ps_set (i := 5) scPlayed.nd rfl (Or.inr rfl) (pe_call GN (hr.mono (by decide)) (by rfl) gN kN bN .nil pass0 (pa_cons (pe_fld (pv 0) rfl) (pa_cons (pe_tup (StX.pa_star (pv 4) (StX.pa_star (pv 3) pa_nil))) pa_nil))))
        (pss_cons (ps_expr (pe_bm PySem.F.plainAttrs_list PySem.F.slot_list_append PySem.F.type_list_append mt_append (pv 2) (pa_cons (pe_tup (pa_cons (pv 3) (pa_cons (pe_call GL (hr.mono (by decide)) (by rfl) gL kL bL .nil pass0 (pa_cons (pv 5) (pa_cons (pe_fld (pv 0) rfl) pa_nil))) pa_nil))) pa_nil)))
        (pss_one (ps_set (i := 3) scPlayed.nd rfl (Or.inl rfl) (pe_callTy (T := "tuple") (r := rTupOf K) (by exact call_tuple_of) (by rfl) T.q.z.gr.ki.tuple (by decide +kernel) (pa_cons (pe_lc (own := [("literal", 6)]) (g := gName 6) (tt := tYes) rfl scPlayed.nd (pi_tup (pe_fld (pv 0) rfl)) (blkOk_by (N := nPlayed) (sc := defScope sPlayed) (by decide +kernel)) (fun _ _ _ _ _ => pg_name (i := 6) scPlayed.nd rfl (Or.inl rfl)) (fun _ _ _ _ _ => pts_nil) (fun _ _ _ _ _ => (pe_call GL (hr.mono (by decide)) (by rfl) gL kL bL .nil pass0 (pa_cons (pv 5) (pa_cons (pv 6) pa_nil))))) pa_nil)))))))
      (pss_one (ps_ret (pe_callTy (T := "tuple") (r := rTupOf K) (by exact call_tuple_of) (by rfl) T.q.z.gr.ki.tuple (by decide +kernel) (pa_cons (pv 2) pa_nil)))))))), ?_⟩
      refine ⟨_, rfl, _, rfl, p, M, dm, _, _, rfl, hm, T.q.z.cl, T.q.z.nI, fi, .ref r, i, d, rfl, d1, by omega, fun e he => by have := d3 e he; omega, fun H1 s1 => ⟨_, rfl, ?_⟩⟩
      rw [d4]
      refine iteF ⟨len0, fun l nl => ?_⟩
      have sl := same_new (u := .lst []) nl
      have s01 := s1.trans sl
      refine ⟨_, rfl, p, M, dm, _, _, rfl, s01 _ _ hm, T.q.z.cl, T.q.z.nR, fr, ?_⟩
      have hr1 := (s01).seq ht
      refine ⟨_, rfl, r, rfl, ⟨_, hr1⟩, for_list (K := K) (a := r) (xs := ws)
        (fun k σ H2 => ∃ (b : Addr) (us : List V) (x4 x5 : Option V), σ = [some (.ref p), some (.ref r), some (.ref l), some (.ref b), x4, x5, none] ∧ Same H1 H2 ∧ SqT K H2 b ((playM gs nx wi rs (rows.take k)).2.map V.int) ∧ H2 l = some (.lst us) ∧ All2 (Pw K H2) us (playM gs nx wi rs (rows.take k)).1)
        ⟨t1, [], none, none, rfl, sl, seqT_same s01 hrs, upd_same, .nil⟩ (fun k σ H2 _ ⟨_, _, _, _, _, s2, _⟩ => (s1.trans s2).seq ht) ?_ ?_⟩
      · rintro k y σ H2 hk ⟨b, us, x4, x5, rfl, s2, hb, hl, hu⟩
        obtain ⟨row, hrow1, q0, rfl, hq0⟩ := ha.get hk
        obtain ⟨rw1, rw2⟩ := brow row (List.mem_of_getElem? hrow1)
        have hk2 : k < rows.length := (List.getElem?_eq_some_iff.mp hrow1).1
        have s02 := s1.trans s2
        have pok := play_ok (gs := gs) (nx := nx) (wi := wi) (rows.take k) (start_ok (nx := nx) (st := rs) (by omega) (fun z hz => by have := ok.r01 z hz; omega)) fun x hx => (brow x (List.mem_of_mem_take hx)).2
        have hpl : (playM gs nx wi rs (rows.take k)).1.length = k := by
          rw [play_len, List.length_take, Nat.min_eq_left (Nat.le_of_lt hk2)]
        rw [play_take hrow1]
        have pok : PlOk nx.length (playM gs nx wi rs (rows.take k)) := pok
        generalize playM gs nx wi rs (rows.take k) = S at hb hu pok hpl ⊢
        have bl : ((row ++ S.2).length : Int) = n := by
          rw [List.length_append, pok.l]
          omega
        have bl2 : (row ++ S.2).length ≤ 7 := by omega
        have b01 : B01 (row ++ S.2) := fun z hz => by
          rcases List.mem_append.mp hz with h | h
          · exact rw2 z h
          · exact pok.b z h
        refine ⟨_, rfl, p, M, dm, _, _, rfl, s02 _ _ hm, T.q.z.cl, T.q.z.nG, fg, _, rfl, q0, _, rfl, .inl (SqT.of (s02 _ _ hq0)), _, rfl, b, _, rfl, .inl hb, ?_, fun t nt => ?_⟩
        · rw [List.append_nil, ← List.map_append, List.length_map]
          exact Nat.le_trans bl2 (by decide)
        have st := same_new (u := .tup ((row.map V.int) ++ (S.2.map V.int ++ []))) nt
        refine ⟨x, .ref t, gs, row ++ S.2, rfl, by rw [bl]; exact hG.firm (Firm.of (s02.trans st)), ⟨t, rfl, .inr (SqT.of (by rw [upd_same, List.append_nil, List.map_append]))⟩, b01, by rw [bl]; exact ok.gok, by omega, by omega, fun H3 t3 s3 ht3 => ?_⟩
        have s23 := st.trans s3
        have s03 := s02.trans s23
        have vl := vals_len (row ++ S.2) gs
        have v01 := vals_01 gs b01
        have w0 := ok.w0
        have w1 := ok.w1
        refine ⟨_, rfl, .inl ⟨rfl, _, SqL.of (s23 _ _ hl)⟩, _, rfl, _, rfl, _, rfl, p, M, dm, _, _, rfl, s03 _ _ hm, T.q.z.cl, T.q.z.nW, fw, t3, _, wi, _, rfl, ht3, w0, getD_of (by omega), .inr ⟨_, rfl, getD_01 v01 _, len2, fun t4 nt4 => ?_⟩⟩
        have s4 := same_new (u := .tup [.ref b, .int (ab ((vals (row ++ S.2) gs).getD (wi / 2).toNat 0 - wi % 2))]) nt4
        have hl4 := s4 _ _ (s23 _ _ hl)
        refine ⟨l, _, _, rfl, rfl, hl4, ?_, ?_⟩
        · rw [hu.len, hpl]
          exact Nat.lt_of_lt_of_le (by omega : k < 101) (by decide)
        have fl : Firm (upd H3 t4 (.tup [.ref b, .int (ab ((vals (row ++ S.2) gs).getD (wi / 2).toNat 0 - wi % 2))])) (upd (upd H3 t4 (.tup [.ref b, .int (ab ((vals (row ++ S.2) gs).getD (wi / 2).toNat 0 - wi % 2))])) l (.lst (us ++ [.ref t4]))) := Firm.upd hl4 rfl
        have f25 := (Firm.of (s23.trans s4)).trans fl
        have hu5 : All2 (Pw K _) (us ++ [.ref t4]) (S.1 ++ [(S.2, lit (vals (row ++ S.2) gs) wi)]) := (hu.imp fun _ _ h => h.firm f25).snoc ⟨t4, b, rfl, fl _ _ upd_same rfl, firm_seq f25 hb⟩
        have s5 : Same H1 (upd (upd H3 t4 (.tup [.ref b, .int (ab ((vals (row ++ S.2) gs).getD (wi / 2).toNat 0 - wi % 2))])) l (.lst (us ++ [.ref t4]))) := fun c o e => by
          rw [upd_ne (ne_of_none e nl)]
          exact s4 _ _ (s23 _ _ (s2 _ _ e))
        have h5l : upd (upd H3 t4 (.tup [.ref b, .int (ab ((vals (row ++ S.2) gs).getD (wi / 2).toNat 0 - wi % 2))])) l (.lst (us ++ [.ref t4])) l = some (.lst (us ++ [.ref t4])) := upd_same
        have ht5 := firm_seq ((Firm.of s4).trans fl) ht3
        generalize upd (upd H3 t4 _) l _ = H5 at s5 h5l hu5 ht5
        have s05 := s1.trans s5
        have hnx5 := seqT_same s05 hnx
        refine ⟨_, rfl, p, M, dm, _, _, rfl, s05 _ _ hm, T.q.z.cl, T.q.z.nN, fn, t2, rfl, ⟨_, hnx5⟩, fun D nD => ?_⟩
        refine lc_tup (K := K) (a := t2) (xs := nx.map V.int) (fun j H6 => Same H5 H6 ∧ H6 D = some (.lst (((nx.take j).map fun a => lit (vals (row ++ S.2) gs) a).map V.int))) ⟨same_new nD, upd_same⟩ (fun j H6 _ ⟨s6, _⟩ => seqT_same s6 hnx5) ?_ ?_
        · rintro j y H6 hj ⟨s6, h6⟩
          obtain ⟨z, rfl, hz1⟩ := Bw.int_at hj
          obtain ⟨z0, z1⟩ := ok.nb z (List.mem_of_getElem? hz1)
          refine ⟨rfl, yes_of ?_⟩
          refine ⟨_, rfl, _, rfl, t3, _, z, _, rfl, seqT_same s6 ht5, z0, getD_of (by omega), .inr ⟨_, rfl, getD_01 v01 _, _, h6, ?_, fun b o e => ?_, ?_⟩⟩
          · rw [List.length_map, List.length_map]
            exact Nat.lt_of_le_of_lt (List.length_take_le' _ _) (Nat.lt_of_lt_of_le (by omega : nx.length < 100) (by decide))
          · rw [upd_ne (ne_of_none e nD)]
            exact s6 _ _ e
          · rw [upd_same, take_more hz1, List.map_append, List.map_append]
            rfl
        · rintro H6 ⟨s6, h6⟩
          rw [List.length_map, List.take_length] at h6
          refine ⟨D, _, rfl, .inl ⟨SqL.of h6, fun t7 nt7 => ?_⟩⟩
          have s7 := same_new (u := .tup ((nx.map fun a => lit (vals (row ++ S.2) gs) a).map V.int)) nt7
          exact ⟨t7, _, _, _, rfl, s5.trans (s6.trans s7), SqT.of upd_same, s7 _ _ (s6 _ _ h5l), hu5.imp fun _ _ h => h.firm (Firm.of (s6.trans s7))⟩
      · rintro σ H2 ⟨b, us, x4, x5, rfl, s2, hb, hl, hu⟩
        rw [ha.len, List.take_length] at hu
        refine ⟨_, rfl, l, _, rfl, .inl ⟨SqL.of hl, fun t nt => ?_⟩⟩
        have st := same_new (u := .tup us) nt
        exact q _ t (s1.trans (s2.trans st)) ⟨us, upd_same, hu.imp fun _ _ h => h.firm (Firm.of st)⟩
    · refine ⟨_, PSs.nox (pss_cons (ps_if (pt_not (pt_val (pe_call GW (hr.mono (by decide)) (by rfl) gW kW bW .nil pass0 (pa_cons (pv 1) (pa_cons (pe_fld (pv 0) rfl) pa_nil)))))
        (pss_one ps_never)
        pss_nil)
      (pss_cons (ps_set (i := 2) scPlayed.nd rfl (Or.inl rfl) (pe_lst pa_nil))
      (pss_cons (ps_set (i := 3) scPlayed.nd rfl (Or.inl rfl) (pe_fld (pv 0) rfl))
      (pss_cons (ps_for PassesOwn.never rfl (pi_tup (pv 1)) (pg_name (i := 4) scPlayed.nd rfl (Or.inl rfl))
        (pss_cons (ps_set (i := 5) scPlayed.nd rfl (Or.inr rfl) (pe_call GN (hr.mono (by decide)) (by rfl) gN kN bN .nil pass0 (pa_cons (pe_fld (pv 0) rfl) (pa_cons (pe_tup (StX.pa_star (pv 4) (StX.pa_star (pv 3) pa_nil))) pa_nil))))
        (pss_cons (ps_expr (pe_bm PySem.F.plainAttrs_list PySem.F.slot_list_append PySem.F.type_list_append mt_append (pv 2) (pa_cons (pe_tup (pa_cons (pv 3) (pa_cons (pe_call GL (hr.mono (by decide)) (by rfl) gL kL bL .nil pass0 (pa_cons (pv 5) (pa_cons (pe_fld (pv 0) rfl) pa_nil))) pa_nil))) pa_nil)))
        (pss_one (ps_set (i := 3) scPlayed.nd rfl (Or.inl rfl) (pe_callTy (T := "tuple") (r := rTupOf K) (by exact call_tuple_of) (by rfl) T.q.z.gr.ki.tuple (by decide +kernel) (pa_cons (pe_lc (own := [("literal", 6)]) (g := gName 6) (tt := tYes) rfl scPlayed.nd (pi_tup (pe_fld (pv 0) rfl)) (blkOk_by (N := nPlayed) (sc := defScope sPlayed) (by decide +kernel)) (fun _ _ _ _ _ => pg_name (i := 6) scPlayed.nd rfl (Or.inl rfl)) (fun _ _ _ _ _ => pts_nil) (fun _ _ _ _ _ => (pe_call GL (hr.mono (by decide)) (by rfl) gL kL bL .nil pass0 (pa_cons (pv 5) (pa_cons (pv 6) pa_nil))))) pa_nil)))))))
      (pss_one (ps_ret (pe_callTy (T := "tuple") (r := rTupOf K) (by exact call_tuple_of) (by rfl) T.q.z.gr.ki.tuple (by decide +kernel) (pa_cons (pv 2) pa_nil)))))))), ?_⟩
      refine ⟨_, rfl, _, rfl, p, M, dm, _, _, rfl, hm, T.q.z.cl, T.q.z.nI, fi, .ref r, i, d, rfl, d1, by omega, fun e he => by have := d3 e he; omega, fun H1 s1 => ⟨_, rfl, ?_⟩⟩
      rw [d4]
      refine iteF ⟨len0, fun l nl => ?_⟩
      have sl := same_new (u := .lst []) nl
      have s01 := s1.trans sl
      refine ⟨_, rfl, p, M, dm, _, _, rfl, s01 _ _ hm, T.q.z.cl, T.q.z.nR, fr, ?_⟩
      have hr1 := seqT_same (s01) ht
      refine ⟨_, rfl, r, rfl, ⟨_, hr1⟩, for_tup (K := K) (a := r) (xs := ws)
        (fun k σ H2 => ∃ (b : Addr) (us : List V) (x4 x5 : Option V), σ = [some (.ref p), some (.ref r), some (.ref l), some (.ref b), x4, x5, none] ∧ Same H1 H2 ∧ SqT K H2 b ((playM gs nx wi rs (rows.take k)).2.map V.int) ∧ H2 l = some (.lst us) ∧ All2 (Pw K H2) us (playM gs nx wi rs (rows.take k)).1)
        ⟨t1, [], none, none, rfl, sl, seqT_same s01 hrs, upd_same, .nil⟩ (fun k σ H2 _ ⟨_, _, _, _, _, s2, _⟩ => seqT_same (s1.trans s2) ht) ?_ ?_⟩
      · rintro k y σ H2 hk ⟨b, us, x4, x5, rfl, s2, hb, hl, hu⟩
        obtain ⟨row, hrow1, q0, rfl, hq0⟩ := ha.get hk
        obtain ⟨rw1, rw2⟩ := brow row (List.mem_of_getElem? hrow1)
        have hk2 : k < rows.length := (List.getElem?_eq_some_iff.mp hrow1).1
        have s02 := s1.trans s2
        have pok := play_ok (gs := gs) (nx := nx) (wi := wi) (rows.take k) (start_ok (nx := nx) (st := rs) (by omega) (fun z hz => by have := ok.r01 z hz; omega)) fun x hx => (brow x (List.mem_of_mem_take hx)).2
        have hpl : (playM gs nx wi rs (rows.take k)).1.length = k := by
          rw [play_len, List.length_take, Nat.min_eq_left (Nat.le_of_lt hk2)]
        rw [play_take hrow1]
        have pok : PlOk nx.length (playM gs nx wi rs (rows.take k)) := pok
        generalize playM gs nx wi rs (rows.take k) = S at hb hu pok hpl ⊢
        have bl : ((row ++ S.2).length : Int) = n := by
          rw [List.length_append, pok.l]
          omega
        have bl2 : (row ++ S.2).length ≤ 7 := by omega
        have b01 : B01 (row ++ S.2) := fun z hz => by
          rcases List.mem_append.mp hz with h | h
          · exact rw2 z h
          · exact pok.b z h
        refine ⟨_, rfl, p, M, dm, _, _, rfl, s02 _ _ hm, T.q.z.cl, T.q.z.nG, fg, _, rfl, q0, _, rfl, .inl (SqT.of (s02 _ _ hq0)), _, rfl, b, _, rfl, .inl hb, ?_, fun t nt => ?_⟩
        · rw [List.append_nil, ← List.map_append, List.length_map]
          exact Nat.le_trans bl2 (by decide)
        have st := same_new (u := .tup ((row.map V.int) ++ (S.2.map V.int ++ []))) nt
        refine ⟨x, .ref t, gs, row ++ S.2, rfl, by rw [bl]; exact hG.firm (Firm.of (s02.trans st)), ⟨t, rfl, .inr (SqT.of (by rw [upd_same, List.append_nil, List.map_append]))⟩, b01, by rw [bl]; exact ok.gok, by omega, by omega, fun H3 t3 s3 ht3 => ?_⟩
        have s23 := st.trans s3
        have s03 := s02.trans s23
        have vl := vals_len (row ++ S.2) gs
        have v01 := vals_01 gs b01
        have w0 := ok.w0
        have w1 := ok.w1
        refine ⟨_, rfl, .inl ⟨rfl, _, SqL.of (s23 _ _ hl)⟩, _, rfl, _, rfl, _, rfl, p, M, dm, _, _, rfl, s03 _ _ hm, T.q.z.cl, T.q.z.nW, fw, t3, _, wi, _, rfl, ht3, w0, getD_of (by omega), .inr ⟨_, rfl, getD_01 v01 _, len2, fun t4 nt4 => ?_⟩⟩
        have s4 := same_new (u := .tup [.ref b, .int (ab ((vals (row ++ S.2) gs).getD (wi / 2).toNat 0 - wi % 2))]) nt4
        have hl4 := s4 _ _ (s23 _ _ hl)
        refine ⟨l, _, _, rfl, rfl, hl4, ?_, ?_⟩
        · rw [hu.len, hpl]
          exact Nat.lt_of_lt_of_le (by omega : k < 101) (by decide)
        have fl : Firm (upd H3 t4 (.tup [.ref b, .int (ab ((vals (row ++ S.2) gs).getD (wi / 2).toNat 0 - wi % 2))])) (upd (upd H3 t4 (.tup [.ref b, .int (ab ((vals (row ++ S.2) gs).getD (wi / 2).toNat 0 - wi % 2))])) l (.lst (us ++ [.ref t4]))) := Firm.upd hl4 rfl
        have f25 := (Firm.of (s23.trans s4)).trans fl
        have hu5 : All2 (Pw K _) (us ++ [.ref t4]) (S.1 ++ [(S.2, lit (vals (row ++ S.2) gs) wi)]) := (hu.imp fun _ _ h => h.firm f25).snoc ⟨t4, b, rfl, fl _ _ upd_same rfl, firm_seq f25 hb⟩
        have s5 : Same H1 (upd (upd H3 t4 (.tup [.ref b, .int (ab ((vals (row ++ S.2) gs).getD (wi / 2).toNat 0 - wi % 2))])) l (.lst (us ++ [.ref t4]))) := fun c o e => by
          rw [upd_ne (ne_of_none e nl)]
          exact s4 _ _ (s23 _ _ (s2 _ _ e))
        have h5l : upd (upd H3 t4 (.tup [.ref b, .int (ab ((vals (row ++ S.2) gs).getD (wi / 2).toNat 0 - wi % 2))])) l (.lst (us ++ [.ref t4])) l = some (.lst (us ++ [.ref t4])) := upd_same
        have ht5 := firm_seq ((Firm.of s4).trans fl) ht3
        generalize upd (upd H3 t4 _) l _ = H5 at s5 h5l hu5 ht5
        have s05 := s1.trans s5
        have hnx5 := seqT_same s05 hnx
        refine ⟨_, rfl, p, M, dm, _, _, rfl, s05 _ _ hm, T.q.z.cl, T.q.z.nN, fn, t2, rfl, ⟨_, hnx5⟩, fun D nD => ?_⟩
        refine lc_tup (K := K) (a := t2) (xs := nx.map V.int) (fun j H6 => Same H5 H6 ∧ H6 D = some (.lst (((nx.take j).map fun a => lit (vals (row ++ S.2) gs) a).map V.int))) ⟨same_new nD, upd_same⟩ (fun j H6 _ ⟨s6, _⟩ => seqT_same s6 hnx5) ?_ ?_
        · rintro j y H6 hj ⟨s6, h6⟩
          obtain ⟨z, rfl, hz1⟩ := Bw.int_at hj
          obtain ⟨z0, z1⟩ := ok.nb z (List.mem_of_getElem? hz1)
          refine ⟨rfl, yes_of ?_⟩
          refine ⟨_, rfl, _, rfl, t3, _, z, _, rfl, seqT_same s6 ht5, z0, getD_of (by omega), .inr ⟨_, rfl, getD_01 v01 _, _, h6, ?_, fun b o e => ?_, ?_⟩⟩
          · rw [List.length_map, List.length_map]
            exact Nat.lt_of_le_of_lt (List.length_take_le' _ _) (Nat.lt_of_lt_of_le (by omega : nx.length < 100) (by decide))
          · rw [upd_ne (ne_of_none e nD)]
            exact s6 _ _ e
          · rw [upd_same, take_more hz1, List.map_append, List.map_append]
            rfl
        · rintro H6 ⟨s6, h6⟩
          rw [List.length_map, List.take_length] at h6
          refine ⟨D, _, rfl, .inl ⟨SqL.of h6, fun t7 nt7 => ?_⟩⟩
          have s7 := same_new (u := .tup ((nx.map fun a => lit (vals (row ++ S.2) gs) a).map V.int)) nt7
          exact ⟨t7, _, _, _, rfl, s5.trans (s6.trans s7), SqT.of upd_same, s7 _ _ (s6 _ _ h5l), hu5.imp fun _ _ h => h.firm (Firm.of (s6.trans s7))⟩
      · rintro σ H2 ⟨b, us, x4, x5, rfl, s2, hb, hl, hu⟩
        rw [ha.len, List.take_length] at hu
        refine ⟨_, rfl, l, _, rfl, .inl ⟨SqL.of hl, fun t nt => ?_⟩⟩
        have st := same_new (u := .tup us) nt
        exact q _ t (s1.trans (s2.trans st)) ⟨us, upd_same, hu.imp fun _ _ h => h.firm (Firm.of st)⟩
theorem ok_playx (F : FnP K "played" sPlayed f fd) (T : Tl K mg C M B U CN CR fN fR fE fF fA fG fI) {fW : Addr} {dW fd2 : FuncData} (GW : FnOk P w K mg base CX0 3 fW dW ["value", "many"] (spRowsBits K)) (gW : mg "are_rows_of_bits" = some (.ref fW)) (kW : PySem.W.keepIn K (.ref fW) = true) (bW : Binds K dW ["value", "many"] [])
    (GX : FnOk P w K mg base CX0 1 fR fd2 riN (spRowI CR)) (bX : Binds K fd2 riN []) : FnOk P w K mg base (L2.CX P w) 4 f fd ["machine", "rows"] (spPlayX K M CR) := by
  refine F.ok scPlayed (fun vs H Q E h => ?_) (fun cdv A outer s H vs Q E hr h => ?_)
  · obtain ⟨p, x, v, i, wi, rs, nx, d, rfl, _⟩ := h
    rfl
  · obtain ⟨p, x, v, i, wi, rs, nx, d, rfl, ⟨dm, fm, t1, t2, hm, fg, fi, _⟩, hd, z1, z2, e, row⟩ := h
    have tk : Takes (cxOf (L2.CX P w) P w K mg base nPlayed "played" (defScope sPlayed) f cdv A outer s H E) (fun cls d _ H => E cls d H) := takes_of rfl rfl rfl rfl
    refine ⟨_, pss_cons (ps_if (pt_not (pt_val (pe_call GW hr (by rfl) gW kW bW .nil pass0 (pa_cons (pv 1) (pa_cons (pe_fld (pv 0) rfl) pa_nil)))))
      (pss_one (ps_raise rfl tk (pmk_oex T.q.z.r.oe T.q.z.r.ini T.q.z.r.fn GX (hr.mono (by decide)) bX .nil pass0 (by rfl) T.q.z.why.mR (pa_cons (pv 1) pa_nil)))) pss_nil) (pss_cons ps_never (pss_cons ps_never (pss_cons ps_never (pss_one ps_never)))), ?_⟩
    have rowS : ∀ {H1 : Hp}, Same H H1 → Row CR E H1 v := fun s d H' s2 e => row d H' (s.trans s2) e
    refine ⟨_, rfl, _, rfl, p, M, dm, _, _, rfl, hm, T.q.z.cl, T.q.z.nI, fi, v, i, d, rfl, hd, z1, z2, fun H1 s1 => ⟨_, rfl, ?_⟩⟩
    rw [e]
    exact iteT (mk_row (te := tVar 1) (fun R r => ⟨_, rfl, r⟩) (rowS s1))
theorem brk_last (ws : List Int) (h : ws ≠ []) : atI (ws.map V.int) (-1) = some (.int (ws.getLast h)) := by
  have e : ws.map V.int = (ws.dropLast.map V.int) ++ [V.int (ws.getLast h)] := by
    have z := List.dropLast_concat_getLast h
    rw [← List.map_singleton (f := V.int), ← List.map_append, z]
  rw [e]
  exact atI_last _ _
theorem ok_breaks (F : FnP K "breaks" sBreaks f fd) (T : Tl K mg C M B U CN CR fN fR fE fF fA fG fI)
    {fY : Addr} {dY : FuncData}
    (GY : FnOk P w K mg base CX0 4 fY dY ["machine", "rows"] (spPlayed K C M)) (gY : mg "played" = some (.ref fY)) (kY : PySem.W.keepIn K (.ref fY) = true) (bY : Binds K dY ["machine", "rows"] [])
    : FnOk P w K mg base CX0 5 f fd ["machine", "rows"] (spBreaks K C M) := by
  refine F.ok scBreaks (fun vs H Q E h => ?_) (fun cdv A outer s H vs Q E hr h => ?_)
  · obtain ⟨p, x, v, n, i, wi, gs, rs, nx, rows, rfl, _⟩ := h
    rfl
  · obtain ⟨p, x, v, n, i, wi, gs, rs, nx, rows, rfl, hM, hG, ok, hrow, lrow, brow, q⟩ := h
    refine ⟨_, PSs.nox (pss_cons (ps_setLc (i := 4) (own := [("_", 2), ("wish", 3)]) (g := _) (tt := tYes) (by rfl) scBreaks.nd rfl rfl (sw_true rfl rfl rfl (by decide +kernel)) (pi_tup (pe_call GY (hr.mono (by decide)) (by rfl) gY kY bY .nil pass0 (pa_cons (pv 0) (pa_cons (pv 1) pa_nil)))) (blkOk_by (N := nBreaks) (sc := defScope sBreaks) (by decide +kernel)) (fun _ _ _ _ _ => (Us.pg_tupK (K := K) (n := 2) rfl rfl (pgs_cons (pg_name (i := 2) scBreaks.nd rfl (Or.inl rfl)) (pgs_cons (pg_name (i := 3) scBreaks.nd rfl (Or.inl rfl)) pgs_nil)))) (fun _ _ _ _ _ => pts_nil) (fun _ _ _ _ _ => (pv 3)))
      (pss_one (ps_ret (pe_and (pe_cmpR op_gt (pe_callB call_len_seq (by rfl) T.q.z.gr.ki.len PySem.boot_len (pa_cons (pv 4) pa_nil)) pe_int (nomark _)) (pe_and (pe_cmpR op_eq (pe_ix ix_list (pv 4) (pe_un un_neg pe_int) (fun _ _ => rfl)) pe_int (nomark _)) (pe_one (pe_cmpR (r := rIn K true) (by exact op_notIn_seq) pe_int (pe_slice sl_list (pv 4) po_none (po_some (pe_un un_neg pe_int))) (by rfl)))))))), ?_⟩
    refine ⟨_, rfl, _, rfl, p, x, v, n, i, wi, gs, rs, nx, rows, rfl, hM, hG, ok, hrow, lrow, brow, fun H1 t s1 ⟨us, ht, hu⟩ => ⟨t, rfl, ⟨_, SqT.of ht⟩, fun D nD => ?_⟩⟩
    have pl := play_len (gs := gs) (nx := nx) (wi := wi) (st := rs) rows
    generalize (playM gs nx wi rs rows).1 = ps at hu pl q
    refine lc_tup (K := K) (a := t) (xs := us) (fun j H2 => Same H1 H2 ∧ H2 D = some (.lst (((ps.take j).map fun z => z.2).map V.int))) ⟨same_new nD, upd_same⟩ (fun j H2 _ ⟨s2, _⟩ => SqT.of (s2 _ _ ht)) ?_ ?_
    · rintro j y H2 hj ⟨s2, h2⟩
      obtain ⟨z, hz, a, b, rfl, ha, hb⟩ := hu.get hj
      have hj2 : j < ps.length := (List.getElem?_eq_some_iff.mp hz).1
      refine ⟨a, _, rfl, SqT.of (s2 _ _ ha), rfl, _, _, rfl, _, _, rfl, rfl, rfl, yes_of ?_⟩
      refine ⟨_, rfl, _, h2, ?_, fun b o e => ?_, ?_⟩
      · rw [List.length_map, List.length_map]
        exact Nat.lt_of_le_of_lt (List.length_take_le _ _) (Nat.lt_of_lt_of_le (by omega : j < 101) (by decide))
      · rw [upd_ne (ne_of_none e nD)]
        exact s2 _ _ e
      · rw [upd_same, take_more hz, List.map_append, List.map_append]
        rfl
    · rintro H2 ⟨s2, h2⟩
      rw [hu.len, List.take_length] at h2
      have s12 := s1.trans s2
      generalize ps.map (fun z => z.2) = ws at h2 q
      refine ⟨_, rfl, D, _, rfl, .inl (SqL.of h2), _, _, rfl, rfl, _, rfl, ?_⟩
      have lw : (ws.map V.int).length = ws.length := List.length_map ..
      refine ite2 (fun h => ?_) (fun h => ?_)
      · have h := of_decide_eq_true h
        rw [lw] at h
        have hne : ws ≠ [] := fun z => by
          rw [z] at h
          exact absurd h (by decide)
        refine ⟨_, rfl, _, rfl, D, _, _, _, rfl, rfl, SqL.of h2, brk_last ws hne, rfl, _, rfl, ?_⟩
        refine ite2 (fun h3 => ?_) (fun h3 => ?_)
        · have h3 : ws.getLast hne = 0 := V.int.inj (of_decide_eq_true h3)
          refine ⟨_, rfl, _, rfl, _, rfl, D, _, rfl, SqL.of h2, fun p2 np2 => ⟨p2, _, rfl, .inl (SqL.of upd_same), rfl, ?_, ?_⟩⟩
          · rw [cut_neg, ← List.map_take, List.all_map]
            exact List.all_eq_true.mpr fun _ _ => rfl
          · rw [cut_neg, ← List.map_take, inV_ints, lw, ← List.dropLast_eq_take]
            have e : brkB ws = !decide ((0 : Int) ∈ ws.dropLast) := by
              unfold brkB
              rw [decide_eq_true (List.length_pos_iff.mpr hne), List.getLast?_eq_some_getLast hne, h3]
              simp
            show Q (.bl (if true = true then !decide ((0 : Int) ∈ ws.dropLast) else decide ((0 : Int) ∈ ws.dropLast))) _
            rw [if_pos rfl, ← e]
            exact q _ (s12.trans (same_new np2))
        · have h3 : ¬ ws.getLast hne = 0 := fun z => h3 (decide_eq_true (congrArg V.int z))
          have e : brkB ws = false := by
            unfold brkB
            rw [List.getLast?_eq_some_getLast hne, decide_eq_false (fun z => h3 (Option.some.inj z))]
            simp
          show Q (.bl false) H2
          rw [← e]
          exact q _ s12
      · have e : brkB ws = false := by
          have z : ¬ 0 < ws.length := fun z => h (decide_eq_true (by
            show ((ws.map V.int).length : Int) > 0
            rw [lw]
            omega))
          unfold brkB
          rw [decide_eq_false z]
          rfl
        show Q (.bl false) H2
        rw [← e]
        exact q _ s12
theorem ok_breakx (F : FnP K "breaks" sBreaks f fd) {fY : Addr} {dY : FuncData} (GY : FnOk P w K mg base (L2.CX P w) 4 fY dY ["machine", "rows"] (spPlayX K M CR)) (gY : mg "played" = some (.ref fY)) (kY : PySem.W.keepIn K (.ref fY) = true) (bY : Binds K dY ["machine", "rows"] []) :
    FnOk P w K mg base (L2.CX P w) 5 f fd ["machine", "rows"] (spPlayX K M CR) := by
  refine F.ok scBreaks (fun vs H Q E h => ?_) (fun cdv A outer s H vs Q E hr h => ?_)
  · obtain ⟨p, x, v, i, wi, rs, nx, d, rfl, _⟩ := h
    rfl
  · obtain ⟨p, x, v, i, wi, rs, nx, d, rfl, hM, hd, z1, z2, e, row⟩ := h
    have tk : Takes (cxOf (L2.CX P w) P w K mg base nBreaks "breaks" (defScope sBreaks) f cdv A outer s H E) (fun cls d _ H => E cls d H) := takes_of rfl rfl rfl rfl
    refine ⟨_, (pss_cons (ps_setLc (i := 4) (own := [("_", 2), ("wish", 3)]) (g := _) (tt := tYes) (by rfl) scBreaks.nd rfl rfl (sw_true rfl rfl rfl (by decide +kernel)) (pi_tup (pe_call GY (hr.mono (by decide)) (by rfl) gY kY bY .nil (passes_call tk fun _ _ _ _ h => h) (pa_cons (pv 0) (pa_cons (pv 1) pa_nil)))) (blkOk_by (N := nBreaks) (sc := defScope sBreaks) (by decide +kernel)) (fun _ _ _ _ _ => (Us.pg_tupK (K := K) (n := 2) rfl rfl (pgs_cons (pg_name (i := 2) scBreaks.nd rfl (Or.inl rfl)) (pgs_cons (pg_name (i := 3) scBreaks.nd rfl (Or.inl rfl)) pgs_nil)))) (fun _ _ _ _ _ => pts_nil) (fun _ _ _ _ _ => (pv 3))) (pss_one ps_never)), ?_⟩
    exact ⟨_, rfl, _, rfl, p, x, v, i, wi, rs, nx, d, rfl, hM, hd, z1, z2, e, row⟩
theorem ok_kept2 (F : FnP K "row_kept" sKeptR f fd) (T : Tq K mg C M CN CR fN fR fE fF) : FnOk P w K mg base CX0 1 f fd ["value"] (spKept2 K C) := by
  refine F.ok scKept (fun vs H Q E h => ?_) (fun cdv A outer s H vs Q E hr h => ?_)
  · obtain ⟨r, rfl, _⟩ := h
    rfl
  · obtain ⟨r, rfl, h, k⟩ := h
    refine ⟨_, PSs.nox (pss_one (ps_ret (pe_ifExp (pt_val (pe_callB call_isi (by rfl) T.z.gr.ki.isi (by decide +kernel) (pa_cons (pv 0) (pa_cons (pe_bltn (v := .ty "list") (by rfl) T.z.gr.ki.list (by decide +kernel) rfl) pa_nil))))
      (pe_callTy call_tuple_of (by rfl) T.z.gr.ki.tuple (by decide +kernel) (pa_cons (pv 0) pa_nil)) (pv 0)))), ?_⟩
    rcases h with ⟨xs, hs⟩ | ⟨dx, fs, hs⟩
    · exact ⟨_, rfl, _, _, _, _, _, rfl, .ty _, ty_tup hs, kit_ty (a := "tuple") (b := "list") (r := false) (by decide +kernel), _, rfl, iteF ⟨_, rfl, k⟩⟩
    · exact ⟨_, rfl, _, _, _, _, _, rfl, .ty _, .base (T.z.gr.met hs), T.lisG, _, rfl, iteF ⟨_, rfl, k⟩⟩
theorem seqT_put {p dx : Addr} {fs fs' : List (Str × V)} {H : Hp} {t : Addr} {xs : List V} (hp : H p = some (.ins U dx fs)) (h : SqT K H t xs) : SqT K (upd H p (.ins U dx fs')) t xs := by
  rcases h with (h | ⟨o, h⟩) | h
  · exact .inl (.inl (by rw [upd_ne (fun z => by rw [z, hp] at h; cases h)]; exact h))
  · exact .inl (.inr ⟨o, by rw [upd_ne (fun z => by rw [z, hp] at h; cases h)]; exact h⟩)
  · exact .inr h
theorem ok_ui2 {fK : Addr} {fdK : FuncData} (F : FunD K "__init__" "Unrolled.__init__" (defArgs sUInit) (defBody sUInit) (defScope sUInit) [] [] f fd) (T : Tl K mg C M B U CN CR fN fR fE fF fA fG fI)
    (GK : FnOk P w K mg base CX0 1 fK fdK ["value"] (spKept2 K C)) (gK : mg "row_kept" = some (.ref fK)) (kK : PySem.W.keepIn K (.ref fK) = true) (bK : Binds K fdK ["value"] []) : FnOk P w K mg base CX0 2 f fd uN (spUI2 K C U) := by
  refine F.ok scUI (fun vs H Q E h => ?_) (fun cdv A outer s H vs Q E hr h => ?_)
  · obtain ⟨p, dx, x, r1, r2, xs1, xs2, rfl, _⟩ := h
    rfl
  · obtain ⟨p, dx, x, r1, r2, xs1, xs2, rfl, hp, hx, h1, h2, q⟩ := h
    refine ⟨_, PSs.nox (pss_cons (ps_fld (pv 0) (pe_call GK hr (by rfl) gK kK bK .nil pass0 (pa_cons (pv 1) pa_nil)) rfl)
      (pss_cons (ps_fld (pv 0) (pe_call GK hr (by rfl) gK kK bK .nil pass0 (pa_cons (pv 2) pa_nil)) rfl)
      (pss_one (ps_fld (pv 0) (pe_call GK hr (by rfl) gK kK bK .nil pass0 (pa_cons (pv 3) pa_nil)) rfl)))), ?_⟩
    refine ⟨_, rfl, x, rfl, .inr hx, _, rfl, p, U, dx, _, rfl, hp, T.clU, T.u1, (by show 0 < 1000; decide), ?_⟩
    have k1 := seqT_put (fs' := putF "graph" (.ref x) []) hp h1
    have k2 := seqT_put (fs' := putF "graph" (.ref x) []) hp h2
    refine ⟨_, rfl, r1, rfl, .inl ⟨xs1, k1⟩, _, rfl, p, U, dx, _, rfl, upd_same, T.clU, T.u2, (by show 1 < 1000; decide), ?_⟩
    have k2 := seqT_put (fs' := putF "states" (.ref r1) (putF "graph" (.ref x) [])) upd_same k2
    refine ⟨_, rfl, r2, rfl, .inl ⟨xs2, k2⟩, _, rfl, p, U, dx, _, rfl, upd_same, T.clU, T.u3, (by show 2 < 1000; decide), ?_⟩
    refine q _ _ (fun b o e ne => ?_) upd_same ?_ ?_ ?_
    · rw [upd_ne ne, upd_ne ne, upd_ne ne]
      exact e
    · rw [lookup_putF, if_neg (by decide +kernel), lookup_putF, if_neg (by decide +kernel), lookup_putF, if_pos rfl]
    · rw [lookup_putF, if_neg (by decide +kernel), lookup_putF, if_pos rfl]
    · rw [lookup_putF, if_pos rfl]
end
end Ul
namespace Un
open PySem PySem.Spec PyProof.Rows L2 LamX Pen Dat Ki Fi Gr No Bd Be Bf Bg Bm Bx Ca Um Dm Wy Yg Zm Zn2 Ul
/-! ## unrolled -/
theorem fresh_two {H : Hp} {y dy g : Addr} {B : Addr} (ny : H y = none) (nd : H dy = none) (h : upd (upd H dy (.own y)) y (.ins B dy []) g = none) : H g = none := by
  cases e : H g with
  | none => rfl
  | some u =>
    rw [upd_ne (ne_of_none e ny), upd_ne (ne_of_none e nd), e] at h
    cases h
theorem st0_in {N m : Nat} {fr : Bool} {rs : List Int} (hm : rs.length = m) (h01 : ∀ z ∈ rs, 0 ≤ z ∧ z ≤ 1) (hN : aheadN fr m ≤ N) : ∀ z ∈ st0N fr m rs, InN N [] z := fun z hz => by
  unfold st0N at hz
  unfold InN
  cases fr with
  | true =>
    have hN : m ≤ N := hN
    have hz : z ∈ ownL m := hz
    unfold ownL at hz
    obtain ⟨j, hj, rfl⟩ := List.mem_map.mp hz
    have hj := List.mem_range.mp hj
    show 0 ≤ 2 * ((j : Int) + 1) ∧ 2 * ((j : Int) + 1) ≤ 2 * ((N : Int) + ((0 : Nat) : Int)) + 1
    omega
  | false =>
    have := h01 z hz
    show 0 ≤ z ∧ z ≤ 2 * ((N : Int) + ((0 : Nat) : Int)) + 1
    omega
theorem st0_len {m : Nat} {fr : Bool} {rs : List Int} (hm : rs.length = m) : (st0N fr m rs).length = m := by
  unfold st0N
  cases fr with
  | true => exact ownL_len m
  | false => exact hm
section
variable {P : Program} {w : World} {K : PySem.W.Frag} {mg : Str → Option Value} {base : Heap} {f C M B U CN CR fN fR fE fF fA fG fI : Addr} {fd : FuncData}
theorem ok_unrolled {fB fX : Addr} {dB dX dG : FuncData} (F : FnP K "unrolled" sUnrolled f fd) (T : Tl K mg C M B U CN CR fN fR fE fF fA fG fI)
    (mkB : Mk K B fB) (GB : FnOk P w K mg base CX0 3 fB dB ["self", "leaves"] (spBInit K B)) (gB : mg "Builder" = some (.ref B)) (bB : Binds K dB ["self", "leaves"] [])
    (mkU : Mk K U fX) (GU : FnOk P w K mg base CX0 2 fX dX uN (spUI2 K C U)) (gU : mg "Unrolled" = some (.ref U)) (bU : Binds K dX uN [])
    (GG : FnOk P w K mg base CX0 6 fG dG ["self"] (spBGraph K C B)) (bG : Binds K dG ["self"] [])
    {fF fP : Addr} {dF dP : FuncData}
    (GF : FnOk P w K mg base CX0 1 fF dF ["value", "least"] (spFrom K)) (gF : mg "is_from" = some (.ref fF)) (kF : PySem.W.keepIn K (.ref fF) = true) (bF : Binds K dF ["value", "least"] [])
    (GP : FnOk P w K mg base CX0 2 fP dP ["builder", "graph", "leaves", "literals"] (spPut K C B)) (gP : mg "put_into" = some (.ref fP)) (kP : PySem.W.keepIn K (.ref fP) = true) (bP : Binds K dP ["builder", "graph", "leaves", "literals"] [])
    : FnOk P w K mg base CX0 7 f fd ["machine", "cycles", "free"] (spUnrolled K C M U) := by
  refine F.ok scUnrolled (fun vs H Q E h => ?_) (fun cdv A outer s H vs Q E hr h => ?_)
  · obtain ⟨p, x, c, n, i, fr, wi, gs, rs, nx, rfl, _⟩ := h
    rfl
  · obtain ⟨p, x, c, n, i, fr, wi, gs, rs, nx, rfl, ⟨dm, fm, t1, t2, hm, fg, fi, frs, fn, fw, hrs, hnx⟩, hG, ok, c6, q⟩ := h
    have i0 := ok.i0
    have i1 := ok.i1
    have n7 := ok.n7
    have gl' := ok.glen
    have rl := ok.rl
    have nl' := ok.nl
    have im : i + rs.length = n := by omega
    have hm' : nx.length = rs.length := by omega
    have r4 : rs.length ≤ 7 := by omega
    have i7 : i ≤ 7 := by omega
    have ci : c * i ≤ 42 := Nat.le_trans (Nat.mul_le_mul c6 i7) (by decide)
    refine ⟨_, PSs.nox (pss_cons (ps_if (pt_not (pt_val (pe_call GF (hr.mono (by decide)) (by rfl) gF kF bF .nil pass0 (pa_cons (pv 1) (pa_cons pe_int pa_nil)))))
        (pss_one ps_never)
        pss_nil)
      (C8.pss_cut (ps_set (i := 3) scUnrolled.nd rfl (Or.inl rfl) (pe_ifExp (pt_val (pv 2)) (pe_callB call_len_seq (by rfl) T.q.z.gr.ki.len PySem.boot_len (pa_cons (pe_fld (pv 0) rfl) pa_nil)) pe_int))
      (pss_cons (ps_set (i := 4) scUnrolled.nd rfl (Or.inl rfl) (pe_make mkB GB (hr.mono (by decide)) (by rfl) gB bB .nil pass0 (pa_cons (pe_op op_add (pv 3) (pe_op op_mul (pv 1) (pe_fld (pv 0) rfl))) pa_nil)))
      (C8.pss_cut (ps_set (i := 6) scUnrolled.nd rfl (Or.inl rfl) (pe_ifExp (pt_val (pv 2)) (pe_callTy (T := "tuple") (r := rTupOf K) (by exact call_tuple_of) (by rfl) T.q.z.gr.ki.tuple (by decide +kernel) (pa_cons (pe_lc (own := [("n", 5)]) (g := gName 5) (tt := tYes) rfl scUnrolled.nd (pi_range2 (by rfl) T.rng (pa_cons pe_int (pa_cons (pe_op op_add (pv 3) pe_int) pa_nil))) (blkOk_by (N := nUnrolled) (sc := defScope sUnrolled) (by decide +kernel)) (fun _ _ _ _ _ => pg_name (i := 5) scUnrolled.nd rfl (Or.inl rfl)) (fun _ _ _ _ _ => pts_nil) (fun _ _ _ _ _ => (pe_op op_mul pe_int (pv 5)))) pa_nil)) (pe_fld (pv 0) rfl)))
      (pss_cons (ps_par (i := 7) (j := 8) rfl scUnrolled.nd rfl rfl (by decide) rfl rfl (pa_cons (pe_lst (pa_cons (pv 6) pa_nil)) (pa_cons (pe_lst pa_nil) pa_nil)) (by rfl))
      (pss_cons (ps_for PassesOwn.never rfl (pi_range1 (by rfl) T.rng (pa_cons (pv 1) pa_nil)) (pg_name (i := 9) scUnrolled.nd rfl (Or.inl rfl))
        (pss_cons (ps_set (i := 10) scUnrolled.nd rfl (Or.inl rfl) (pe_op op_add (pe_op op_add (pv 3) (pe_op op_mul (pv 9) (pe_fld (pv 0) rfl))) pe_int))
        (pss_cons (ps_setLc (i := 11) (own := [("n", 5)]) (g := gName 5) (tt := tYes) (by rfl) scUnrolled.nd rfl rfl (sw_true rfl rfl rfl (by decide +kernel)) (pi_range2 (by rfl) T.rng (pa_cons (pv 10) (pa_cons (pe_op op_add (pv 10) (pe_fld (pv 0) rfl)) pa_nil))) (blkOk_by (N := nUnrolled) (sc := defScope sUnrolled) (by decide +kernel)) (fun _ _ _ _ _ => pg_name (i := 5) scUnrolled.nd rfl (Or.inl rfl)) (fun _ _ _ _ _ => pts_nil) (fun _ _ _ _ _ => (pe_op op_mul pe_int (pv 5))))
        (pss_cons (ps_set (i := 12) scUnrolled.nd rfl (Or.inl rfl) (pe_call GP (hr.mono (by decide)) (by rfl) gP kP bP .nil pass0 (pa_cons (pv 4) (pa_cons (pe_fld (pv 0) rfl) (pa_cons (pe_tup (StX.pa_star (pv 11) (StX.pa_star (pv 6) pa_nil))) (pa_cons (pe_tup (StX.pa_star (pe_fld (pv 0) rfl) (pa_cons (pe_fld (pv 0) rfl) pa_nil))) pa_nil))))))
        (pss_cons (ps_set (i := 6) scUnrolled.nd rfl (Or.inl rfl) (pe_slice sl_tupA (pv 12) po_none (po_some (pe_un un_neg pe_int))))
        (pss_cons (ps_expr (pe_bm PySem.F.plainAttrs_list PySem.F.slot_list_append PySem.F.type_list_append mt_append (pv 7) (pa_cons (pv 6) pa_nil)))
        (pss_one (ps_expr (pe_bm PySem.F.plainAttrs_list PySem.F.slot_list_append PySem.F.type_list_append mt_append (pv 8) (pa_cons (pe_ix (r := L2.rIxT K) (by exact ix_tup) (pv 12) (pe_un un_neg pe_int) (fun _ _ => rfl)) pa_nil))))))))))
      (pss_one (ps_ret (pe_make mkU GU (hr.mono (by decide)) (by rfl) gU bU .nil pass0 (pa_cons (pe_meth0 (pv 4) T.ty.t.cl T.mG GG (hr.mono (by decide)) bG .nil pass0) (pa_cons (pe_callTy (T := "tuple") (r := rTupOf K) (by exact call_tuple_of) (by rfl) T.q.z.gr.ki.tuple (by decide +kernel) (pa_cons (pv 7) pa_nil)) (pa_cons (pe_callTy (T := "tuple") (r := rTupOf K) (by exact call_tuple_of) (by rfl) T.q.z.gr.ki.tuple (by decide +kernel) (pa_cons (pv 8) pa_nil)) pa_nil)))))))))))), ?_⟩
    refine ⟨_, rfl, .int c, 0, .int c, rfl, .int c, ?_⟩
    refine ⟨_, rfl, ?_⟩
    rw [show fromD (.int (c : Int)) 0 = true from by show decide ((c : Int) ≥ 0) = true; exact decide_eq_true (by omega)]
    refine iteF ?_
    refine ⟨fun σ H' => H' = H ∧ σ = [some (.ref p), some (.int c), some (.bl fr), some (.int (aheadN fr rs.length : Nat)), none, none, none, none, none, none, none, none, none], ?_, ?_⟩
    · refine ⟨_, rfl, fr, rfl, ?_⟩
      cases fr with
      | true => exact iteT ⟨_, rfl, p, M, dm, _, _, rfl, hm, T.q.z.cl, T.q.z.nR, frs, t1, _, rfl, .inr hrs, rfl, by rw [List.length_map]; rfl⟩
      | false => exact iteF ⟨rfl, rfl⟩
    rintro σ H' ⟨rfl, rfl⟩
    generalize hA : aheadN fr rs.length = ahead at q ⊢
    have a7 : ahead ≤ 7 := by
      rw [← hA]
      unfold aheadN
      split <;> omega
    refine ⟨_, rfl, _, rfl, _, rfl, p, M, dm, _, _, rfl, hm, T.q.z.cl, T.q.z.nI, fi, _, _, rfl, rfl, .inl ⟨by omega, by omega⟩, _, _, rfl, rfl, fun y dy ny nd _ => ?_⟩
    refine ⟨y, dy, (ahead + c * i : Nat), by rw [Int.natCast_add, Int.natCast_mul]; rfl, upd_same, by omega, fun H1 gl sd k1 hB hgl hsd => ⟨rfl, ?_⟩⟩
    have s1 : Same H' H1 := fun d u e => by
      have nxd := ne_of_none e ny
      refine k1 d u ?_ nxd
      rw [upd_ne nxd, upd_ne (ne_of_none e nd)]
      exact e
    have hg0 := fresh_two ny nd hgl
    have hs0 := fresh_two ny nd hsd
    clear k1 hgl hsd nd
    refine ⟨fun σ H2 => ∃ b, σ = [some (.ref p), some (.int c), some (.bl fr), some (.int ahead), some (.ref y), none, some (.ref b), none, none, none, none, none, none] ∧ Same H1 H2 ∧ SqT K H2 b ((st0N fr rs.length rs).map V.int), ?_, ?_⟩
    · refine ⟨_, rfl, fr, rfl, ?_⟩
      cases fr with
      | false => exact iteF ⟨_, rfl, p, M, dm, _, _, rfl, s1 _ _ hm, T.q.z.cl, T.q.z.nR, frs, t1, rfl, fun _ _ e => e, seqT_same s1 hrs⟩
      | true =>
        have hA : rs.length = ahead := hA
        subst hA
        refine iteT ⟨_, rfl, _, _, rfl, rfl, 1, (rs.length : Int) + 1, rfl, ⟨by decide, by decide, by omega, by omega⟩, fun D nD => ?_⟩
        have e1 : ((rs.length : Int) + 1 - 1).toNat = rs.length := by omega
        rw [e1]
        refine lc_range (lo := 1) (n := rs.length) (fun j H3 => Same H1 H3 ∧ H3 D = some (.lst (((List.range j).map fun (k : Nat) => 2 * ((1 : Int) + (k : Int))).map V.int))) ⟨same_new nD, upd_same⟩ ?_ ?_
        · rintro j H3 hj ⟨s3, h3⟩
          refine ⟨rfl, yes_of ?_⟩
          refine ⟨_, rfl, _, _, rfl, rfl, .inl ⟨by decide, by decide⟩, _, h3, ?_, fun b o e => ?_, ?_⟩
          · rw [List.length_map, List.length_map, List.length_range]
            exact Nat.lt_of_lt_of_le (by omega : j < 7) (by decide)
          · rw [upd_ne (ne_of_none e nD)]
            exact s3 _ _ e
          · rw [upd_same, List.range_succ, List.map_append, List.map_append]
            rfl
        · rintro H3 ⟨s3, h3⟩
          refine ⟨D, _, rfl, .inl ⟨SqL.of h3, fun t nt => ⟨t, rfl, s3.trans (same_new nt), SqT.of ?_⟩⟩⟩
          rw [upd_same]
          show _ = some (HO.tup ((ownL rs.length).map V.int))
          rw [own_leaf]
    rintro σ H2 ⟨b, rfl, s2, hb⟩
    have ha0 : aheadN fr rs.length ≤ ahead + c * i := by
      rw [hA]
      omega
    have st0l := st0_len (fr := fr) (rs := rs) rfl
    have st0i := st0_in (N := ahead + c * i) (fr := fr) (rs := rs) rfl ok.r01 ha0
    generalize st0N fr rs.length rs = st0 at hb q st0l st0i
    refine ⟨_, rfl, (by show 1 ≤ sizeLine; decide), fun l1 nl1 => ⟨len0, fun l2 nl2 => ⟨_, _, rfl, ?_⟩⟩⟩
    have sa := same_new (u := .lst [.ref b]) nl1
    have sb := same_new (u := .lst []) nl2
    have s3 := s2.trans (sa.trans sb)
    have hB3 := hB
    obtain ⟨db, wb, kb, b1, b2, b3, b4, b5⟩ := hB
    have l1y : l1 ≠ y := fun z => by rw [z, s2 _ _ b1] at nl1; cases nl1
    have l1g : l1 ≠ gl := fun z => by rw [z, s2 _ _ b2] at nl1; cases nl1
    have l1s : l1 ≠ sd := fun z => by rw [z, s2 _ _ b4] at nl1; cases nl1
    have l2y : l2 ≠ y := fun z => by rw [z, sa _ _ (s2 _ _ b1)] at nl2; cases nl2
    have l2g : l2 ≠ gl := fun z => by rw [z, sa _ _ (s2 _ _ b2)] at nl2; cases nl2
    have l2s : l2 ≠ sd := fun z => by rw [z, sa _ _ (s2 _ _ b4)] at nl2; cases nl2
    have l12 : l1 ≠ l2 := fun z => by rw [← z, upd_same] at nl2; cases nl2
    have nl1' : H' l1 = none := (s1.trans s2).free nl1
    have nl2' : H' l2 = none := (s1.trans (s2.trans sa)).free nl2
    have hB4 : BAt K B (upd (upd H2 l1 (.lst [.ref b])) l2 (.lst [])) y gl sd (ahead + c * i : Nat) [] := ⟨db, wb, kb, s3 _ _ b1, s3 _ _ b2, b3.imp fun _ _ h => h.firm (Firm.of s3), s3 _ _ b4, b5⟩
    refine ⟨_, rfl, c, rfl, by omega, by omega, for_range (lo := 0) (n := c)
      (fun k σ H4 => ∃ (b : Addr) (sv : List V) (x9 x10 x11 x12 : Option V), σ = [some (.ref p), some (.int c), some (.bl fr), some (.int ahead), some (.ref y), none, some (.ref b), some (.ref l1), some (.ref l2), x9, x10, x11, x12] ∧ Same H' H4 ∧ BAt K B H4 y gl sd (ahead + c * i : Nat) (unrM (ahead + c * i) gs nx wi ahead i st0 k).g ∧
        SqT K H4 b ((unrM (ahead + c * i) gs nx wi ahead i st0 k).st.map V.int) ∧ H4 l1 = some (.lst sv) ∧ All2 (TuS K H4) sv (unrM (ahead + c * i) gs nx wi ahead i st0 k).sts ∧ H4 l2 = some (.lst ((unrM (ahead + c * i) gs nx wi ahead i st0 k).ws.map V.int)))
      ⟨b, [.ref b], none, none, none, none, rfl, s1.trans s3, hB4, seqT_same (sa.trans sb) hb, sb _ _ upd_same, .cons ⟨b, rfl, seqT_same (sa.trans sb) hb⟩ .nil, upd_same⟩ ?_ ?_⟩
    · clear hB4 hB3 b1 b2 b3 b4 b5 s3 sa sb hb s2 nl1 nl2
      rintro k σ H4 hk ⟨b, sv, x9, x10, x11, x12, rfl, s4, hB4, hb, h1, hsv, h2⟩
      have e0 : (0 : Int) + (k : Int) = k := by omega
      rw [e0]
      have kN : ahead + (k + 1) * i ≤ ahead + c * i := Nat.add_le_add_left (Nat.mul_le_mul_right i hk) _
      have uok := unr_ok (N := ahead + c * i) (m := rs.length) (gs := gs) (nx := nx) (wi := wi) (ahead := ahead) (i := i) st0l st0i hm' k (Nat.add_le_add_left (Nat.mul_le_mul_right i (Nat.le_of_lt hk)) _)
      have ust := uok.step (nx := nx) (wi := wi) (ahead := ahead) (i := i) hm' kN
      rw [unr_more]
      generalize unrM (ahead + c * i) gs nx wi ahead i st0 k = S at hB4 hb hsv h2 uok ust ⊢
      have kg : k * gs.length ≤ 6 * 40 := Nat.mul_le_mul (by omega) gl'
      have ki : k * i ≤ 42 := Nat.le_trans (Nat.mul_le_mul (by omega : k ≤ 6) i7) (by decide)
      have sgl := uok.gl
      refine ⟨_, rfl, _, rfl, _, rfl, p, M, dm, _, _, rfl, s4 _ _ hm, T.q.z.cl, T.q.z.nI, fi, _, _, rfl, rfl, .inl ⟨by omega, by omega⟩, _, _, rfl, rfl, _, _, rfl, rfl, ?_⟩
      have ef : (ahead : Int) + (k : Int) * (i : Int) + 1 = ((ahead + k * i + 1 : Nat) : Int) := by
        rw [Int.natCast_add, Int.natCast_add, Int.natCast_mul]
        rfl
      show gName 10 (V.int ((ahead : Int) + (k : Int) * (i : Int) + 1)) _ _ _
      rw [ef]
      refine ⟨_, rfl, _, rfl, _, rfl, p, M, dm, _, _, rfl, s4 _ _ hm, T.q.z.cl, T.q.z.nI, fi, _, _, rfl, rfl, _, _, rfl, ⟨by omega, by omega, by omega, by omega⟩, fun D nD => ?_⟩
      have e1 : (((ahead + k * i + 1 : Nat) : Int) + (i : Int) - ((ahead + k * i + 1 : Nat) : Int)).toNat = i := by omega
      rw [e1]
      refine lc_range (lo := ((ahead + k * i + 1 : Nat) : Int)) (n := i) (fun j H5 => Same H4 H5 ∧ H5 D = some (.lst (((List.range j).map fun (u : Nat) => 2 * (((ahead + k * i + 1 : Nat) : Int) + (u : Int))).map V.int))) ⟨same_new nD, upd_same⟩ ?_ ?_
      · rintro j H5 hj ⟨s5, h5⟩
        refine ⟨rfl, yes_of ?_⟩
        refine ⟨_, rfl, _, _, rfl, rfl, .inl ⟨by decide, by decide⟩, _, h5, ?_, fun b o e => ?_, ?_⟩
        · rw [List.length_map, List.length_map, List.length_range]
          exact Nat.lt_of_lt_of_le (by omega : j < 7) (by decide)
        · rw [upd_ne (ne_of_none e nD)]
          exact s5 _ _ e
        · rw [upd_same, List.range_succ, List.map_append, List.map_append]
          rfl
      rintro H5 ⟨s5, h5⟩
      have h5 : H5 D = some (.lst ((leafL ahead i k).map V.int)) := h5
      have s45 := s4.trans s5
      refine ⟨_, rfl, _, rfl, p, M, dm, _, _, rfl, s45 _ _ hm, T.q.z.cl, T.q.z.nG, fg, _, rfl, D, _, rfl, .inr (SqL.of h5), _, rfl, b, _, rfl, .inl (seqT_same s5 hb), ?_, fun t6 nt6 => ?_⟩
      · rw [List.append_nil, ← List.map_append, List.length_map, List.length_append, leaf_len, uok.sl]
        exact Nat.le_trans (by omega : i + rs.length ≤ 14) (by decide)
      have s6 := same_new (u := .tup ((leafL ahead i k).map V.int ++ (S.st.map V.int ++ []))) nt6
      have s46 := s45.trans s6
      have h6 : upd H5 t6 (.tup ((leafL ahead i k).map V.int ++ (S.st.map V.int ++ []))) t6 = some (.tup ((leafL ahead i k ++ S.st).map V.int)) := by
        rw [upd_same, List.append_nil, List.map_append]
      generalize upd H5 t6 _ = H6 at s6 s46 h6 ⊢
      refine ⟨_, rfl, p, M, dm, _, _, rfl, s46 _ _ hm, T.q.z.cl, T.q.z.nN, fn, t2, _, rfl, .inl (seqT_same s46 hnx), _, rfl, p, M, dm, _, _, rfl, s46 _ _ hm, T.q.z.cl, T.q.z.nW, fw, ?_, fun t7 nt7 => ?_⟩
      · rw [List.length_append, List.length_map]
        exact Nat.le_trans (by show nx.length + 1 ≤ 14; omega) (by decide)
      have s7 := same_new (u := .tup (nx.map V.int ++ [V.int wi])) nt7
      have s47 := s46.trans s7
      have s567 := s5.trans (s6.trans s7)
      have h7 : upd H6 t7 (.tup (nx.map V.int ++ [V.int wi])) t7 = some (.tup ((nx ++ [wi]).map V.int)) := by
        rw [upd_same, List.map_append]
        rfl
      have h67 := s7 _ _ h6
      generalize upd H6 t7 _ = H7 at s7 s47 s567 h7 h67 ⊢
      have hB7 : BAt K B H7 y gl sd (ahead + c * i : Nat) S.g := by
        obtain ⟨db, wb, kb, b1, b2, b3, b4, b5⟩ := hB4
        exact ⟨db, wb, kb, s567 _ _ b1, s567 _ _ b2, b3.imp fun _ _ h => h.firm (Firm.of s567), s567 _ _ b4, b5⟩
      have li := lits_in (ahead := ahead) (i := i) uok kN
      refine ⟨y, gl, sd, x, t7, .ref t6, _, n, S.g, gs, leafL ahead i k ++ S.st, nx ++ [wi], rfl, hB7, hG.firm (Firm.of s47), ⟨t6, rfl, .inr (SqT.of h67)⟩, .inr (SqT.of h7), by omega, ?_, by omega, by omega, fun z hz => (li z (List.mem_cons_of_mem _ hz)).1, ok.gok, fun a ha => ?_, ?_, fun H8 t8 k8 f8 hB8 h8 => ?_⟩
      · rw [List.length_append, leaf_len, uok.sl]
        exact im
      · rcases List.mem_append.mp ha with h | h
        · obtain ⟨z0, z1⟩ := ok.nb a h
          exact ⟨z0, by omega⟩
        · rw [List.mem_singleton.mp h]
          have w0 := ok.w0
          have w1 := ok.w1
          exact ⟨w0, by omega⟩
      · rw [List.length_append]
        show nx.length + 1 ≤ 1000
        omega
      have s8 : Same H' H8 := fun b o e => k8 _ _ (s47 _ _ e) (ne_of_none e hg0) (ne_of_none e hs0)
      have h18 := k8 _ _ (s567 _ _ h1) l1g l1s
      have h28 := k8 _ _ (s567 _ _ h2) l2g l2s
      have f48 : Firm H4 H8 := (Firm.of s567).trans f8
      have hsv8 : All2 (TuS K H8) sv S.sts := hsv.imp fun _ _ h => h.firm f48
      clear h1 h2 hsv hb hB4 hB7 h67 h7 s7 s47 s567 h6 s6 s46 h5 s5 s45 k8 f8 f48 nD nt6 nt7 s4
      unfold uStep at ust ⊢
      generalize hR : putM ((ahead + c * i : Nat) : Int) S.g (leafL ahead i k ++ S.st) gs = R at hB8 h8 ust ⊢
      have h8 : H8 t8 = some (.tup ((nx.map (ledL R.2)).map V.int ++ [V.int (ledL R.2 wi)])) := by
        rw [h8, List.map_append, List.map_append]
        rfl
      have hl8 : ((nx.map (ledL R.2)).map V.int ++ [V.int (ledL R.2 wi)]).length - 1 = ((nx.map (ledL R.2)).map V.int).length := by
        rw [List.length_append]
        rfl
      refine ⟨_, rfl, _, rfl, _, rfl, cutA_neg h8 (by simp) fun t9 H9 s9 h9 => ?_⟩
      rw [hl8, List.take_left'  rfl] at h9
      have h19 := s9 _ _ h18
      refine ⟨_, rfl, .inl ⟨rfl, _, SqL.of h19⟩, _, rfl, l1, _, _, rfl, rfl, h19, ?_, ?_⟩
      · rw [hsv8.len, uok.tl]
        exact Nat.lt_of_lt_of_le (by omega : k + 1 < 10) (by decide)
      have f9 : Firm H9 (upd H9 l1 (.lst (sv ++ [.ref t9]))) := Firm.upd h19 rfl
      have k9 : Same H' (upd H9 l1 (.lst (sv ++ [.ref t9]))) := fun d o e => by
        rw [upd_ne (ne_of_none e nl1')]
        exact s9 _ _ (s8 _ _ e)
      have h29 : upd H9 l1 (.lst (sv ++ [.ref t9])) l2 = some (.lst (S.ws.map V.int)) := by
        rw [upd_ne l12.symm]
        exact s9 _ _ h28
      have hsv9 : All2 (TuS K (upd H9 l1 (.lst (sv ++ [.ref t9])))) (sv ++ [.ref t9]) (S.sts ++ [nx.map (ledL R.2)]) := (hsv8.imp fun _ _ h => (h.firm (Firm.of s9)).firm f9).snoc ⟨t9, rfl, SqT.of (f9 _ _ h9 rfl)⟩
      have hB9 : BAt K B (upd H9 l1 (.lst (sv ++ [.ref t9]))) y gl sd (ahead + c * i : Nat) R.1 := by
        obtain ⟨db, wb, kb, b1, b2, b3, b4, b5⟩ := hB8
        exact ⟨db, wb, kb, by rw [upd_ne l1y.symm]; exact s9 _ _ b1, by rw [upd_ne l1g.symm]; exact s9 _ _ b2, b3.imp fun _ _ h => (h.firm (Firm.of s9)).firm f9, by rw [upd_ne l1s.symm]; exact s9 _ _ b4, b5⟩
      have h99 := f9 _ _ h9 rfl
      have h89 := f9 _ _ (s9 _ _ h8) rfl
      have h19 : upd H9 l1 (.lst (sv ++ [.ref t9])) l1 = some (.lst (sv ++ [.ref t9])) := upd_same
      generalize upd H9 l1 _ = Ha at k9 h29 hsv9 hB9 h99 h89 h19 ⊢
      refine ⟨_, rfl, .inl ⟨rfl, _, SqL.of h29⟩, _, rfl, _, rfl, t8, _, _, _, rfl, rfl, SqT.of h89, atI_last _ _, l2, _, _, rfl, rfl, h29, ?_, ?_⟩
      · rw [List.length_map, uok.wl]
        exact Nat.lt_of_lt_of_le (by omega : k < 10) (by decide)
      have fb : Firm Ha (upd Ha l2 (.lst (S.ws.map V.int ++ [V.int (ledL R.2 wi)]))) := Firm.upd h29 rfl
      refine ⟨t9, sv ++ [.ref t9], _, _, _, _, rfl, fun d o e => ?_, ?_, SqT.of (fb _ _ h99 rfl), ?_, hsv9.imp fun _ _ h => h.firm fb, ?_⟩
      · rw [upd_ne (ne_of_none e nl2')]
        exact k9 _ _ e
      · obtain ⟨db, wb, kb, b1, b2, b3, b4, b5⟩ := hB9
        exact ⟨db, wb, kb, by rw [upd_ne l2y.symm]; exact b1, by rw [upd_ne l2g.symm]; exact b2, b3.imp fun _ _ h => h.firm fb, by rw [upd_ne l2s.symm]; exact b4, b5⟩
      · rw [upd_ne l12]
        exact h19
      · rw [upd_same, List.map_append]
        rfl
    · rintro σ H4 ⟨b, sv, x9, x10, x11, x12, rfl, s4, hB4, hb, h1, hsv, h2⟩
      have uok := unr_ok (N := ahead + c * i) (m := rs.length) (gs := gs) (nx := nx) (wi := wi) (ahead := ahead) (i := i) st0l st0i hm' c (Nat.le_refl _)
      generalize unrM (ahead + c * i) gs nx wi ahead i st0 c = S at hB4 hb hsv h2 uok q
      have kg : c * gs.length ≤ 6 * 40 := Nat.mul_le_mul c6 gl'
      have sgl := uok.gl
      have hB4' := hB4
      obtain ⟨db, wb, kb, b1, b2, b3, b4, b5⟩ := hB4
      refine ⟨_, rfl, y, db, _, rfl, b1, Bw.lkG _ _ _, y, gl, sd, _, S.g, rfl, hB4', by omega, by omega, uok.ok, fun H5 z s5 hz => ?_⟩
      refine ⟨_, rfl, l1, _, rfl, .inl ⟨SqL.of (s5 _ _ h1), fun t6 nt6 => ?_⟩⟩
      have s6 := same_new (u := .tup sv) nt6
      refine ⟨_, rfl, l2, _, rfl, .inl ⟨SqL.of (s6 _ _ (s5 _ _ h2)), fun t7 nt7 => ?_⟩⟩
      have s7 := same_new (u := .tup (S.ws.map V.int)) nt7
      have h67 := s7 _ _ (upd_same (H := H5) (a := t6) (o := .tup sv))
      have h7 := upd_same (H := upd H5 t6 (.tup sv)) (a := t7) (o := .tup (S.ws.map V.int))
      have s57 := s5.trans (s6.trans s7)
      have hz7 := hz.firm (Firm.of (s6.trans s7))
      generalize upd (upd H5 t6 _) t7 _ = H7 at s57 h67 h7 hz7 ⊢
      clear s6 s7 nt6 nt7
      intro o dv no nd ne
      have sv' : Same H7 (upd (upd H7 dv (.own o)) o (.ins U dv [])) := (same_new nd).trans (same_new (by rw [upd_ne (Ne.symm ne)]; exact no))
      obtain ⟨dg, g', gz, _⟩ := id hz7
      refine ⟨o, dv, z, t6, t7, sv, S.ws.map V.int, rfl, upd_same, ⟨dg, _, sv' _ _ gz⟩, SqT.of (sv' _ _ h67), SqT.of (sv' _ _ h7), fun H8 fs k8 ho l_1 l_2 l_3 => ⟨rfl, ?_⟩⟩
      have s78 : Same H7 H8 := fun d u e => k8 _ _ (sv' _ _ e) (ne_of_none e no)
      have s48 := s57.trans s78
      exact q H8 o (s4.trans s48) ⟨dv, fs, z, t6, t7, sv, ho, l_1, l_2, l_3, hz7.firm (Firm.of s78), s78 _ _ h67, hsv.imp fun _ _ h => h.firm (Firm.of s48), s78 _ _ h7⟩
theorem ok_unrx {fW : Addr} {dW fd1 : FuncData} (F : FnP K "unrolled" sUnrolled f fd) (T : Tl K mg C M B U CN CR fN fR fE fF fA fG fI) (GW : FnOk P w K mg base CX0 1 fW dW ["value", "least"] (spFrom K)) (gW : mg "is_from" = some (.ref fW)) (kW : PySem.W.keepIn K (.ref fW) = true) (bW : Binds K dW ["value", "least"] [])
    (GX : FnOk P w K mg base CX0 1 fN fd1 niN (spNumI CN)) (bX : Binds K fd1 niN []) : FnOk P w K mg base (L2.CX P w) 3 f fd ["machine", "cycles", "free"] (spUnrX CN K) := by
  refine F.ok scUnrolled (fun vs H Q E h => ?_) (fun cdv A outer s H vs Q E hr h => ?_)
  · obtain ⟨m, v, fr, d, rfl, _⟩ := h
    rfl
  · obtain ⟨m, v, fr, d, rfl, hd, e, num⟩ := h
    have tk : Takes (cxOf (L2.CX P w) P w K mg base nUnrolled "unrolled" (defScope sUnrolled) f cdv A outer s H E) (fun cls d _ H => E cls d H) := takes_of rfl rfl rfl rfl
    refine ⟨_, pss_cons (ps_if (pt_not (pt_val (pe_call GW (hr.mono (by decide)) (by rfl) gW kW bW .nil pass0 (pa_cons (pv 1) (pa_cons pe_int pa_nil)))))
      (pss_one (ps_raise rfl tk (pmk_oex T.q.z.n.oe T.q.z.n.ini T.q.z.n.fn GX (hr.mono (by decide)) bX .nil pass0 (by rfl) T.q.z.why.mN (pa_cons pe_str (pa_cons (pv 1) pa_nil))))) pss_nil) (pss_cons ps_never (pss_cons ps_never (pss_cons ps_never (pss_cons ps_never (pss_cons ps_never (pss_one ps_never)))))), ?_⟩
    refine ⟨_, rfl, v, 0, d, rfl, hd, _, rfl, ?_⟩
    rw [e]
    exact iteT (mk_num (te := tVar 1) (fun R r => ⟨_, rfl, r⟩) num)
end
end Un
namespace Uw
open PySem PySem.Spec PyProof.Rows L2 LamX Pen Dat Ki Fi Gr No Lf Bd Be Bf Bg Bm Bx Ca Um Dm Wy Yg Zm Zn2 Ul
/-! ## k22: the law's own cycles, and its look at unrolled ones -/
theorem passF {P : Program} {w : World} {X : Cx} : Passes (L2.CX P w) X fun _ _ _ => False := fun _ _ _ _ _ _ _ c => by
  obtain ⟨_, _, _, _, _, _, _, _, _, _, _, _, z⟩ := c
  exact z.elim
theorem rowB_ints {xs : List Int} {lo hi : Int} (h : ∀ z ∈ xs, lo ≤ z ∧ z ≤ hi) {m : Int} (e : (xs.length : Int) = m) : rowB (.tuple (xs.map .int)) m lo hi = true := by
  unfold rowB
  show (true && (decide (((xs.map PyData.int).length : Int) = m) && (xs.map PyData.int).all fun e => betD e lo hi)) = true
  rw [List.length_map, decide_eq_true e, Bool.true_and, Bool.true_and, List.all_map, List.all_eq_true]
  intro z hz
  obtain ⟨a, b⟩ := h z hz
  show (decide (lo ≤ z) && decide (z ≤ hi)) = true
  rw [decide_eq_true a, decide_eq_true b]
  rfl
/-- t[a:b] of a tuple -/
theorem cutM_use {K : PySem.W.Frag} {H : Hp} {q0 : Addr} {as : List Int} {a b : Nat} {R : VK} (hq : H q0 = some (.tup (as.map V.int))) (hab : a ≤ b) (hn : b ≤ as.length) (k : ∀ t H', Same H H' → H' t = some (.tup (((as.drop a).take (b - a)).map V.int)) → R (.ref t) H') :
    L2.rSlA K (.ref q0) (some (a : Int)) (some (b : Int)) H R := by
  have ix : HT.sIx (as.map V.int).length (as.map V.int).length (some (b : Int)) = b := by
    rw [HT.sIx_nat, List.length_map]
    omega
  have iy : HT.sIx (as.map V.int).length 0 (some (a : Int)) = a := by
    rw [HT.sIx_nat, List.length_map]
    omega
  refine ⟨q0, _, rfl, SqT.of hq, fun hw => ?_, fun _ p np => ?_⟩
  · obtain ⟨e1, e2⟩ := hw
    rw [iy] at e1
    rw [ix, List.length_map] at e2
    refine k q0 H (fun _ _ e => e) ?_
    rw [e1, e2, List.drop_zero, Nat.sub_zero, List.take_length]
    exact hq
  · refine k p _ (same_new np) ?_
    rw [upd_same]
    unfold cutV
    rw [ix, iy, List.map_take, List.map_drop]
/-- t[:b] of a tuple -/
theorem cutL_use {K : PySem.W.Frag} {H : Hp} {q0 : Addr} {as : List Int} {m : Nat} {R : VK} (hq : H q0 = some (.tup (as.map V.int))) (hn : m ≤ as.length) (k : ∀ t H', Same H H' → H' t = some (.tup ((as.take m).map V.int)) → R (.ref t) H') :
    L2.rSlA K (.ref q0) none (some (m : Int)) H R := by
  have ix : HT.sIx (as.map V.int).length (as.map V.int).length (some (m : Int)) = m := by
    rw [HT.sIx_nat, List.length_map]
    omega
  refine ⟨q0, _, rfl, SqT.of hq, fun hw => ?_, fun _ p np => ?_⟩
  · have e := hw.2
    rw [ix, List.length_map] at e
    refine k q0 H (fun _ _ e => e) ?_
    rw [e, List.take_length]
    exact hq
  · refine k p _ (same_new np) ?_
    rw [upd_same]
    unfold cutV
    rw [ix, List.map_take]
    rfl
structure Tw (K : PySem.W.Frag) (mg : Str → Option Value) (C M B U CN CR fN fR fE fF fA fG fI : Addr) : Prop where
  l : Ul.Tl K mg C M B U CN CR fN fR fE fF fA fG fI
  lf : Lf.Tx mg
  isi : mg "isinstance" = none
  mgU : mg "Unrolled" = some (.ref U)
  metU : ∀ {H : Hp} {a dx : Addr} {fs : List (Str × V)}, H a = some (.ins U dx fs) → TyOf K H (.ref a) (.ref U)
  ownU : PySem.W.kitOne K (.ref U) (.ref U) = some true
def spMade2 (K : PySem.W.Frag) (C M : Addr) : Sp := fun vs H Q _ => ∃ (o : Addr) (n i : Int) (gs : Gates) (rs nx : List Int) (wi : Int), vs = [.ref o] ∧ OwnAt K H o n i gs rs nx wi ∧ OwnOk n i gs rs nx wi ∧ ∀ (H' : Hp) (m x : Addr), Same H H' → MA K M H' m x i wi rs nx → GraphAt K C H' x n gs → Q (.ref m) H'
def spIs : Sp := fun vs H Q _ => ∃ a b : Bool, vs = [.bl a, .bl b] ∧ Q (.bl (a == b)) H
def spDrawnBits : Sp := fun vs H Q _ => ∃ (p c : Addr) (k m : Nat), vs = [.ref p, .int m] ∧ PenC H p c k ∧ k ≤ 100000000 ∧ m ≤ 60 ∧ ∀ (H' : Hp) (t : Addr) (bs : List Int), PenC H' p c (k + 1 + m) → But p H H' → H' t = some (.tup (bs.map V.int)) → bs.length = m → B01 bs → Q (.ref t) H'
def spSomeRows (K : PySem.W.Frag) : Sp := fun vs H Q _ => ∃ (p c : Addr) (k m : Nat), vs = [.ref p, .int m, .int 24] ∧ PenC H p c k ∧ k ≤ 10000000 ∧ m ≤ 60 ∧
  ∀ (H' : Hp) (l : Addr) (ws : List V) (rs : List (List Int)), PenC H' p c (k + 24 * 61) → But p H H' → H' l = some (.lst ws) → All2 (Tu K H') ws rs → (∀ r ∈ rs, r.length = m ∧ B01 r) → rs.length ≤ 24 → Q (.ref l) H'
def spLPlayed (K : PySem.W.Frag) : Sp := fun vs H Q _ => ∃ (o b l : Addr) (n i : Int) (gs : Gates) (rs nx : List Int) (wi : Int) (S : List Int) (ws : List V) (rows : List (List Int)), vs = [.ref o, .ref b, .ref l] ∧ OwnAt K H o n i gs rs nx wi ∧ OwnOk n i gs rs nx wi ∧ SqT K H b (S.map V.int) ∧ S.length = nx.length ∧ B01 S ∧
  H l = some (.lst ws) ∧ All2 (Tu K H) ws rows ∧ rows.length ≤ 30 ∧ (∀ r ∈ rows, (r.length : Int) = i ∧ B01 r) ∧
  ∀ (H' : Hp) (t t1 t2 : Addr), Same H H' → H' t = some (.tup [.ref t1, .ref t2]) → PlAt K H' t1 (playM gs nx wi S rows).1 → SqT K H' t2 ((playM gs nx wi S rows).2.map V.int) → Q (.ref t) H'
def spRight (K : PySem.W.Frag) (C U : Addr) : Sp := fun vs H Q _ => ∃ (p c0 o u : Addr) (k c n i : Nat) (fr : Bool) (gs : Gates) (rs nx : List Int) (wi : Int), vs = [.ref p, .ref o, .ref u, .int c, .bl fr] ∧ PenC H p c0 k ∧ k ≤ 1000000 ∧ OwnAt K H o n i gs rs nx wi ∧ OwnOk n i gs rs nx wi ∧ c ≤ 6 ∧ o ≠ p ∧
  UnrAt K C U H u ((aheadN fr rs.length + c * i : Nat) : Int) (unrM (aheadN fr rs.length + c * i) gs nx wi (aheadN fr rs.length) i (st0N fr rs.length rs) c) ∧
  ∀ H', PenC H' p c0 (k + 24 * 61) → But p H H' → Q (.bl true) H'
section
variable {P : Program} {w : World} {K : PySem.W.Frag} {mg : Str → Option Value} {base : Heap} {f C M B U CN CR fN fR fE fF fA fG fI : Addr} {fd : FuncData}
abbrev nLMade : List Str := ["_law_machine", "_law_graph"]
theorem scLMade : FnScope nLMade ["_law_machine"] (defScope sMade) := ⟨rfl, rfl, rfl, by decide +kernel, rfl, by decide +kernel, by decide +kernel⟩
abbrev nLIs : List Str := ["_law_value", "_law_due"]
theorem scLIs : FnScope nLIs ["_law_value", "_law_due"] (defScope sLIs) := ⟨rfl, rfl, rfl, by decide +kernel, rfl, by decide +kernel, by decide +kernel⟩
abbrev nLDrawnBits : List Str := ["_law_pen_here", "_law_many", "_law_way", "_law_k"]
theorem scLDrawnBits : FnScope nLDrawnBits ["_law_pen_here", "_law_many"] (defScope sLDrawnBits) := ⟨rfl, rfl, rfl, by decide +kernel, rfl, by decide +kernel, by decide +kernel⟩
abbrev nLSomeRows : List Str := ["_law_pen_here", "_law_many", "_law_most", "_law_k"]
theorem scLSomeRows : FnScope nLSomeRows ["_law_pen_here", "_law_many", "_law_most"] (defScope sLSomeRows) := ⟨rfl, rfl, rfl, by decide +kernel, rfl, by decide +kernel, by decide +kernel⟩
abbrev nLPlayed : List Str := ["_law_own", "_law_state", "_law_rows_here", "_law_found", "_law_bits", "_law_behind", "_law_wish"]
theorem scLPlayed : FnScope nLPlayed ["_law_own", "_law_state", "_law_rows_here"] (defScope sLPlayed) := ⟨rfl, rfl, rfl, by decide +kernel, rfl, by decide +kernel, by decide +kernel⟩
theorem ok_made {fX fY : Addr} {dX dY : FuncData} (F : FnP K "_law_made_machine" sMade f fd) (T : Tw K mg C M B U CN CR fN fR fE fF fA fG fI)
    (mkG : Mk K C fX) (GG : FnOk P w K mg base CX0 4 fX dX ["self", "leaves", "gates"] (spInit K C)) (gG : mg "Graph" = some (.ref C)) (bG : Binds K dX ["self", "leaves", "gates"] [])
    (mkM : Mk K M fY) (GM : FnOk P w K mg base (L2.CX P w) 3 fY dY mpN (spMI K C M CN CR)) (gM : mg "Machine" = some (.ref M)) (bM : Binds K dY mpN []) :
    FnOk P w K mg base CX0 6 f fd ["_law_machine"] (spMade2 K C M) := by
  refine F.ok scLMade (fun vs H Q E h => ?_) (fun cdv A outer s H vs Q E hr h => ?_)
  · obtain ⟨o, n, i, gs, rs, nx, wi, rfl, _⟩ := h
    rfl
  · obtain ⟨o, n, i, gs, rs, nx, wi, rfl, hO, ok, q⟩ := h
    have hu := hu_of hr
    refine ⟨_, PSs.nox (pss_cons (ps_set (i := 1) scLMade.nd rfl (Or.inl rfl) (pe_make mkG GG (hr.mono (by decide)) (by rfl) gG bG .nil pass0 (pa_cons (pe_dget hu (pv 0) pe_str (fun _ _ => rfl)) (pa_cons (pe_dget hu (pv 0) pe_str (fun _ _ => rfl)) pa_nil))))
      (pss_one (ps_ret (pe_make mkM GM (hr.mono (by decide)) (by rfl) gM bM .nil passF (pa_cons (pv 1) (pa_cons (pe_dget hu (pv 0) pe_str (fun _ _ => rfl)) (pa_cons (pe_dget hu (pv 0) pe_str (fun _ _ => rfl)) (pa_cons (pe_dget hu (pv 0) pe_str (fun _ _ => rfl)) (pa_cons (pe_dget hu (pv 0) pe_str (fun _ _ => rfl)) pa_nil))))))))), ?_⟩
    obtain ⟨g, t1, t2, ho, G, h1, h2⟩ := hO
    refine ⟨_, rfl, o, _, rfl, og_leaves ho, _, rfl, o, _, rfl, og_gates ho, fun x dx nx_ nd _ => ?_⟩
    have gl := ok.glen
    have n0 : 0 ≤ n := Int.le_trans ok.i0 ok.i1
    have s1 : Same H (upd (upd H dx (.own x)) x (.ins C dx [])) := fun b o e => by
      rw [upd_ne (ne_of_none e nx_), upd_ne (ne_of_none e nd)]
      exact e
    refine ⟨x, dx, n, .ref g, gs, rfl, upd_same, n0, (G.row).same s1, by omega, ok.gok, fun H2 k2 g2 => ⟨rfl, ?_⟩⟩
    have s2 : Same H H2 := Same.made nx_ nd k2
    have ho2 := s2 _ _ ho
    refine ⟨_, rfl, _, rfl, o, _, rfl, og_inputs ho2, _, rfl, o, _, rfl, og_resets ho2, _, rfl, o, _, rfl, og_nexts ho2, _, rfl, o, _, rfl, og_wish ho2, fun y dy ny nd2 ne2 => ?_⟩
    have s3 : Same H2 (upd (upd H2 dy (.own y)) y (.ins M dy [])) := fun b o e => by
      rw [upd_ne (ne_of_none e ny), upd_ne (ne_of_none e nd2)]
      exact e
    have h13 := seqT_same (s2.trans s3) h1
    have h23 := seqT_same (s2.trans s3) h2
    have rl := ok.rl
    have nl := ok.nl
    have i0 := ok.i0
    have i1 := ok.i1
    have n7 := ok.n7
    refine ⟨y, dy, x, n, gs, .int i, .ref t1, .ref t2, .int wi, rfl, upd_same, g2.firm (Firm.of s3), .inr ⟨i, rfl, i0, i1, .tuple (rs.map .int), .tup h13 (ints_dp _), ?_, .inr ⟨rowB_ints ok.r01 (by omega), .tuple (nx.map .int), .tup h23 (ints_dp _), ?_, .inr ⟨rowB_ints ok.nb (by omega), .inr ⟨wi, rs, nx, rfl, ok.w0, ok.w1, ⟨t1, rfl, .inr h13⟩, ⟨t2, rfl, .inr h23⟩, fun H3 k3 ma => ⟨rfl, ?_⟩⟩⟩⟩⟩⟩
    · show (rs.map PyData.int).length ≤ 1000
      rw [List.length_map]
      omega
    · show (nx.map PyData.int).length ≤ 1000
      rw [List.length_map]
      omega
    · have s4 : Same H2 H3 := fun b u e => k3 _ _ (s3 _ _ e) (ne_of_none e ny)
      exact q H3 y x (s2.trans s4) ma (g2.firm (Firm.of s4))
theorem ok_is (F : FnP K "_law_is" sLIs f fd) : FnOk P w K mg base CX0 1 f fd ["_law_value", "_law_due"] spIs := by
  refine F.ok scLIs (fun vs H Q E h => ?_) (fun cdv A outer s H vs Q E hr h => ?_)
  · obtain ⟨a, b, rfl, _⟩ := h
    rfl
  · obtain ⟨a, b, rfl, q⟩ := h
    refine ⟨_, PSs.nox (pss_one (ps_ret (pe_ifExp (pt_val (pv 1)) (pe_cmpR op_isBl (pv 0) pe_bl (nomark _)) (pe_cmpR op_isBl (pv 0) pe_bl (nomark _))))), ?_⟩
    refine ⟨_, rfl, b, rfl, ?_⟩
    cases b with
    | true =>
      refine iteT ⟨_, rfl, _, _, rfl, rfl, ?_⟩
      cases a
      · exact q
      · exact q
    | false =>
      refine iteF ⟨_, rfl, _, _, rfl, rfl, ?_⟩
      cases a
      · exact q
      · exact q
theorem ok_drawnbits (F : FnP K "_law_drawn_bits" sLDrawnBits f fd) (T : Tw K mg C M B U CN CR fN fR fE fF fA fG fI)
    {fD : Addr} {dD : FuncData}
    (GD : FnOk P w K mg base CX0 1 fD dD ["_law_pen_here", "_law_many"] (spDraw)) (gD : mg "_law_draw" = some (.ref fD)) (kD : PySem.W.keepIn K (.ref fD) = true) (bD : Binds K dD ["_law_pen_here", "_law_many"] [])
    : FnOk P w K mg base CX0 2 f fd ["_law_pen_here", "_law_many"] spDrawnBits := by
  refine F.ok scLDrawnBits (fun vs H Q E h => ?_) (fun cdv A outer s H vs Q E hr h => ?_)
  · obtain ⟨p, c, k, m, rfl, _⟩ := h
    rfl
  · obtain ⟨p, c, k, m, rfl, hP, hk, hm, q⟩ := h
    refine ⟨_, PSs.nox (pss_cons (ps_set (i := 2) scLDrawnBits.nd rfl (Or.inr rfl) (pe_call GD (hr.mono (by decide)) (by rfl) gD kD bD .nil pass0 (pa_cons (pv 0) (pa_cons pe_int pa_nil))))
      (pss_one (ps_ret (pe_callTy (T := "tuple") (r := rTupOf K) (by exact call_tuple_of) (by rfl) T.lf.tuple (by decide +kernel) (pa_cons (pe_lc (own := [("_law_k", 3)]) (g := gName 3) (tt := tYes) rfl scLDrawnBits.nd (pi_range1 (by rfl) T.lf.range (pa_cons (pv 1) pa_nil)) (blkOk_by (N := nLDrawnBits) (sc := defScope sLDrawnBits) (by decide +kernel)) (fun _ _ _ _ _ => pg_name (i := 3) scLDrawnBits.nd rfl (Or.inl rfl)) (fun _ _ _ _ _ => pts_nil) (fun _ _ _ _ _ => (pe_ifExp (pt_cmpR op_lt (pv 2) pe_int (nomark _)) (pv 2) (pe_call GD (hr.mono (by decide)) (by rfl) gD kD bD .nil pass0 (pa_cons (pv 0) (pa_cons pe_int pa_nil)))))) pa_nil))))), ?_⟩
    refine ⟨_, rfl, p, c, k, 6, rfl, hP, by omega, by decide, by decide, fun wy H1 w0 w6 P1 B1 => ?_⟩
    refine ⟨_, rfl, m, rfl, by omega, by omega, fun D nD => ?_⟩
    obtain ⟨Dp1, Dc1⟩ := P1.free nD
    refine lc_range (lo := 0) (n := m) (fun j H2 => PenC H2 p c (k + 1 + j) ∧ But p H H2 ∧ ∃ bs : List Int, H2 D = some (.lst (bs.map V.int)) ∧ bs.length = j ∧ B01 bs)
      ⟨P1.same (same_new nD), B1.trans (But.of_same (same_new nD)), [], upd_same, rfl, (fun z h => by cases h)⟩ ?_ ?_
    · rintro j H2 hj ⟨P2, B2, bs, h2, l2, b2⟩
      refine ⟨rfl, yes_of ?_⟩
      have fin : ∀ (H3 : Hp) (r : Int) (j' : Nat), (r = 0 ∨ r = 1) → PenC H3 p c (k + 1 + j') → j' ≤ j + 1 → But p H2 H3 → ∃ acc, H3 D = some (.lst acc) ∧ acc.length < sizeLine ∧ PenC (upd H3 D (.lst (acc ++ [.int r]))) p c (k + 1 + (j + 1)) ∧ But p H (upd H3 D (.lst (acc ++ [.int r]))) ∧
          ∃ bs : List Int, upd H3 D (.lst (acc ++ [.int r])) D = some (.lst (bs.map V.int)) ∧ bs.length = j + 1 ∧ B01 bs := fun H3 r j' hr P3 hj' B3 => by
        refine ⟨_, B3 _ _ h2 Dp1, ?_, (P3.upd Dp1 Dc1).more (by omega), fun b o e ne => ?_, bs ++ [r], ?_, by rw [List.length_append, l2]; rfl, fun z hz => ?_⟩
        · rw [List.length_map, l2]
          exact Nat.lt_of_lt_of_le (by omega : j < 100) (by decide)
        · by_cases hb : b = D
          · have := B2 b o e ne
            rw [hb] at this
            exact absurd (ne_of_none (B1 _ _ e ne) nD) (fun z => z hb)
          · rw [upd_ne hb]
            exact B3 _ _ (B2 _ _ e ne) ne
        · rw [upd_same, List.map_append]
          rfl
        · rcases List.mem_append.mp hz with h | h
          · exact b2 z h
          · rw [List.mem_singleton.mp h]
            exact hr
      refine ⟨_, rfl, _, _, rfl, rfl, _, rfl, ite2 (fun hw => ?_) (fun _ => ?_)⟩
      · have hw := of_decide_eq_true hw
        exact ⟨_, rfl, fin H2 wy j (by omega) P2 (by omega) But.refl⟩
      · exact ⟨_, rfl, p, c, k + 1 + j, 2, rfl, P2, by omega, by decide, by decide, fun r H3 r0 r2 P3 B3 => fin H3 r (j + 1) (by omega) P3 (Nat.le_refl _) B3⟩
    · rintro H2 ⟨P2, B2, bs, h2, l2, b2⟩
      refine ⟨D, _, rfl, .inl ⟨SqL.of h2, fun t nt => ?_⟩⟩
      have st := same_new (u := .tup (bs.map V.int)) nt
      exact q _ t bs (P2.same st) (B2.trans (But.of_same st)) upd_same l2 b2
theorem ok_somerows (F : FnP K "_law_some_rows" sLSomeRows f fd) (T : Tw K mg C M B U CN CR fN fR fE fF fA fG fI)
    {fR fB : Addr} {dR dB : FuncData}
    (GR : FnOk P w K mg base CX0 2 fR dR ["_law_many"] (spRows K)) (gR : mg "_law_rows" = some (.ref fR)) (kR : PySem.W.keepIn K (.ref fR) = true) (bR : Binds K dR ["_law_many"] [])
    (GB : FnOk P w K mg base CX0 2 fB dB ["_law_pen_here", "_law_many"] (spDrawnBits)) (gB : mg "_law_drawn_bits" = some (.ref fB)) (kB : PySem.W.keepIn K (.ref fB) = true) (bB : Binds K dB ["_law_pen_here", "_law_many"] [])
    : FnOk P w K mg base CX0 3 f fd ["_law_pen_here", "_law_many", "_law_most"] (spSomeRows K) := by
  refine F.ok scLSomeRows (fun vs H Q E h => ?_) (fun cdv A outer s H vs Q E hr h => ?_)
  · obtain ⟨p, c, k, m, rfl, _⟩ := h
    rfl
  · obtain ⟨p, c, k, m, rfl, hP, hk, hm, q⟩ := h
    refine ⟨_, PSs.nox (pss_cons (ps_if (pt_cmpR op_le (pe_op op_shl pe_int (pv 1)) (pv 2) (nomark _))
        (pss_one (ps_ret (pe_call GR (hr.mono (by decide)) (by rfl) gR kR bR .nil pass0 (pa_cons (pv 1) pa_nil))))
        pss_nil)
      (pss_one (ps_ret (pe_lc (own := [("_law_k", 3)]) (g := gName 3) (tt := tYes) rfl scLSomeRows.nd (pi_range1 (by rfl) T.lf.range (pa_cons (pv 2) pa_nil)) (blkOk_by (N := nLSomeRows) (sc := defScope sLSomeRows) (by decide +kernel)) (fun _ _ _ _ _ => pg_name (i := 3) scLSomeRows.nd rfl (Or.inl rfl)) (fun _ _ _ _ _ => pts_nil) (fun _ _ _ _ _ => (pe_call GB (hr.mono (by decide)) (by rfl) gB kB bB .nil pass0 (pa_cons (pv 0) (pa_cons (pv 1) pa_nil)))))))), ?_⟩
    refine ⟨_, rfl, _, _, rfl, rfl, ⟨by omega, by omega, by decide⟩, _, rfl, _, _, rfl, rfl, _, rfl, ite2 (fun h => ?_) (fun _ => ?_)⟩
    · have h : (1 : Int) * 2 ^ ((m : Int)).toNat ≤ 24 := of_decide_eq_true h
      rw [Int.toNat_natCast, Int.one_mul] at h
      have m4 : m ≤ 4 := by
        rcases Nat.lt_or_ge 4 m with z | z
        · have h2 : (2 : Nat) ^ 5 ≤ 2 ^ m := Nat.pow_le_pow_right (by decide) z
          have h3 : ((2 ^ m : Nat) : Int) ≤ 24 := by
            rw [Int.natCast_pow]
            exact h
          omega
        · exact z
      refine ⟨_, rfl, m, rfl, by omega, by omega, fun H1 l ws s1 hl ha => q H1 l ws (rowsM m) ((hP.same s1).more (by omega)) (But.of_same s1) hl ha (rowsM_mem m) ?_⟩
      rw [rowsM_len]
      exact Nat.le_trans (Nat.pow_le_pow_right (by decide) m4) (by decide)
    · refine ⟨_, rfl, 24, rfl, by decide, by decide, fun D nD => ?_⟩
      obtain ⟨Dp1, Dc1⟩ := hP.free nD
      refine lc_range (lo := 0) (n := 24) (fun j H2 => PenC H2 p c (k + 61 * j) ∧ But p H H2 ∧ ∃ (us : List V) (rs : List (List Int)), H2 D = some (.lst us) ∧ All2 (Tu K H2) us rs ∧ (∀ r ∈ rs, r.length = m ∧ B01 r) ∧ rs.length = j)
        ⟨hP.same (same_new nD), But.of_same (same_new nD), [], [], upd_same, .nil, (fun z h => by cases h), rfl⟩ ?_ ?_
      · rintro j H2 hj ⟨P2, B2, us, rs, h2, a2, m2, e2⟩
        refine ⟨rfl, yes_of ?_⟩
        refine ⟨_, rfl, _, rfl, p, c, k + 61 * j, m, rfl, P2, by omega, hm, fun H3 t bs P3 B3 ht lb bb => ?_⟩
        have h3 := B3 _ _ h2 Dp1
        have fi : Firm H3 (upd H3 D (.lst (us ++ [.ref t]))) := Firm.upd h3 rfl
        refine ⟨_, h3, ?_, (P3.upd Dp1 Dc1).more (by omega), fun b o e ne => ?_, us ++ [.ref t], rs ++ [bs], upd_same, ?_, fun r hr => ?_, by rw [List.length_append, e2]; rfl⟩
        · rw [a2.len, e2]
          exact Nat.lt_of_lt_of_le (by omega : j < 100) (by decide)
        · rw [upd_ne (ne_of_none e nD)]
          exact B3 _ _ (B2 _ _ e ne) ne
        · exact (a2.imp fun _ _ h => (h.firm (Firm.pen B3 P2)).firm fi).snoc ⟨t, rfl, fi _ _ ht rfl⟩
        · rcases List.mem_append.mp hr with h | h
          · exact m2 r h
          · rw [List.mem_singleton.mp h]
            exact ⟨lb, bb⟩
      · rintro H2 ⟨P2, B2, us, rs, h2, a2, m2, e2⟩
        exact q H2 D us rs (P2.more (by omega)) B2 h2 a2 m2 (by omega)
theorem own_same {H H' : Hp} {o : Addr} {n i : Int} {gs : Gates} {rs nx : List Int} {wi : Int} (s : Same H H') (h : OwnAt K H o n i gs rs nx wi) : OwnAt K H' o n i gs rs nx wi := by
  obtain ⟨g, t1, t2, ho, G, h1, h2⟩ := h
  exact ⟨g, t1, t2, s _ _ ho, G.firm (Firm.of s), seqT_same s h1, seqT_same s h2⟩
theorem ok_lplayed (F : FnP K "_law_played" sLPlayed f fd) (T : Tw K mg C M B U CN CR fN fR fE fF fA fG fI)
    {fT : Addr} {dT : FuncData}
    (GT : FnOk P w K mg base CX0 3 fT dT ["_law_machine", "_law_state", "_law_bits"] (spTick K)) (gT : mg "_law_tick" = some (.ref fT)) (kT : PySem.W.keepIn K (.ref fT) = true) (bT : Binds K dT ["_law_machine", "_law_state", "_law_bits"] [])
    : FnOk P w K mg base CX0 4 f fd ["_law_own", "_law_state", "_law_rows_here"] (spLPlayed K) := by
  refine F.ok scLPlayed (fun vs H Q E h => ?_) (fun cdv A outer s H vs Q E hr h => ?_)
  · obtain ⟨o, b, l, n, i, gs, rs, nx, wi, S, ws, rows, rfl, _⟩ := h
    rfl
  · obtain ⟨o, b, l, n, i, gs, rs, nx, wi, S, ws, rows, rfl, hO, ok, hb, lS, b01, hl, ha, lr, brow, q⟩ := h
    have i0 := ok.i0
    have i1 := ok.i1
    have nl' := ok.nl
    refine ⟨_, PSs.nox (pss_cons (ps_set (i := 3) scLPlayed.nd rfl (Or.inl rfl) (pe_lst pa_nil))
      (pss_cons (ps_for PassesOwn.never rfl (pi_list (pv 2)) (pg_name (i := 4) scLPlayed.nd rfl (Or.inl rfl))
        (pss_cons (ps_asg (pe_call GT (hr.mono (by decide)) (by rfl) gT kT bT .nil pass0 (pa_cons (pv 0) (pa_cons (pv 1) (pa_cons (pv 4) pa_nil)))) (pg_tup rfl (pgs_cons (pg_name (i := 5) scLPlayed.nd rfl (Or.inl rfl)) (pgs_cons (pg_name (i := 6) scLPlayed.nd rfl (Or.inl rfl)) pgs_nil))))
        (pss_cons (ps_expr (pe_bm PySem.F.plainAttrs_list PySem.F.slot_list_append PySem.F.type_list_append mt_append (pv 3) (pa_cons (pe_tup (pa_cons (pv 1) (pa_cons (pv 6) pa_nil))) pa_nil)))
        (pss_one (ps_set (i := 1) scLPlayed.nd rfl (Or.inl rfl) (pv 5))))))
      (pss_one (ps_ret (pe_tup (pa_cons (pe_callTy (T := "tuple") (r := rTupOf K) (by exact call_tuple_of) (by rfl) T.lf.tuple (by decide +kernel) (pa_cons (pv 3) pa_nil)) (pa_cons (pv 1) pa_nil))))))), ?_⟩
    refine ⟨len0, fun D nD => ?_⟩
    have sD := same_new (u := .lst []) nD
    refine ⟨_, rfl, l, rfl, ⟨_, SqL.of (sD _ _ hl)⟩, for_list (K := K) (a := l) (xs := ws)
      (fun k σ H2 => ∃ (b : Addr) (us : List V) (x4 x5 x6 : Option V), σ = [some (.ref o), some (.ref b), some (.ref l), some (.ref D), x4, x5, x6] ∧ Same H H2 ∧ SqT K H2 b ((playM gs nx wi S (rows.take k)).2.map V.int) ∧ H2 D = some (.lst us) ∧ All2 (Pw K H2) us (playM gs nx wi S (rows.take k)).1)
      ⟨b, [], none, none, none, rfl, sD, seqT_same sD hb, upd_same, .nil⟩ (fun k σ H2 _ ⟨_, _, _, _, _, _, s2, _⟩ => SqL.of (s2 _ _ hl)) ?_ ?_⟩
    · rintro k y σ H2 hk ⟨b, us, x4, x5, x6, rfl, s2, hb, hD, hu⟩
      obtain ⟨row, hrow1, q0, rfl, hq0⟩ := ha.get hk
      obtain ⟨rw1, rw2⟩ := brow row (List.mem_of_getElem? hrow1)
      have hk2 : k < rows.length := (List.getElem?_eq_some_iff.mp hrow1).1
      have pok : PlOk nx.length (playM gs nx wi S (rows.take k)) := play_ok (rows.take k) (start_ok lS b01) fun x hx => (brow x (List.mem_of_mem_take hx)).2
      have hpl : (playM gs nx wi S (rows.take k)).1.length = k := by
        rw [play_len, List.length_take, Nat.min_eq_left (Nat.le_of_lt hk2)]
      rw [play_take hrow1]
      generalize playM gs nx wi S (rows.take k) = Z at hb hu pok hpl ⊢
      refine ⟨_, rfl, _, rfl, _, rfl, o, b, q0, n, i, gs, rs, nx, wi, Z.2, row, rfl, own_same s2 hO, ok, hb, SqT.of (s2 _ _ hq0), fun z hz => ?_, ?_, fun H3 t t1 s3 ht ht1 => ?_⟩
      · rcases List.mem_append.mp hz with h | h
        · exact rw2 z h
        · exact pok.b z h
      · rw [List.length_append, pok.l]
        omega
      refine ⟨t, _, rfl, SqT.of ht, rfl, _, _, rfl, _, _, rfl, rfl, ?_⟩
      refine ⟨_, rfl, .inl ⟨rfl, _, SqL.of (s3 _ _ hD)⟩, _, rfl, _, rfl, len2, fun t4 nt4 => ?_⟩
      have s4 := same_new (u := .tup [.ref b, .int (lit (vals (row ++ Z.2) gs) wi)]) nt4
      have hD4 := s4 _ _ (s3 _ _ hD)
      refine ⟨D, _, _, rfl, rfl, hD4, ?_, ?_⟩
      · rw [hu.len, hpl]
        exact Nat.lt_of_lt_of_le (by omega : k < 101) (by decide)
      have fl : Firm (upd H3 t4 (.tup [.ref b, .int (lit (vals (row ++ Z.2) gs) wi)])) (upd (upd H3 t4 (.tup [.ref b, .int (lit (vals (row ++ Z.2) gs) wi)])) D (.lst (us ++ [.ref t4]))) := Firm.upd hD4 rfl
      have f25 := (Firm.of (s3.trans s4)).trans fl
      refine ⟨_, rfl, t1, us ++ [.ref t4], _, _, _, rfl, fun c o e => ?_, SqT.of (fl _ _ (s4 _ _ ht1) rfl), upd_same, (hu.imp fun _ _ h => h.firm f25).snoc ⟨t4, b, rfl, fl _ _ upd_same rfl, firm_seq f25 hb⟩⟩
      rw [upd_ne (ne_of_none e nD)]
      exact s4 _ _ (s3 _ _ (s2 _ _ e))
    · rintro σ H2 ⟨b, us, x4, x5, x6, rfl, s2, hb, hD, hu⟩
      rw [ha.len, List.take_length] at hb hu
      refine ⟨_, rfl, D, _, rfl, .inl ⟨SqL.of hD, fun t nt => ⟨_, rfl, len2, fun t3 nt3 => ?_⟩⟩⟩
      have st := same_new (u := .tup us) nt
      have s3 := same_new (u := .tup [.ref t, .ref b]) nt3
      exact q _ t3 t b (s2.trans (st.trans s3)) upd_same ⟨us, s3 _ _ upd_same, hu.imp fun _ _ h => (h.firm (Firm.of st)).firm (Firm.of s3)⟩ (seqT_same (st.trans s3) hb)
end
end Uw
namespace Ux
open PySem PySem.Spec PyProof.Rows L2 LamX Pen Dat Ki Fi Gr No Lf Bd Be Bf Bg Bm Bx Ca Um Dm Wy Yg Zm Zn2 Ul Uw
/-! ## k22: the law's look at unrolled cycles -/
theorem unr_head (N : Nat) (gs : Gates) (nx : List Int) (wi : Int) (ahead i : Nat) (st0 : List Int) : ∀ c, (unrM N gs nx wi ahead i st0 c).sts[0]? = some st0
  | 0 => rfl
  | c + 1 => by
    rw [unr_more]
    have ih := unr_head N gs nx wi ahead i st0 c
    generalize unrM N gs nx wi ahead i st0 c = S at ih ⊢
    show (S.sts ++ [_])[0]? = some st0
    rw [List.getElem?_append_left (by
      rcases Nat.lt_or_ge 0 S.sts.length with z | z
      · exact z
      · rw [List.length_eq_zero_iff.mp (Nat.le_zero.mp z)] at ih
        cases ih)]
    exact ih
theorem cutS_use {K : PySem.W.Frag} {H : Hp} {q0 : Addr} {as : List Int} {a b : Nat} {x y : Int} {R : VK} (hx : (a : Int) = x) (hy : (b : Int) = y) (hq : H q0 = some (.tup (as.map V.int))) (hab : a ≤ b) (hn : b ≤ as.length) (k : ∀ t H', Same H H' → H' t = some (.tup (((as.drop a).take (b - a)).map V.int)) → R (.ref t) H') :
    L2.rSlA K (.ref q0) (some x) (some y) H R := by
  subst hx hy
  exact cutM_use hq hab hn k
theorem flat_rep (k : Nat) (x : V) : (List.replicate k [x]).flatten = List.replicate k x := by
  induction k with
  | zero => rfl
  | succ k ih =>
    show [x] ++ (List.replicate k [x]).flatten = _
    rw [ih]
    rfl
theorem shL (ns : List Int) : SeqAt.shaped (.list (ns.map .int)) = true := shaped_ints ns
theorem rows_can : ∀ rows : List (List Int), PyData.canLayAll0 (rows.map rwD) = true ∧ PyData.depthAll (rows.map rwD) ≤ 1
  | [] => ⟨rfl, Nat.zero_le _⟩
  | r :: t => by
    obtain ⟨a, b⟩ := rows_can t
    refine ⟨?_, ?_⟩
    · show (PyData.canLayAll0 (r.map .int) && PyData.canLayAll0 (t.map rwD)) = true
      rw [can_ints r, a]
      rfl
    · show max (PyData.depthAll (r.map .int) + 1) (PyData.depthAll (t.map rwD)) ≤ 1
      rw [deep_ints r]
      exact Nat.max_le.mpr ⟨Nat.le_refl _, b⟩
theorem rows_sh (rows : List (List Int)) : SeqAt.shaped (.list (rows.map rwD)) = true := by
  obtain ⟨a, b⟩ := rows_can rows
  show (PyData.canLayAll0 (rows.map rwD) && decide (PyData.depthAll (rows.map rwD) + 1 ≤ 64)) = true
  rw [a, decide_eq_true (by omega)]
  rfl
theorem goF {b : Bool} {A B : Prop} (h : b = false) (x : B) : if b = true then A else B := by rw [h]; exact iteF x
theorem eqF {d : PyData} (h : SeqAt.shaped d = true) : (!PyData.eqv d d) = false := by
  rw [SeqAt.eqv_refl _ (SeqAt.canLay_of_shaped h)]
  rfl
theorem tuS_dp {K : PySem.W.Frag} {H : Hp} : ∀ {ws : List V} {rows : List (List Int)}, All2 (TuS K H) ws rows → DpAll K H ws (rows.map rwD)
  | _, _, .nil => .nil
  | _, _, .cons h t => by
    obtain ⟨q, rfl, h⟩ := h
    exact .cons (.tup h (ints_dp _)) (tuS_dp t)
theorem lst_dp {K : PySem.W.Frag} {H : Hp} {D : Addr} {ns : List Int} (h : H D = some (.lst (ns.map V.int))) : Dp K H (.ref D) (.list (ns.map .int)) := .lst (SqL.of h) (ints_dp _)
theorem st0_val {bs rs S : List Int} (h01 : B01 bs) {fr : Bool} {m : Nat} (hm : rs.length = m) (hr : ∀ z ∈ rs, 0 ≤ z ∧ z ≤ 1) (hb : aheadN fr m ≤ bs.length) (hS : S = if fr = true then bs.take m else rs) : ((st0N fr m rs).map fun l => lit (0 :: bs) l) = S := by
  subst hS
  unfold st0N
  cases fr with
  | false =>
    show rs.map _ = rs
    refine (List.map_congr_left fun z hz => ?_).trans (List.map_id rs)
    obtain ⟨a, b⟩ := hr z hz
    have h2 : z = 0 ∨ z = 1 := by omega
    rcases h2 with rfl | rfl <;> rfl
  | true =>
    have hb : m ≤ bs.length := hb
    show (ownL m).map _ = bs.take m
    have ll : (bs.take m).length = m := by rw [List.length_take]; omega
    refine List.ext_getElem (by rw [List.length_map, ownL_len, ll]) fun k h1 h2 => ?_
    have hk : k < m := by omega
    have e : (ownL m)[k]? = some (2 * ((k : Int) + 1)) := by
      unfold ownL
      rw [List.getElem?_map, List.getElem?_range hk]
      rfl
    rw [List.getElem_map]
    obtain ⟨h3, e3⟩ := List.getElem?_eq_some_iff.mp e
    rw [e3]
    have e4 : ((2 * ((k : Int) + 1)) / 2).toNat = k + 1 := by omega
    have e5 : (2 * ((k : Int) + 1)) % 2 = 0 := by omega
    show ab ((0 :: bs).getD ((2 * ((k : Int) + 1)) / 2).toNat 0 - (2 * ((k : Int) + 1)) % 2) = _
    rw [e4, e5]
    have lt : k < bs.length := by omega
    have e6 : (0 :: bs).getD (k + 1) 0 = bs[k] := by
      rw [List.getD_eq_getElem?_getD, List.getElem?_cons_succ, List.getElem?_eq_getElem lt]
      rfl
    have e7 : (bs.take m)[k] = bs[k] := List.getElem_take ..
    rw [e6, e7]
    rcases h01 _ (List.getElem_mem lt) with z | z <;> rw [z] <;> rfl
section
variable {P : Program} {w : World} {K : PySem.W.Frag} {mg : Str → Option Value} {base : Heap} {f C M B U CN CR fN fR fE fF fA fG fI : Addr} {fd : FuncData}
abbrev nLRight : List Str := ["_law_pen_here", "_law_own", "_law_told", "_law_cycles", "_law_free", "_law_many", "_law_inputs", "_law_ahead", "_law_row", "_law_k", "_law_bits", "_law_rows_here", "_law_due", "_law_last", "_law_found", "_law_literal", "_law_states", "_law_state", "_law_wish"]
theorem scLRight : FnScope nLRight ["_law_pen_here", "_law_own", "_law_told", "_law_cycles", "_law_free"] (defScope sLUnrolledRight) := ⟨rfl, rfl, rfl, by decide +kernel, rfl, by decide +kernel, by decide +kernel⟩
theorem ok_right (F : FnP K "_law_unrolled_right" sLUnrolledRight f fd) (T : Uw.Tw K mg C M B U CN CR fN fR fE fF fA fG fI)
    {fS fY fV fB : Addr} {dS dY dV dB : FuncData}
    (GS : FnOk P w K mg base CX0 3 fS dS ["_law_pen_here", "_law_many", "_law_most"] (spSomeRows K)) (gS : mg "_law_some_rows" = some (.ref fS)) (kS : PySem.W.keepIn K (.ref fS) = true) (bS : Binds K dS ["_law_pen_here", "_law_many", "_law_most"] [])
    (GY : FnOk P w K mg base CX0 4 fY dY ["_law_own", "_law_state", "_law_rows_here"] (spLPlayed K)) (gY : mg "_law_played" = some (.ref fY)) (kY : PySem.W.keepIn K (.ref fY) = true) (bY : Binds K dY ["_law_own", "_law_state", "_law_rows_here"] [])
    (GV : FnOk P w K mg base CX0 2 fV dV ["_law_leaves", "_law_gates", "_law_bits"] (spValues K)) (gV : mg "_law_values" = some (.ref fV)) (kV : PySem.W.keepIn K (.ref fV) = true) (bV : Binds K dV ["_law_leaves", "_law_gates", "_law_bits"] [])
    (GB : FnOk P w K mg base CX0 1 fB dB ["_law_found", "_law_literal"] (spBit K)) (gB : mg "_law_bit" = some (.ref fB)) (kB : PySem.W.keepIn K (.ref fB) = true) (bB : Binds K dB ["_law_found", "_law_literal"] [])
    : FnOk P w K mg base CX0 5 f fd ["_law_pen_here", "_law_own", "_law_told", "_law_cycles", "_law_free"] (spRight K C U) := by
  refine F.ok scLRight (fun vs H Q E h => ?_) (fun cdv A outer s H vs Q E hr h => ?_)
  · obtain ⟨p, c0, o, u, k, c, n, i, fr, gs, rs, nx, wi, rfl, _⟩ := h
    rfl
  · obtain ⟨p, c0, o, u, k, c, n, i, fr, gs, rs, nx, wi, rfl, hP, hk, hO, ok, c6, op, hU, q⟩ := h
    have hu := hu_of hr
    have i0 := ok.i0
    have i1 := ok.i1
    have n7 := ok.n7
    have gl' := ok.glen
    have rl := ok.rl
    have nl' := ok.nl
    have im : i + rs.length = n := by omega
    have hm' : nx.length = rs.length := by omega
    have r4 : rs.length ≤ 7 := by omega
    have i7 : i ≤ 7 := by omega
    have ci : c * i ≤ 42 := Nat.le_trans (Nat.mul_le_mul c6 i7) (by decide)
    have ha7 : aheadN fr rs.length ≤ 7 := by
      unfold aheadN
      split <;> omega
    have st0l := Un.st0_len (fr := fr) (rs := rs) rfl
    have st0i := Un.st0_in (N := aheadN fr rs.length + c * i) (fr := fr) (rs := rs) rfl ok.r01 (by omega)
    have uok := unr_ok (N := aheadN fr rs.length + c * i) (m := rs.length) (gs := gs) (nx := nx) (wi := wi) (ahead := aheadN fr rs.length) (i := i) st0l st0i hm' c (Nat.le_refl _)
    have uhd := unr_head (aheadN fr rs.length + c * i) gs nx wi (aheadN fr rs.length) i (st0N fr rs.length rs) c
    have uval : ∀ (bs : List Int) (S : List Int), B01 bs → bs.length = aheadN fr rs.length + c * i → (S = if fr = true then bs.take rs.length else rs) → UVal bs (unrM (aheadN fr rs.length + c * i) gs nx wi (aheadN fr rs.length) i (st0N fr rs.length rs) c) (playM gs nx wi S (rowsK bs (aheadN fr rs.length) i c)) := fun bs S b01 lb hS => by
      rw [← lb] at st0i ⊢
      exact unr_val b01 (S := S) (ahead := aheadN fr rs.length) (i := i) st0l st0i hm' im ok.gok ok.nb ⟨ok.w0, ok.w1⟩ (st0_val b01 rfl ok.r01 (by omega) hS) c (by omega)
    generalize unrM (aheadN fr rs.length + c * i) gs nx wi (aheadN fr rs.length) i (st0N fr rs.length rs) c = Z at hU uok uhd uval
    obtain ⟨g, t1, t2, ho, G, h1, h2⟩ := id hO
    obtain ⟨du, fu, y, tu1, tu2, sv, hu0, lkg, lks, lkw, hy, hts, hsv, htw⟩ := hU
    obtain ⟨dy, gy, hy0, Gy⟩ := id hy
    refine ⟨_, PSs.nox (pss_cons (ps_asg (pe_tup (pa_cons (pe_callB call_len_seq (by rfl) T.lf.pen.len PySem.boot_len (pa_cons (pe_dget hu (pv 1) pe_str (fun _ _ => rfl)) pa_nil)) (pa_cons (pe_dget hu (pv 1) pe_str (fun _ _ => rfl)) pa_nil))) (pg_tup rfl (pgs_cons (pg_name (i := 5) scLRight.nd rfl (Or.inl rfl)) (pgs_cons (pg_name (i := 6) scLRight.nd rfl (Or.inr rfl)) pgs_nil))))
      (C8.pss_cut (ps_set (i := 7) scLRight.nd rfl (Or.inr rfl) (pe_ifExp (pt_val (pv 4)) (pv 5) pe_int))
      (pss_cons (ps_if (PW.pt (pw_or (pt_not (pt_val (pe_callB call_isi (by rfl) T.isi (by decide +kernel) (pa_cons (pv 2) (pa_cons (pe_glob (v := V.ref U) (by rfl) T.mgU rfl) pa_nil))))) (pw_or1 (pt_cmpR op_ne (pe_fld (pe_fld (pv 2) rfl) rfl) (pe_op op_add (pv 7) (pe_op op_mul (pv 3) (pv 6))) (nomark _)))))
        (pss_one (ps_ret pe_bl))
        pss_nil)
      (pss_cons (ps_if (PW.pt (pw_or (pt_cmpR (op_neD hr.units) (pe_lc (own := [("_law_row", 8)]) (g := gName 8) (tt := tYes) rfl scLRight.nd (pi_tup (pe_fld (pv 2) rfl)) (blkOk_by (N := nLRight) (sc := defScope sLUnrolledRight) (by decide +kernel)) (fun _ _ _ _ _ => pg_name (i := 8) scLRight.nd rfl (Or.inl rfl)) (fun _ _ _ _ _ => pts_nil) (fun _ _ _ _ _ => (pe_callB (r := Bw.rLen K) (by exact call_len_seq) (by rfl) T.lf.pen.len PySem.boot_len (pa_cons (pv 8) pa_nil)))) (pe_op op_rep (pe_lst (pa_cons (pv 5) pa_nil)) (pe_op op_add (pv 3) pe_int)) (nomark _)) (pw_or1 (pt_cmpR op_ne (pe_callB call_len_seq (by rfl) T.lf.pen.len PySem.boot_len (pa_cons (pe_fld (pv 2) rfl) pa_nil)) (pv 3) (nomark _)))))
        (pss_one (ps_ret pe_bl))
        pss_nil)
      (C8.pss_cut (ps_if (pt_cmpR (op_neD hr.units) (pe_ix (r := L2.rIxT K) (by exact ix_tup) (pe_fld (pv 2) rfl) pe_int (fun _ _ => rfl)) (pe_ifExp (pt_val (pv 4)) (pe_callTy (T := "tuple") (r := rTupOf K) (by exact call_tuple_of) (by rfl) T.lf.tuple (by decide +kernel) (pa_cons (pe_lc (own := [("_law_k", 9)]) (g := gName 9) (tt := tYes) rfl scLRight.nd (pi_range1 (by rfl) T.lf.range (pa_cons (pv 5) pa_nil)) (blkOk_by (N := nLRight) (sc := defScope sLUnrolledRight) (by decide +kernel)) (fun _ _ _ _ _ => pg_name (i := 9) scLRight.nd rfl (Or.inl rfl)) (fun _ _ _ _ _ => pts_nil) (fun _ _ _ _ _ => (pe_op op_mul pe_int (pe_op op_add pe_int (pv 9))))) pa_nil)) (pe_dget hu (pv 1) pe_str (fun _ _ => rfl))) (nomark _))
        (pss_one (ps_ret pe_bl))
        pss_nil)
      (pss_cons (ps_for PassesOwn.never rfl (pi_list (pe_call GS (hr.mono (by decide)) (by rfl) gS kS bS .nil pass0 (pa_cons (pv 0) (pa_cons (pe_op op_add (pv 7) (pe_op op_mul (pv 3) (pv 6))) (pa_cons pe_int pa_nil))))) (pg_name (i := 10) scLRight.nd rfl (Or.inr rfl))
        (pss_cons (ps_setLc (i := 11) (own := [("_law_k", 9)]) (g := gName 9) (tt := tYes) (by rfl) scLRight.nd rfl rfl (sw_true rfl rfl rfl (by decide +kernel)) (pi_range1 (by rfl) T.lf.range (pa_cons (pv 3) pa_nil)) (blkOk_by (N := nLRight) (sc := defScope sLUnrolledRight) (by decide +kernel)) (fun _ _ _ _ _ => pg_name (i := 9) scLRight.nd rfl (Or.inl rfl)) (fun _ _ _ _ _ => pts_nil) (fun _ _ _ _ _ => (pe_slice (r := L2.rSlA K) (by exact sl_tupA) (pv 10) (po_some (pe_op op_add (pv 7) (pe_op op_mul (pv 9) (pv 6)))) (po_some (pe_op op_add (pv 7) (pe_op op_mul (pe_op op_add (pv 9) pe_int) (pv 6)))))))
        (C8.pss_cut (ps_asg (pe_call GY (hr.mono (by decide)) (by rfl) gY kY bY .nil pass0 (pa_cons (pv 1) (pa_cons (pe_ifExp (pt_val (pv 4)) (pe_slice sl_tupA (pv 10) po_none (po_some (pv 5))) (pe_dget hu (pv 1) pe_str (fun _ _ => rfl))) (pa_cons (pv 11) pa_nil)))) (pg_tup rfl (pgs_cons (pg_name (i := 12) scLRight.nd rfl (Or.inl rfl)) (pgs_cons (pg_name (i := 13) scLRight.nd rfl (Or.inl rfl)) pgs_nil))))
        (pss_cons (ps_set (i := 14) scLRight.nd rfl (Or.inr rfl) (pe_call GV (hr.mono (by decide)) (by rfl) gV kV bV .nil pass0 (pa_cons (pe_fld (pe_fld (pv 2) rfl) rfl) (pa_cons (pe_fld (pe_fld (pv 2) rfl) rfl) (pa_cons (pv 10) pa_nil)))))
        (pss_cons (ps_setLc (i := 16) (own := [("_law_row", 8)]) (g := gName 8) (tt := tYes) (by rfl) scLRight.nd rfl rfl (sw_true rfl rfl rfl (by decide +kernel)) (pi_tup (pe_fld (pv 2) rfl)) (blkOk_by (N := nLRight) (sc := defScope sLUnrolledRight) (by decide +kernel)) (fun _ _ _ _ _ => pg_name (i := 8) scLRight.nd rfl (Or.inl rfl)) (fun _ _ _ _ _ => pts_nil) (fun _ _ _ _ _ => (pe_callTy (T := "tuple") (r := rTupOf K) (by exact call_tuple_of) (by rfl) T.lf.tuple (by decide +kernel) (pa_cons (pe_lc (own := [("_law_literal", 15)]) (g := gName 15) (tt := tYes) rfl scLRight.nd (Us.pi_tupK (K := K) rfl (pv 8)) (Us.blkOk_in (N := nLRight) (sc := defScope sLUnrolledRight) (by decide +kernel) rfl) (fun _ _ _ _ _ => pg_name (i := 15) scLRight.nd rfl (Or.inl rfl)) (fun _ _ _ _ _ => pts_nil) (fun _ _ _ _ _ => (pe_call GB (hr.mono (by decide)) (by rfl) gB kB bB .nil pass0 (pa_cons (pv 14) (pa_cons (pv 15) pa_nil))))) pa_nil))))
        (pss_cons (ps_if (pt_cmpR (op_neD hr.units) (pv 16) (pe_op op_cat (pe_lc (own := [("_law_state", 17), ("_law_wish", 18)]) (g := _) (tt := tYes) rfl scLRight.nd (pi_tup (pv 12)) (blkOk_by (N := nLRight) (sc := defScope sLUnrolledRight) (by decide +kernel)) (fun _ _ _ _ _ => (Us.pg_tupK (K := K) (n := 2) rfl rfl (pgs_cons (pg_name (i := 17) scLRight.nd rfl (Or.inl rfl)) (pgs_cons (pg_name (i := 18) scLRight.nd rfl (Or.inl rfl)) pgs_nil)))) (fun _ _ _ _ _ => pts_nil) (fun _ _ _ _ _ => (pv 17))) (pe_lst (pa_cons (pv 13) pa_nil))) (nomark _))
          (pss_one (ps_ret pe_bl))
          pss_nil)
        (pss_one (ps_if (pt_cmpR (op_neD hr.units) (pe_lc (own := [("_law_literal", 15)]) (g := gName 15) (tt := tYes) rfl scLRight.nd (pi_tup (pe_fld (pv 2) rfl)) (blkOk_by (N := nLRight) (sc := defScope sLUnrolledRight) (by decide +kernel)) (fun _ _ _ _ _ => pg_name (i := 15) scLRight.nd rfl (Or.inl rfl)) (fun _ _ _ _ _ => pts_nil) (fun _ _ _ _ _ => (pe_call GB (hr.mono (by decide)) (by rfl) gB kB bB .nil pass0 (pa_cons (pv 14) (pa_cons (pv 15) pa_nil))))) (pe_lc (own := [("_law_state", 17), ("_law_wish", 18)]) (g := _) (tt := tYes) rfl scLRight.nd (pi_tup (pv 12)) (blkOk_by (N := nLRight) (sc := defScope sLUnrolledRight) (by decide +kernel)) (fun _ _ _ _ _ => (Us.pg_tupK (K := K) (n := 2) rfl rfl (pgs_cons (pg_name (i := 17) scLRight.nd rfl (Or.inl rfl)) (pgs_cons (pg_name (i := 18) scLRight.nd rfl (Or.inl rfl)) pgs_nil)))) (fun _ _ _ _ _ => pts_nil) (fun _ _ _ _ _ => (pv 18))) (nomark _))
          (pss_one (ps_ret pe_bl))
          pss_nil))))))))
      (pss_one (ps_ret pe_bl)))))))), ?_⟩
    refine ⟨_, rfl, o, _, rfl, og_resets ho, t1, _, rfl, .inr h1, _, rfl, o, _, rfl, og_inputs ho, len2, fun t nt => ⟨t, _, rfl, SqT.of upd_same, rfl, _, _, rfl, _, _, rfl, rfl, ?_⟩⟩
    have st := same_new (u := .tup [V.int ((rs.map V.int).length : Nat), .int (i : Int)]) nt
    refine ⟨fun σ H' => Same H H' ∧ σ = [some (.ref p), some (.ref o), some (.ref u), some (.int c), some (.bl fr), some (.int (rs.length : Nat)), some (.int (i : Nat)), some (.int (aheadN fr rs.length : Nat)), none, none, none, none, none, none, none, none, none, none, none], ?_, ?_⟩
    · refine ⟨_, rfl, fr, rfl, ?_⟩
      cases fr with
      | true => exact iteT ⟨_, rfl, st, by rw [List.length_map]; rfl⟩
      | false => exact iteF ⟨st, by rw [List.length_map]; rfl⟩
    clear st nt
    rintro σ H1 ⟨s1, rfl⟩
    refine ⟨_, rfl, _, _, _, _, _, rfl, .own _, .base (T.metU (s1 _ _ hu0)), T.ownU, _, rfl, iteF ?_⟩
    refine ⟨_, rfl, u, U, du, _, _, rfl, s1 _ _ hu0, T.l.clU, T.l.u1, lkg, y, C, dy, _, _, rfl, s1 _ _ hy0, T.l.q.z.gr.cl, T.l.q.z.gr.nL, flds_L _ _, _, rfl, _, rfl, _, rfl, _, _, rfl, rfl, .inl ⟨by omega, by omega⟩, _, _, rfl, rfl, rfl, _, rfl, goF ?_ ?_⟩
    · rw [Int.natCast_add, Int.natCast_mul]
      simp
    refine ⟨_, rfl, u, U, du, _, _, rfl, s1 _ _ hu0, T.l.clU, T.l.u2, lks, tu1, rfl, ⟨_, SqT.of (s1 _ _ hts)⟩, fun D nD => ?_⟩
    refine lc_tup (K := K) (a := tu1) (xs := sv) (fun j H2 => Same H1 H2 ∧ H2 D = some (.lst (List.replicate j (V.int (rs.length : Nat))))) ⟨same_new nD, upd_same⟩ (fun j H2 _ ⟨s2, _⟩ => SqT.of (s2 _ _ (s1 _ _ hts))) ?_ ?_
    · rintro j x H2 hj ⟨s2, h2'⟩
      obtain ⟨r, hr0, q0, rfl, hq0⟩ := hsv.get hj
      have rl0 := (uok.ti r (List.mem_of_getElem? hr0)).1
      have hj2 : j < c + 1 := by
        have z := (List.getElem?_eq_some_iff.mp hr0).1
        rw [uok.tl] at z
        exact z
      refine ⟨rfl, yes_of ?_⟩
      refine ⟨_, rfl, q0, _, rfl, .inr (seqT_same (s1.trans s2) hq0), _, h2', ?_, fun b o e => ?_, ?_⟩
      · rw [List.length_replicate]
        exact Nat.lt_of_lt_of_le hj2 (Nat.le_trans (by omega : c + 1 ≤ 7) (by decide))
      · rw [upd_ne (ne_of_none e nD)]
        exact s2 _ _ e
      · rw [upd_same, List.length_map, rl0, List.replicate_succ']
    rintro H2 ⟨s2, hD⟩
    rw [hsv.len, uok.tl] at hD
    refine ⟨_, rfl, (by show 1 ≤ sizeLine; decide), fun l nl => ⟨_, rfl, _, _, rfl, rfl, l, _, _, rfl, rfl, upd_same, by omega, by omega, ?_, fun l2 nl2 => ?_⟩⟩
    · show 1 * ((c : Int) + 1).toNat ≤ sizeLine
      exact Nat.le_trans (by omega : 1 * ((c : Int) + 1).toNat ≤ 7) (by decide)
    have sl := same_new (u := .lst [V.int (rs.length : Nat)]) nl
    have sl2 := same_new (u := .lst (List.replicate ((c : Int) + 1).toNat [V.int (rs.length : Nat)]).flatten) nl2
    have e1 : (List.replicate ((c : Int) + 1).toNat [V.int (rs.length : Nat)]).flatten = (List.replicate (c + 1) ((rs.length : Nat) : Int)).map V.int := by
      rw [flat_rep, List.map_replicate]
      rfl
    have hD2 : upd (upd H2 l (.lst [V.int (rs.length : Nat)])) l2 (.lst (List.replicate ((c : Int) + 1).toNat [V.int (rs.length : Nat)]).flatten) D = some (.lst ((List.replicate (c + 1) ((rs.length : Nat) : Int)).map V.int)) := by
      rw [List.map_replicate]
      exact sl2 _ _ (sl _ _ hD)
    have hL2 : upd (upd H2 l (.lst [V.int (rs.length : Nat)])) l2 (.lst (List.replicate ((c : Int) + 1).toNat [V.int (rs.length : Nat)]).flatten) l2 = some (.lst ((List.replicate (c + 1) ((rs.length : Nat) : Int)).map V.int)) := by
      rw [upd_same, e1]
    have s3 := s1.trans (s2.trans (sl.trans sl2))
    generalize upd (upd H2 l _) l2 _ = H3 at hD2 hL2 s3 ⊢
    refine ⟨_, _, lst_dp hD2, lst_dp hL2, shL _, shL _, _, rfl, goF (eqF (shL _)) ?_⟩
    refine ⟨_, rfl, u, U, du, _, _, rfl, s3 _ _ hu0, T.l.clU, T.l.u3, lkw, tu2, _, rfl, .inr (SqT.of (s3 _ _ htw)), _, rfl, rfl, _, rfl, goF ?_ ?_⟩
    · rw [List.length_map, uok.wl]
      simp
    clear s1 s2 sl sl2 nD nl nl2 hD hD2 hL2 e1
    refine ⟨fun σ H' => Same H H' ∧ σ = [some (.ref p), some (.ref o), some (.ref u), some (.int c), some (.bl fr), some (.int (rs.length : Nat)), some (.int (i : Nat)), some (.int (aheadN fr rs.length : Nat)), none, none, none, none, none, none, none, none, none, none, none], ?_, ?_⟩
    · obtain ⟨v0, hv0, q00, rfl, hq00⟩ : ∃ v, sv[0]? = some v ∧ TuS K H v (st0N fr rs.length rs) := by
        obtain ⟨v, hv⟩ : ∃ v, sv[0]? = some v := by
          have z : 0 < sv.length := by
            rw [hsv.len, uok.tl]
            exact Nat.succ_pos _
          exact ⟨sv[0], List.getElem?_eq_getElem z⟩
        obtain ⟨r, hr0, hx⟩ := hsv.get hv
        rw [uhd] at hr0
        cases hr0
        exact ⟨v, hv, hx⟩
      refine ⟨_, rfl, u, U, du, _, _, rfl, s3 _ _ hu0, T.l.clU, T.l.u2, lks, tu1, _, _, _, rfl, rfl, SqT.of (s3 _ _ hts), at_of (j := 0) rfl hv0, ?_⟩
      refine ⟨_, rfl, fr, rfl, ?_⟩
      have fin : ∀ (t : Addr) (H' : Hp), Same H3 H' → SqT K H' t ((st0N fr rs.length rs).map V.int) → rNeD K (.ref q00) (.ref t) H' fun x H'' => ∃ b, x = .bl b ∧ if b = true then False else Same H H'' := fun t H' s' ht => by
        refine ⟨_, _, .tup (seqT_same (s3.trans s') hq00) (ints_dp _), .tup ht (ints_dp _), shaped_ints _, shaped_ints _, _, rfl, goF (eqF (shaped_ints _)) (s3.trans s')⟩
      have fin2 : ∀ (t : Addr) (H' : Hp), Same H3 H' → SqT K H' t ((st0N fr rs.length rs).map V.int) → ∃ d e, Dp K H' (.ref q00) d ∧ Dp K H' (.ref t) e ∧ SeqAt.shaped d = true ∧ SeqAt.shaped e = true ∧ (!PyData.eqv d e) = false ∧ Same H H' := fun t H' s' ht =>
        ⟨_, _, .tup (seqT_same (s3.trans s') hq00) (ints_dp _), .tup ht (ints_dp _), shaped_ints _, shaped_ints _, eqF (shaped_ints _), s3.trans s'⟩
      clear fin
      cases fr with
      | false =>
        refine iteF ⟨_, rfl, o, _, rfl, og_resets (s3 _ _ ho), ?_⟩
        obtain ⟨d, e, x1, x2, x3, x4, x5, x6⟩ := fin2 t1 H3 (fun _ _ e => e) (seqT_same s3 h1)
        exact ⟨d, e, x1, x2, x3, x4, _, rfl, goF x5 ⟨x6, rfl⟩⟩
      | true =>
        refine iteT ⟨_, rfl, _, rfl, by omega, by omega, fun D nD => ?_⟩
        rw [Int.toNat_natCast]
        refine lc_range (lo := 0) (n := rs.length) (fun j H4 => Same H3 H4 ∧ H4 D = some (.lst (((List.range j).map fun (k : Nat) => 2 * ((1 : Int) + ((0 : Int) + (k : Int)))).map V.int))) ⟨same_new nD, upd_same⟩ ?_ ?_
        · rintro j H4 hj ⟨s4, h4⟩
          refine ⟨rfl, yes_of ?_⟩
          refine ⟨_, rfl, _, _, rfl, rfl, _, _, rfl, rfl, .inl ⟨by decide, by decide⟩, _, h4, ?_, fun b o e => ?_, ?_⟩
          · rw [List.length_map, List.length_map, List.length_range]
            exact Nat.lt_of_lt_of_le (by omega : j < 7) (by decide)
          · rw [upd_ne (ne_of_none e nD)]
            exact s4 _ _ e
          · rw [upd_same, List.range_succ, List.map_append, List.map_append]
            rfl
        · rintro H4 ⟨s4, h4⟩
          refine ⟨D, _, rfl, .inl ⟨SqL.of h4, fun t nt => ?_⟩⟩
          have st := same_new (u := .tup (((List.range rs.length).map fun (k : Nat) => 2 * ((1 : Int) + ((0 : Int) + (k : Int)))).map V.int)) nt
          have e0 : ((List.range rs.length).map fun (k : Nat) => 2 * ((1 : Int) + ((0 : Int) + (k : Int)))) = st0N true rs.length rs := by
            show _ = ownL rs.length
            unfold ownL
            exact List.map_congr_left fun k _ => by omega
          obtain ⟨d, e, x1, x2, x3, x4, x5, x6⟩ := fin2 t _ (s4.trans st) (SqT.of (by rw [upd_same, e0]))
          exact ⟨d, e, x1, x2, x3, x4, _, rfl, goF x5 ⟨x6, rfl⟩⟩
    clear s3 H3
    rintro σ H3 ⟨s3, rfl⟩
    have hN : ((aheadN fr rs.length + c * i : Nat) : Int) = (aheadN fr rs.length : Int) + (c : Int) * (i : Int) := by
      rw [Int.natCast_add, Int.natCast_mul]
    refine ⟨_, rfl, _, rfl, _, rfl, _, rfl, _, _, rfl, rfl, .inl ⟨by omega, by omega⟩, _, _, rfl, rfl, p, c0, k, aheadN fr rs.length + c * i, by rw [hN]; rfl, hP.same s3, by omega, by omega, fun H4 l ws bss P4 B4 hl4 a4 m4 z4 => ?_⟩
    have B04 : But p H H4 := (But.of_same s3).trans B4
    have kU : Firm H H4 := Firm.pen B04 hP
    have P3 := hP.same s3
    have hO4 : OwnAt K H4 o n i gs rs nx wi := by
      have ho4 := B04 _ _ ho op
      exact ⟨g, t1, t2, ho4, G.firm kU, firm_seq kU h1, firm_seq kU h2⟩
    have hu4 := kU _ _ hu0 rfl
    have hts4 := kU _ _ hts rfl
    have htw4 := kU _ _ htw rfl
    have hsv4 : All2 (TuS K H4) sv Z.sts := hsv.imp fun _ _ h => h.firm kU
    have hy4 := kU _ _ hy0 rfl
    have Gy4 := Gy.firm kU
    obtain ⟨g', t1', t2', ho4, G4, h14, h24⟩ := id hO4
    clear kU P3 s3 B4 hsv htw hts hu0 hy0 hy Gy hO ho G h1 h2
    refine ⟨l, rfl, ⟨_, SqL.of hl4⟩, for_list (K := K) (a := l) (xs := ws)
      (fun j σ H' => ∃ (x8 x9 x10 x11 x12 x13 x14 x15 x16 x17 x18 : Option V), σ = [some (.ref p), some (.ref o), some (.ref u), some (.int c), some (.bl fr), some (.int (rs.length : Nat)), some (.int (i : Nat)), some (.int (aheadN fr rs.length : Nat)), none, none, x10, x11, x12, x13, x14, none, x16, none, none] ∧ Same H4 H')
      ⟨none, none, none, none, none, none, none, none, none, none, none, rfl, fun _ _ e => e⟩ (fun j σ H' _ ⟨_, _, _, _, _, _, _, _, _, _, _, _, s⟩ => SqL.of (s _ _ hl4)) ?_ ?_⟩
    · rintro jj x σ H5 hjj ⟨x8, x9, x10, x11, x12, x13, x14, x15, x16, x17, x18, rfl, s5⟩
      obtain ⟨bs, hbs, q0, rfl, hq0⟩ := a4.get hjj
      obtain ⟨lb, b01⟩ := m4 bs (List.mem_of_getElem? hbs)
      have hq5 := s5 _ _ hq0
      refine ⟨_, rfl, c, rfl, by omega, by omega, fun D nD => ?_⟩
      rw [Int.toNat_natCast]
      refine lc_range (lo := 0) (n := c) (fun j H6 => Same H5 H6 ∧ ∃ us, H6 D = some (.lst us) ∧ All2 (Tu K H6) us (rowsK bs (aheadN fr rs.length) i j)) ⟨same_new nD, [], upd_same, .nil⟩ ?_ ?_
      · rintro j H6 hj ⟨s6, us, h6, a6⟩
        have kN : aheadN fr rs.length + (j + 1) * i ≤ aheadN fr rs.length + c * i := Nat.add_le_add_left (Nat.mul_le_mul_right i hj) _
        have ki : j * i ≤ 42 := Nat.le_trans (Nat.mul_le_mul (by omega : j ≤ 6) i7) (by decide)
        have e1 : (j + 1) * i = j * i + i := by rw [Nat.add_mul, Nat.one_mul]
        refine ⟨rfl, yes_of ?_⟩
        refine ⟨_, rfl, _, rfl, _, rfl, _, rfl, _, _, rfl, rfl, .inl ⟨by omega, by omega⟩, _, _, rfl, rfl, _, rfl, _, rfl, _, rfl, _, _, rfl, rfl, _, rfl, _, _, rfl, rfl, .inl ⟨by omega, by omega⟩, _, _, rfl, rfl, _, rfl, ?_⟩
        refine cutS_use (a := aheadN fr rs.length + j * i) (b := aheadN fr rs.length + (j + 1) * i) ?_ ?_ (s6 _ _ hq5) (by omega) (by omega) fun t H7 s7 ht => ?_
        · rw [Int.natCast_add, Int.natCast_mul, Int.zero_add]
        · rw [Int.natCast_add, Int.natCast_mul, Int.zero_add, Int.natCast_add]
          rfl
        have e2 : (bs.drop (aheadN fr rs.length + j * i)).take (aheadN fr rs.length + (j + 1) * i - (aheadN fr rs.length + j * i)) = rowK bs (aheadN fr rs.length) i j := by
          have : aheadN fr rs.length + (j + 1) * i - (aheadN fr rs.length + j * i) = i := by omega
          rw [this]
          rfl
        rw [e2] at ht
        have h7 := s7 _ _ h6
        have fl : Firm H7 (upd H7 D (.lst (us ++ [.ref t]))) := Firm.upd h7 rfl
        refine ⟨_, h7, ?_, fun b o e => ?_, us ++ [.ref t], upd_same, ?_⟩
        · rw [a6.len]
          unfold rowsK
          rw [List.length_map, List.length_range]
          exact Nat.lt_of_lt_of_le (by omega : j < 7) (by decide)
        · rw [upd_ne (ne_of_none e nD)]
          exact s7 _ _ (s6 _ _ e)
        · rw [rowsK_more]
          exact (a6.imp fun _ _ h => (h.firm (Firm.of s7)).firm fl).snoc ⟨t, rfl, fl _ _ ht rfl⟩
      rintro H6 ⟨s6, us, h6, a6⟩
      have s46 := s5.trans s6
      have lrow : ∀ r ∈ rowsK bs (aheadN fr rs.length) i c, (r.length : Int) = i ∧ B01 r := fun r hr => by
        unfold rowsK at hr
        obtain ⟨j, hj, rfl⟩ := List.mem_map.mp hr
        have hj := List.mem_range.mp hj
        have kN : aheadN fr rs.length + (j + 1) * i ≤ aheadN fr rs.length + c * i := Nat.add_le_add_left (Nat.mul_le_mul_right i hj) _
        have e1 : (j + 1) * i = j * i + i := by rw [Nat.add_mul, Nat.one_mul]
        unfold rowK
        refine ⟨?_, fun z hz => b01 z (List.mem_of_mem_drop (List.mem_of_mem_take hz))⟩
        rw [List.length_take, List.length_drop]
        omega
      have lrk : (rowsK bs (aheadN fr rs.length) i c).length ≤ 30 := by
        unfold rowsK
        rw [List.length_map, List.length_range]
        omega
      refine ⟨fun σ H' => ∃ (t12 t13 : Addr) (x8 x9 x14 x15 x16 x17 x18 : Option V), σ = [some (.ref p), some (.ref o), some (.ref u), some (.int c), some (.bl fr), some (.int (rs.length : Nat)), some (.int (i : Nat)), some (.int (aheadN fr rs.length : Nat)), none, none, some (.ref q0), some (.ref D), some (.ref t12), some (.ref t13), x14, none, x16, none, none] ∧ Same H4 H' ∧
        ∃ pl : Pl × List Int, PlAt K H' t12 pl.1 ∧ SqT K H' t13 (pl.2.map V.int) ∧ UVal bs Z pl ∧ pl.1.length ≤ 30, ?_, ?_⟩
      · refine ⟨_, rfl, _, rfl, fr, rfl, ?_⟩
        have fin : ∀ (b : Addr) (H7 : Hp) (S : List Int), Same H6 H7 → SqT K H7 b (S.map V.int) → (S = if fr = true then bs.take rs.length else rs) → S.length = nx.length → B01 S → ∃ rows : List (List Int), OwnAt K H7 o n i gs rs nx wi ∧ H7 D = some (.lst us) ∧ All2 (Tu K H7) us rows ∧ rows.length ≤ 30 ∧ (∀ r ∈ rows, (r.length : Int) = i ∧ B01 r) ∧
            UVal bs Z (playM gs nx wi S rows) ∧ (playM gs nx wi S rows).1.length ≤ 30 := fun b H7 S s7 hb hS lS bS =>
          ⟨_, own_same (s46.trans s7) hO4, s7 _ _ h6, a6.imp fun _ _ h => h.firm (Firm.of s7), lrk, lrow, uval bs S b01 lb hS, by rw [play_len]; exact lrk⟩
        cases fr with
        | true =>
          have hb : rs.length ≤ bs.length := by
            rw [lb]
            exact Nat.le_add_right _ _
          refine iteT ⟨_, rfl, _, rfl, _, rfl, cutL_use (m := rs.length) (s6 _ _ hq5) hb fun tq H7 s7 htq => ?_⟩
          obtain ⟨rows, w1, w2, w3, w4, w5, w6, w7⟩ := fin tq H7 (bs.take rs.length) s7 (SqT.of htq) rfl (by rw [List.length_take, hm']; omega) (fun z hz => b01 z (List.mem_of_mem_take hz))
          refine ⟨_, rfl, o, tq, D, n, i, gs, rs, nx, wi, _, us, rows, rfl, w1, ok, SqT.of htq, (by rw [List.length_take, hm']; omega), (fun z hz => b01 z (List.mem_of_mem_take hz)), w2, w3, w4, w5, fun H8 t t12 t13 s8 ht hp1 hp2 => ?_⟩
          exact ⟨t, _, rfl, SqT.of ht, rfl, _, _, rfl, _, _, rfl, rfl, t12, t13, none, none, _, none, _, none, none, rfl, s46.trans (s7.trans s8), _, hp1, hp2, w6, w7⟩
        | false =>
          have r01' : B01 rs := fun z hz => by
            have := ok.r01 z hz
            omega
          obtain ⟨rows, w1, w2, w3, w4, w5, w6, w7⟩ := fin t1' H6 rs (fun _ _ e => e) (seqT_same s46 h14) rfl hm'.symm r01'
          refine iteF ⟨_, rfl, o, _, rfl, og_resets (s46 _ _ ho4), _, rfl, o, t1', D, n, i, gs, rs, nx, wi, _, us, rows, rfl, w1, ok, seqT_same s46 h14, hm'.symm, r01', w2, w3, w4, w5, fun H8 t t12 t13 s8 ht hp1 hp2 => ?_⟩
          exact ⟨t, _, rfl, SqT.of ht, rfl, _, _, rfl, _, _, rfl, rfl, t12, t13, none, none, _, none, _, none, none, rfl, s46.trans s8, _, hp1, hp2, w6, w7⟩
      clear s6 h6 a6 nD s46 hq5 s5 H6 H5
      rintro σ H6 ⟨t12, t13, x8, x9, x14, x15, x16, x17, x18, rfl, s6, pl, hp1, hp2, hv, lpl⟩
      have zl : Z.g.length ≤ 240 := Nat.le_trans uok.gl (Nat.le_trans (Nat.mul_le_mul c6 gl') (by decide))
      refine ⟨_, rfl, u, U, du, _, _, rfl, s6 _ _ hu4, T.l.clU, T.l.u1, lkg, y, C, dy, _, _, rfl, s6 _ _ hy4, T.l.q.z.gr.cl, T.l.q.z.gr.nL, flds_L _ _, _, rfl, u, U, du, _, _, rfl, s6 _ _ hu4, T.l.clU, T.l.u1, lkg, y, C, dy, _, _, rfl, s6 _ _ hy4, T.l.q.z.gr.cl, T.l.q.z.gr.nG, flds_G _ _, _, rfl,
        _, gy, q0, Z.g, bs, rfl, Gy4.firm (Firm.of s6), SqT.of (s6 _ _ hq0), b01, by rw [lb]; exact uok.ok, by omega, by omega, fun H7 lf s7 nlf hlf => ?_⟩
      have s47 := s6.trans s7
      have vl := vals_len bs Z.g
      have hts7 := s47 _ _ hts4
      have inr : ∀ a, InN (aheadN fr rs.length + c * i) Z.g a → 0 ≤ a ∧ (a / 2).toNat < (vals bs Z.g).length := fun a ⟨a0, a1⟩ => ⟨a0, by rw [vl, lb]; omega⟩
      refine ⟨_, rfl, u, U, du, _, _, rfl, s47 _ _ hu4, T.l.clU, T.l.u2, lks, tu1, rfl, ⟨_, SqT.of hts7⟩, fun D2 nD2 => ?_⟩
      refine lc_tup (K := K) (a := tu1) (xs := sv) (fun j H8 => Same H7 H8 ∧ ∃ us, H8 D2 = some (.lst us) ∧ All2 (Tu K H8) us ((Z.sts.take j).map fun t => t.map fun l => lit (vals bs Z.g) l)) ⟨same_new nD2, [], upd_same, .nil⟩ (fun j H8 _ ⟨s8, _⟩ => SqT.of (s8 _ _ hts7)) ?_ ?_
      · rintro j x H8 hj ⟨s8, us2, h8, a8⟩
        obtain ⟨r, hr0, q1, rfl, hq1⟩ := hsv4.get hj
        have hj2 : j < c + 1 := by
          have z := (List.getElem?_eq_some_iff.mp hr0).1
          rw [uok.tl] at z
          exact z
        obtain ⟨rl0, ri0⟩ := uok.ti r (List.mem_of_getElem? hr0)
        have hq8 := seqT_same (s47.trans s8) hq1
        refine ⟨rfl, yes_of ?_⟩
        refine ⟨_, rfl, q1, rfl, ⟨_, hq8⟩, fun D3 nD3 => ?_⟩
        refine lc_tup (K := K) (a := q1) (xs := r.map V.int) (fun e H9 => Same H8 H9 ∧ H9 D3 = some (.lst (((r.take e).map fun l => lit (vals bs Z.g) l).map V.int))) ⟨same_new nD3, upd_same⟩ (fun e H9 _ ⟨s9, _⟩ => seqT_same s9 hq8) ?_ ?_
        · rintro e y' H9 he ⟨s9, h9⟩
          obtain ⟨z, rfl, hz⟩ := Bw.int_at he
          obtain ⟨z0, z1⟩ := inr z (ri0 z (List.mem_of_getElem? hz))
          have he2 : e < r.length := (List.getElem?_eq_some_iff.mp hz).1
          refine ⟨rfl, yes_of ?_⟩
          refine ⟨_, rfl, _, rfl, lf, _, z, rfl, SqL.of (s9 _ _ (s8 _ _ hlf)), z0, z1, _, h9, ?_, fun b o e => ?_, ?_⟩
          · rw [List.length_map, List.length_map]
            exact Nat.lt_of_le_of_lt (List.length_take_le _ _) (Nat.lt_of_lt_of_le (by omega : e < 8) (by decide))
          · rw [upd_ne (ne_of_none e nD3)]
            exact s9 _ _ e
          · rw [upd_same, take_more hz, List.map_append, List.map_append]
            rfl
        · rintro H9 ⟨s9, h9⟩
          rw [List.length_map, List.take_length] at h9
          refine ⟨D3, _, rfl, .inl ⟨SqL.of h9, fun t nt => ?_⟩⟩
          have st := same_new (u := .tup ((r.map fun l => lit (vals bs Z.g) l).map V.int)) nt
          have h10 := st _ _ (s9 _ _ h8)
          have fl : Firm (upd H9 t (.tup ((r.map fun l => lit (vals bs Z.g) l).map V.int))) (upd (upd H9 t (.tup ((r.map fun l => lit (vals bs Z.g) l).map V.int))) D2 (.lst (us2 ++ [.ref t]))) := Firm.upd h10 rfl
          refine ⟨_, h10, ?_, fun b o e => ?_, us2 ++ [.ref t], upd_same, ?_⟩
          · rw [a8.len, List.length_map]
            exact Nat.lt_of_le_of_lt (List.length_take_le _ _) (Nat.lt_of_lt_of_le (by omega : j < 8) (by decide))
          · rw [upd_ne (ne_of_none e nD2)]
            exact st _ _ (s9 _ _ (s8 _ _ e))
          · rw [take_more hr0, List.map_append]
            exact (a8.imp fun _ _ h => (h.firm (Firm.of (s9.trans st))).firm fl).snoc ⟨t, rfl, fl _ _ upd_same rfl⟩
      rintro H8 ⟨s8, us2, h8, a8⟩
      rw [hsv4.len, List.take_length] at a8
      have s68 := s7.trans s8
      have s48 := s47.trans s8
      have hp18 := hp1.firm (Firm.of s68)
      have hp28 := seqT_same s68 hp2
      obtain ⟨pv1, hpv, hpa⟩ := hp18
      refine ⟨_, rfl, _, rfl, t12, rfl, ⟨_, SqT.of hpv⟩, fun D4 nD4 => ?_⟩
      refine lc_tup (K := K) (a := t12) (xs := pv1) (fun j H9 => Same H8 H9 ∧ ∃ us, H9 D4 = some (.lst us) ∧ All2 (TuS K H9) us ((pl.1.take j).map fun q => q.1)) ⟨same_new nD4, [], upd_same, .nil⟩ (fun j H9 _ ⟨s9, _⟩ => SqT.of (s9 _ _ hpv)) ?_ ?_
      · rintro j x H9 hj ⟨s9, us3, h9, a9⟩
        obtain ⟨z, hz, a, b, rfl, ha, hb⟩ := hpa.get hj
        have hj2 : j < pl.1.length := (List.getElem?_eq_some_iff.mp hz).1
        have fl : Firm H9 (upd H9 D4 (.lst (us3 ++ [.ref b]))) := Firm.upd h9 rfl
        refine ⟨a, _, rfl, SqT.of (s9 _ _ ha), rfl, _, _, rfl, _, _, rfl, rfl, rfl, yes_of ?_⟩
        refine ⟨_, rfl, _, h9, ?_, fun b o e => ?_, us3 ++ [.ref b], upd_same, ?_⟩
        · rw [a9.len, List.length_map]
          exact Nat.lt_of_le_of_lt (List.length_take_le _ _) (Nat.lt_of_lt_of_le (by omega : j < 31) (by decide))
        · rw [upd_ne (ne_of_none e nD4)]
          exact s9 _ _ e
        · rw [take_more hz, List.map_append]
          exact (a9.imp fun _ _ h => h.firm fl).snoc ⟨b, rfl, firm_seq fl (seqT_same s9 hb)⟩
      rintro H9 ⟨s9, us3, h9, a9⟩
      rw [hpa.len, List.take_length] at a9
      refine ⟨_, rfl, (by show 1 ≤ sizeLine; decide), fun l5 nl5 => ⟨D4, l5, us3, _, rfl, rfl, same_new nl5 _ _ h9, upd_same, ?_, fun l6 nl6 => ?_⟩⟩
      · rw [a9.len, List.length_map]
        exact Nat.le_trans (by show pl.1.length + 1 ≤ 31; omega) (by decide)
      have s10 := (same_new (u := .lst [V.ref t13]) nl5).trans (same_new (u := .lst (us3 ++ [V.ref t13])) nl6)
      have hL6 : upd (upd H9 l5 (.lst [V.ref t13])) l6 (.lst (us3 ++ [V.ref t13])) l6 = some (.lst (us3 ++ [V.ref t13])) := upd_same
      generalize upd (upd H9 l5 _) l6 _ = H10 at s10 hL6 ⊢
      have h8d := s10 _ _ (s9 _ _ h8)
      have dl : Dp K H10 (.ref D2) (.list ((pl.1.map (·.1) ++ [pl.2]).map rwD)) := by
        rw [← hv.sts]
        exact .lst (SqL.of h8d) (tu_dp (a8.imp fun _ _ h => h.firm (Firm.of (s9.trans s10))))
      have dr : Dp K H10 (.ref l6) (.list ((pl.1.map (·.1) ++ [pl.2]).map rwD)) :=
        .lst (SqL.of hL6) (tuS_dp ((a9.imp fun _ _ h => h.firm (Firm.of s10)).snoc ⟨t13, rfl, seqT_same (s9.trans s10) hp28⟩))
      refine ⟨_, _, dl, dr, rows_sh _, rows_sh _, _, rfl, goF (eqF (rows_sh _)) ?_⟩
      have s410 := s48.trans (s9.trans s10)
      have hlf10 := s10 _ _ (s9 _ _ (s8 _ _ hlf))
      have htw10 := s410 _ _ htw4
      refine ⟨_, rfl, u, U, du, _, _, rfl, s410 _ _ hu4, T.l.clU, T.l.u3, lkw, tu2, rfl, ⟨_, SqT.of htw10⟩, fun D5 nD5 => ?_⟩
      refine lc_tup (K := K) (a := tu2) (xs := Z.ws.map V.int) (fun e H11 => Same H10 H11 ∧ H11 D5 = some (.lst (((Z.ws.take e).map fun l => lit (vals bs Z.g) l).map V.int))) ⟨same_new nD5, upd_same⟩ (fun e H11 _ ⟨s11, _⟩ => SqT.of (s11 _ _ htw10)) ?_ ?_
      · rintro e y' H11 he ⟨s11, h11⟩
        obtain ⟨z, rfl, hz⟩ := Bw.int_at he
        obtain ⟨z0, z1⟩ := inr z (uok.wi z (List.mem_of_getElem? hz))
        have he2 : e < Z.ws.length := (List.getElem?_eq_some_iff.mp hz).1
        rw [uok.wl] at he2
        refine ⟨rfl, yes_of ?_⟩
        refine ⟨_, rfl, _, rfl, lf, _, z, rfl, SqL.of (s11 _ _ hlf10), z0, z1, _, h11, ?_, fun b o e => ?_, ?_⟩
        · rw [List.length_map, List.length_map]
          exact Nat.lt_of_le_of_lt (List.length_take_le _ _) (Nat.lt_of_lt_of_le (by omega : e < 8) (by decide))
        · rw [upd_ne (ne_of_none e nD5)]
          exact s11 _ _ e
        · rw [upd_same, take_more hz, List.map_append, List.map_append]
          rfl
      rintro H11 ⟨s11, h11⟩
      rw [List.length_map, List.take_length] at h11
      have hpv11 := s11 _ _ (s10 _ _ (s9 _ _ hpv))
      have hpa11 : All2 (Pw K H11) pv1 pl.1 := hpa.imp fun _ _ h => h.firm (Firm.of (s9.trans (s10.trans s11)))
      refine ⟨_, rfl, t12, rfl, ⟨_, SqT.of hpv11⟩, fun D6 nD6 => ?_⟩
      refine lc_tup (K := K) (a := t12) (xs := pv1) (fun j H12 => Same H11 H12 ∧ H12 D6 = some (.lst (((pl.1.take j).map fun q => q.2).map V.int))) ⟨same_new nD6, upd_same⟩ (fun j H12 _ ⟨s12, _⟩ => SqT.of (s12 _ _ hpv11)) ?_ ?_
      · rintro j x H12 hj ⟨s12, h12⟩
        obtain ⟨z, hz, a, b, rfl, ha, hb⟩ := hpa11.get hj
        have hj2 : j < pl.1.length := (List.getElem?_eq_some_iff.mp hz).1
        refine ⟨a, _, rfl, SqT.of (s12 _ _ ha), rfl, _, _, rfl, _, _, rfl, rfl, rfl, yes_of ?_⟩
        refine ⟨_, rfl, _, h12, ?_, fun b o e => ?_, ?_⟩
        · rw [List.length_map, List.length_map]
          exact Nat.lt_of_le_of_lt (List.length_take_le _ _) (Nat.lt_of_lt_of_le (by omega : j < 31) (by decide))
        · rw [upd_ne (ne_of_none e nD6)]
          exact s12 _ _ e
        · rw [upd_same, take_more hz, List.map_append, List.map_append]
          rfl
      rintro H12 ⟨s12, h12⟩
      rw [hpa11.len, List.take_length] at h12
      have h115 := s12 _ _ h11
      rw [hv.ws] at h115
      refine ⟨_, _, lst_dp h115, lst_dp h12, shL _, shL _, _, rfl, goF (eqF (shL _)) ?_⟩
      exact ⟨none, none, _, _, _, _, _, none, _, none, none, rfl, s410.trans (s11.trans s12)⟩
    · rintro σ H5 ⟨x8, x9, x10, x11, x12, x13, x14, x15, x16, x17, x18, rfl, s5⟩
      exact q _ (P4.same s5) (B04.trans (But.of_same s5))
end
end Ux
namespace Uy
open PySem PySem.Spec PyProof.Rows L2 LamX Pen Dat Ki Fi Gr No Lf Bd Be Bf Bg Bm Bx Ca Um Dm Wy Yd Yh Zm Zn2 Ul Uw Ux Yt Gd
/-! ## k22: the law -/
abbrev nLaw : List Str := ["_law_script", "_law_pen_here", "_law_lap", "_law_own", "_law_made", "_law_cycles", "_law_free", "_law_k", "_law_rows_here", "_law_due", "_law_many", "_law_state", "_law_wish", "_law_wishes", "_law_bad", "_law_far", "_law_wrong", "_law_call"]
theorem scLaw : FnScope nLaw ["_law_script"] (defScope sLaw) := ⟨rfl, rfl, rfl, by decide +kernel, rfl, by decide +kernel, by decide +kernel⟩
abbrev lamQ : Str := (envOfC "law" (defScope sLaw) 0 0 .none).qual ++ "<lambda>"
def spLaw (K : PySem.W.Frag) (tb : Addr) : Sp := fun vs H Q _ => ∃ (a : Addr) (ns : List Int), vs = [.ref a] ∧ SqL K H a (ns.map V.int) ∧ ns.length ≤ 63 ∧ H tb = some (.tbl #[]) ∧ ∀ H', Q (.bl true) H'
theorem pe_why {X : Cx} {g CN CR c tb : Addr} {fd : FuncData} {k : Nat} {t : XK → TE} {params : Arguments} {body : Expr} {scope : Scope} {p lpos pos : Pos} (F : FnP X.K "_law_why" sWhy g fd) (gW : X.mg "_law_why" = some (.ref g)) (T : Yh.Tw X.K X.mg CN CR)
    (hg : X.A.guards = some []) (hr : Room (k + 2) X.A) (TB : TabB X.base X.mg c tb) (hcode : X.env.code = .ref c) (hq : X.env.qual ++ "<lambda>" = lamQ) (gl : Gl X "_law_why") (L : LamS X.env.scope scope) (hdef : defaultsOf params X.env = ([], []))
    (hbind : ∀ (q : Str) (cl : List (Str × Addr)) (pm cv ctv : Value), bindArgs (PySem.W.kla_fn "<lambda>" q params body scope cl pm cv ctv) ⟨[], []⟩ = pure [])
    (hbody : ∀ (A : Around) (outer : List Env) (s : Shared) (H : Hp) (E : XK) (f c' : Addr), Room k (A.deeper (lamEnv X scope s.heap.objs.size f c')) → PE (lamCx X A outer s H E scope f c') body (t E)) :
    PE X (.Call (.Name "_law_why" p) [.Lambda params body scope lpos] [] pos) (tLam [(tb, lamQ)] (TWhy X.K CN CR) t) := by
  obtain ⟨_, _, _, _, _, _, _, cdv, _, _, rfl, lk, hcd, _, _⟩ := F.ex
  exact pe_lamcall (T := [(tb, lamQ)]) (TT := TWhy X.K CN CR) (a := "_law_call") (Ng := yN) gl gW F.kp lk hcd (F.bindsN fun _ _ _ _ _ _ us hl => match us, hl with | [_], _ => rfl) scWhy rfl (by exact Or.inl rfl)
    (why_gives T hg (hr.mono (by omega : k + 1 ≤ k + 2))) TB hcode (by rw [hq]; exact List.mem_cons_self) (fun p hp _ => by rw [hq]; rw [List.mem_singleton.mp hp]) hr L hdef hbind hbody
section
variable {X : Cx} {CX : CXT} {k1 k2 j i : Nat} {f1 f2 : Addr} {fd1 fd2 : FuncData} {ps : List Str} {sp : Sp} {E : XK} {x : Str} {p pos : Pos} {e : Expr} {es : List Expr} {t : TA}
/-- a call of a name that holds one of two defs -/
theorem pe_call2 (F1 : FnOk X.prog X.w X.K X.mg X.base CX k1 f1 fd1 ps sp) (F2 : FnOk X.prog X.w X.K X.mg X.base CX k2 f2 fd2 ps sp) (hr : Room j X.A) (h1 : k1 ≤ j) (h2 : k2 ≤ j) (hN : X.N[i]? = some x) (hv : Vis X.env.scope x) (q1 : PySem.W.keepIn X.K (.ref f1) = true) (q2 : PySem.W.keepIn X.K (.ref f2) = true)
    (b1 : Binds X.K fd1 ps []) (b2 : Binds X.K fd2 ps []) (hx : Passes CX X E) (ha : PA X (e :: es) t) (hd : (x == ("__debug__" : Str)) = false := by decide) (hc : (x == ("__classdict__" : Str)) = false := by decide)
    (he : starEach (e :: es) X.env = (false, eval e X.env) :: starEach es X.env := by rfl) (hp : (backTo pos (starEach es X.env)).any (·.1) = false := by rfl) :
    PE X (.Call (.Name x p) (e :: es) [] pos) (fun σ H Q => (σ[i]? = some (some (.ref f1)) ∨ σ[i]? = some (some (.ref f2))) ∧ t σ H fun vs H1 => sp (vs ++ []) H1 Q E) :=
  ⟨fun pins s σ H Q I ⟨h, ht⟩ => h.elim (fun h => (pe_callL (dvs := []) F1 (hr.mono h1) hN hv q1 b1 .nil hx ha hd hc he hp).run pins s σ H Q I ⟨h, ht⟩) fun h => (pe_callL (dvs := []) F2 (hr.mono h2) hN hv q2 b2 .nil hx ha hd hc he hp).run pins s σ H Q I ⟨h, ht⟩⟩
end
/-! ### what stays: all but the pen and the tables -/
def solid : HO → Bool
  | .lst _ => true
  | .tup _ => true
  | .frz _ _ => true
  | .ins _ _ _ => true
  | .dK kvs => kvs.length == 1
  | _ => false
def Stay (H H' : Hp) : Prop := ∀ b o, H b = some o → solid o = true → H' b = some o
theorem Stay.of {H H' : Hp} (s : Same H H') : Stay H H' := fun b o e _ => s b o e
theorem Stay.trans {H H1 H2 : Hp} (a : Stay H H1) (b : Stay H1 H2) : Stay H H2 := fun c o e h => b c o (a c o e h) h
theorem Stay.extN {H H' : Hp} (s : ExtN H H') : Stay H H' := fun b o e f => s b o e fun ps z => by
  rw [z] at f
  cases f
theorem Stay.pen {H H' : Hp} {p c : Addr} {m : Nat} (b : But p H H') (h : PenC H p c m) : Stay H H' := fun q o e f => b q o e fun z => by
  obtain ⟨_, _, _, _, _, h1, _⟩ := h
  rw [z, h1] at e
  cases e
  cases f
theorem Stay.firm {H H' : Hp} (s : Stay H H') : Firm H H' := fun b o e f => s b o e (by
  cases o with
  | tup _ => rfl
  | frz _ _ => rfl
  | ins _ _ _ => rfl
  | _ => cases f)
section
variable {K : PySem.W.Frag} {H H' : Hp}
theorem seqL_stay {a : Addr} {xs : List V} (s : Stay H H') (h : SqL K H a xs) : SqL K H' a xs := h.elim (fun h => .inl (h.elim (fun h => .inl (s _ _ h rfl)) fun ⟨o, h⟩ => .inr ⟨o, s _ _ h rfl⟩)) .inr
theorem seqT_stay {a : Addr} {xs : List V} (s : Stay H H') (h : SqT K H a xs) : SqT K H' a xs := h.elim (fun h => .inl (h.elim (fun h => .inl (s _ _ h rfl)) fun ⟨o, h⟩ => .inr ⟨o, s _ _ h rfl⟩)) .inr
mutual
theorem dp_stay (s : Stay H H') : ∀ {d : PyData} {v : V}, Dp K H v d → Dp K H' v d
  | .none, _, h => by cases h; exact .non
  | .bool b, _, h => by cases h; exact .bl b
  | .int i, _, h => by cases h; exact .int i
  | .str x, _, h => by cases h; exact .str x
  | .list ds, _, h => by
    cases h with
    | lst hs ha => exact .lst (seqL_stay s hs) (dps_stay s ha)
  | .tuple ds, _, h => by
    cases h with
    | tup hs ha => exact .tup (seqT_stay s hs) (dps_stay s ha)
  | .dict _, _, h => by cases h
theorem dps_stay (s : Stay H H') : ∀ {ds : List PyData} {vs : List V}, DpAll K H vs ds → DpAll K H' vs ds
  | [], _, h => by cases h; exact .nil
  | d :: ds, _, h => by
    cases h with
    | cons h1 h2 => exact .cons (dp_stay s h1) (dps_stay s h2)
end
def ShB (d : PyData) : Bool := (d.showable && !d.hasDict) && (decide (d.depth ≤ 60) && (decide (d.shown.length ≤ sizeLine) && PyData.strOk d.shown))
theorem says_of {v : V} {d : PyData} (h : Dp K H v d) (s : ShB d = true) : Says K H v d.shown := by
  unfold ShB at s
  simp only [Bool.and_eq_true, Bool.not_eq_true', decide_eq_true_eq] at s
  obtain ⟨⟨h1, h2⟩, h3, h4, _⟩ := s
  exact .inl ⟨d, h, h1, h2, h3, h4, rfl⟩
theorem sh_str {d : PyData} (s : ShB d = true) : PyData.strOk d.shown = true := by
  unfold ShB at s
  simp only [Bool.and_eq_true] at s
  exact s.2.2.2
end
theorem len0 : ([] : List V).length ≤ sizeLine := Nat.zero_le _
theorem len1 {a : V} : [a].length ≤ sizeLine := (by decide : 1 ≤ sizeLine)
theorem len6 {a b c d e f : V} : [a, b, c, d, e, f].length ≤ sizeLine := (by decide : 6 ≤ sizeLine)
theorem same_ins {H : Hp} {x dx : Addr} {C : Addr} (nx : H x = none) (nd : H dx = none) (ne : dx ≠ x) : Same H (upd (upd H dx (.own x)) x (.ins C dx [])) :=
  (same_new nd).trans (same_new (by rw [upd_ne (Ne.symm ne)]; exact nx))
theorem same_two {H : Hp} {p : Addr} {u v : HO} (np : H p = none) : Same H (upd (upd H p u) p v) := fun b o e => by
  rw [upd_ne (ne_of_none e np), upd_ne (ne_of_none e np)]
  exact e
theorem six {α : Type} {a b c d e f v : α} {i : Nat} (h : [a, b, c, d, e, f][i]? = some v) : v = a ∨ v = b ∨ v = c ∨ v = d ∨ v = e ∨ v = f := by
  have m := List.mem_of_getElem? h
  simpa using m
section
variable {K : PySem.W.Frag} {H : Hp}
theorem tl {t : Addr} {xs : List V} {ds : List PyData} (e : H t = some (.tup xs)) (h : DpAll K H xs ds) : Dp K H (.ref t) (.tuple ds) := .tup (.inl (.inl e)) h
theorem ll {t : Addr} {xs : List V} {ds : List PyData} (e : H t = some (.lst xs)) (h : DpAll K H xs ds) : Dp K H (.ref t) (.list ds) := .lst (.inl (.inl e)) h
theorem dI1 (i : Int) : DpAll K H [.int i] [.int i] := .cons (.int i) .nil
theorem dI2 (i j : Int) : DpAll K H [.int i, .int j] [.int i, .int j] := .cons (.int i) (.cons (.int j) .nil)
theorem dI3 (i j k : Int) : DpAll K H [.int i, .int j, .int k] [.int i, .int j, .int k] := .cons (.int i) (.cons (.int j) (.cons (.int k) .nil))
end
theorem pen_tbl {H : Hp} {p c b : Addr} {m : Nat} {ps : Array Value} (h : PenC H p c m) (e : H b = some (.tbl ps)) : b ≠ p := fun z => by
  obtain ⟨_, _, _, _, _, h1, _⟩ := h
  rw [z, h1] at e
  cases e
theorem pen_lst {H : Hp} {p c b : Addr} {m : Nat} {xs : List V} (h : PenC H p c m) (e : H b = some (.lst xs)) : b ≠ p := fun z => by
  obtain ⟨_, _, _, _, _, h1, _⟩ := h
  rw [z, h1] at e
  cases e
theorem goT {b : Bool} {A B : Prop} (h : b = true) (x : A) : if b = true then A else B := by rw [h]; exact iteT x
theorem two_eqv (a b : Str) : PyData.eqv (.tuple [.str a, .str b]) (.tuple [.str a, .str b]) = true := by simp [PyData.eqv, PyData.eqvAll]
theorem three_eqv (a b c : Str) : PyData.eqv (.tuple [.str a, .str b, .str c]) (.tuple [.str a, .str b, .str c]) = true := by simp [PyData.eqv, PyData.eqvAll]
theorem two_sh {a b : Str} (ha : PyData.strOk a = true) (hb : PyData.strOk b = true) : SeqAt.shaped (.tuple [.str a, .str b]) = true := by
  unfold SeqAt.shaped
  rw [Bool.and_eq_true]
  exact ⟨by simp [PyData.canLay0, PyData.canLayAll0, ha, hb], decide_eq_true (by simp [PyData.depth, PyData.depthAll])⟩
theorem three_sh {a b c : Str} (ha : PyData.strOk a = true) (hb : PyData.strOk b = true) (hc : PyData.strOk c = true) : SeqAt.shaped (.tuple [.str a, .str b, .str c]) = true := by
  unfold SeqAt.shaped
  rw [Bool.and_eq_true]
  exact ⟨by simp [PyData.canLay0, PyData.canLayAll0, ha, hb, hc], decide_eq_true (by simp [PyData.depth, PyData.depthAll])⟩
theorem strs2 {K : PySem.W.Frag} {H : Hp} {t : Addr} {a b : Str} (e : H t = some (.tup [.str a, .str b])) : Dp K H (.ref t) (.tuple [.str a, .str b]) := .tup (.inl (.inl e)) (.cons (.str a) (.cons (.str b) .nil))
theorem strs3 {K : PySem.W.Frag} {H : Hp} {t : Addr} {a b c : Str} (e : H t = some (.tup [.str a, .str b, .str c])) : Dp K H (.ref t) (.tuple [.str a, .str b, .str c]) := .tup (.inl (.inl e)) (.cons (.str a) (.cons (.str b) (.cons (.str c) .nil)))
theorem says_stay {K : PySem.W.Frag} {H H' : Hp} {v : V} {x : Str} (s : Stay H H') (h : Says K H v x) : Says K H' v x := by
  rcases h with ⟨d, a, b⟩ | ⟨a, i, j, e, h, b⟩
  · exact .inl ⟨d, dp_stay s a, b⟩
  · exact .inr ⟨a, i, j, e, s _ _ h rfl, b⟩
theorem num_of {K : PySem.W.Frag} {CN CR : Addr} {H : Hp} {m : Str} {v : V} {x : Str} {Q : VK} (h : Says K H v x) (q : ∀ H' t, Same H H' → H' t = some (.tup [.str "number", .str m, .str x]) → Q (.ref t) H') : Num CN (WhyE K CN CR Q) H m v := by
  intro dd H' s1 e
  exact ⟨dd, _, rfl, e, .inl ⟨rfl, m, v, x, rfl, rfl, says_stay (Stay.of s1) h, fun t nt => q _ t (s1.trans (same_new nt)) upd_same⟩⟩
theorem row_of {K : PySem.W.Frag} {CN CR : Addr} {H : Hp} {v : V} {x : Str} {Q : VK} (h : Says K H v x) (q : ∀ H' t, Same H H' → H' t = some (.tup [.str "row", .str x]) → Q (.ref t) H') : Row CR (WhyE K CN CR Q) H v := by
  intro dd H' s1 e
  exact ⟨dd, _, rfl, e, .inr ⟨rfl, v, x, rfl, says_stay (Stay.of s1) h, fun t nt => q _ t (s1.trans (same_new nt)) upd_same⟩⟩
theorem pen_extN {H H' : Hp} {p c : Addr} {m : Nat} (s : ExtN H H') (h : PenC H p c m) : PenC H' p c m := by
  obtain ⟨ns, a, d, n, f, h1, h2, r⟩ := h
  exact ⟨ns, a, d, n, f, s _ _ h1 (fun _ z => by cases z), s _ _ h2 (fun _ z => by cases z), r⟩
theorem room_u {k : Nat} {A : Around} (r : Room k A) : A.units + 100 < cLine := by
  have := r.un
  omega
theorem tabs_but {T : List (Addr × Str)} {H H' : Hp} {p c : Addr} {m : Nat} (b : But p H H') (h : PenC H p c m) (t : Tabs T H) : Tabs T H' := fun q hq => by
  obtain ⟨ps, h1, h2, h3⟩ := t q hq
  refine ⟨ps, b _ _ h1 (pen_tbl h h1), h2, fun pos cv e => ?_⟩
  obtain ⟨c', e1, e2⟩ := h3 pos cv e
  refine ⟨c', e1, b _ _ e2 fun z => ?_⟩
  obtain ⟨_, _, _, _, _, k1, _⟩ := h
  rw [z, k1] at e2
  cases e2
section
variable {K : PySem.W.Frag} {H : Hp}
end
theorem five {α : Type} {a b c d e v : α} {i : Nat} (h : [a, b, c, d, e][i]? = some v) : v = a ∨ v = b ∨ v = c ∨ v = d ∨ v = e := by
  have m := List.mem_of_getElem? h
  simpa using m
def OddC (K : PySem.W.Frag) (H : Hp) (v : V) : Prop := ∃ d, Dp K H v d ∧ ShB d = true ∧ fromD d 0 = false
theorem OddC.stay {K : PySem.W.Frag} {H H' : Hp} {v : V} (s : Stay H H') (h : OddC K H v) : OddC K H' v := let ⟨d, a, b⟩ := h; ⟨d, dp_stay s a, b⟩
theorem odd_pick {K : PySem.W.Frag} {H : Hp} {t1 : Addr} {v : V} {i : Nat} (h : [V.int (-1), .non, .bl true, .str "2", .ref t1][i]? = some v) (e1 : H t1 = some (.tup [.int 1])) : OddC K H v := by
  rcases five h with rfl | rfl | rfl | rfl | rfl
  · exact ⟨_, .int _, by decide +kernel, rfl⟩
  · exact ⟨_, .non, by decide +kernel, rfl⟩
  · exact ⟨_, .bl _, by decide +kernel, rfl⟩
  · exact ⟨_, .str _, by decide +kernel, rfl⟩
  · exact ⟨_, tl e1 (dI1 1), by decide +kernel, rfl⟩
/-- no rows of i bits -/
def BadR (K : PySem.W.Frag) (H : Hp) (i : Int) (v : V) : Prop := ∃ d, Dp K H v d ∧ ShB d = true ∧ (rowsD d).length ≤ 1000 ∧ (∀ e ∈ rowsD d, (rowsD e).length ≤ 1000) ∧ bitsB d i = false
theorem BadR.stay {K : PySem.W.Frag} {H H' : Hp} {i : Int} {v : V} (s : Stay H H') (h : BadR K H i v) : BadR K H' i v := let ⟨d, a, b⟩ := h; ⟨d, dp_stay s a, b⟩
def farD (k : Nat) : PyData := .list [.tuple (List.replicate k (.int 0)), .tuple (List.replicate (k + 1) (.int 0))]
def twoD (k : Nat) : PyData := .list [.tuple (List.replicate (k + 1) (.int 2))]
theorem far_ok : ∀ k : Nat, k < 4 → ShB (farD k) = true ∧ bitsB (farD k) k = false ∧ (rowsD (farD k)).length ≤ 1000 ∧ ∀ e ∈ rowsD (farD k), (rowsD e).length ≤ 1000 := by decide +kernel
theorem two_ok : ∀ k : Nat, k < 4 → ShB (twoD k) = true ∧ bitsB (twoD k) k = false ∧ (rowsD (twoD k)).length ≤ 1000 ∧ ∀ e ∈ rowsD (twoD k), (rowsD e).length ≤ 1000 := by decide +kernel
theorem reps_dp (K : PySem.W.Frag) (H : Hp) (i : Int) : ∀ k : Nat, DpAll K H (List.replicate k (V.int i)) (List.replicate k (.int i))
  | 0 => .nil
  | k + 1 => .cons (.int i) (reps_dp K H i k)
theorem bad_pick {K : PySem.W.Frag} {H : Hp} {n : Nat} (hn : n < 4) {t1 t2 t3 l1 l2 l3 : Addr} {v : V} {i : Nat} (h : [V.non, .int 5, .ref l1, .ref l2, .ref l3, .str "ab"][i]? = some v) (e1 : H t1 = some (.tup (List.replicate n (.int 0)))) (e2 : H t2 = some (.tup (List.replicate (n + 1) (.int 0)))) (f1 : H l1 = some (.lst [.ref t1, .ref t2]))
    (e3 : H t3 = some (.tup (List.replicate (n + 1) (.int 2)))) (f2 : H l2 = some (.lst [.ref t3])) (f3 : H l3 = some (.lst [.non])) : BadR K H n v := by
  rcases six h with rfl | rfl | rfl | rfl | rfl | rfl
  · exact ⟨.none, .non, by decide +kernel, by decide, by decide, rfl⟩
  · exact ⟨.int 5, .int _, by decide +kernel, by decide, by decide, rfl⟩
  · obtain ⟨a, b, c, d⟩ := far_ok n hn
    exact ⟨farD n, ll f1 (.cons (tl e1 (reps_dp K H 0 n)) (.cons (tl e2 (reps_dp K H 0 (n + 1))) .nil)), a, c, d, b⟩
  · obtain ⟨a, b, c, d⟩ := two_ok n hn
    exact ⟨twoD n, ll f2 (.cons (tl e3 (reps_dp K H 2 (n + 1))) .nil), a, c, d, b⟩
  · exact ⟨.list [.none], ll f3 (.cons .non .nil), by decide +kernel, by decide, by decide, rfl⟩
  · exact ⟨.str "ab", .str _, by decide +kernel, by decide, by decide, rfl⟩
theorem mulT_use {K : PySem.W.Frag} {H : Hp} {l : Addr} {k : Nat} {z : Int} {x : V} {Q : VK} (hz : z = (k : Int)) (h : H l = some (.tup [x])) (hk : k ≤ 1000) (q : ∀ t H', Same H H' → H' t = some (.tup (List.replicate k x)) → Q (.ref t) H') : Tm.rMulT K (.ref l) (.int z) H Q := by
  subst hz
  refine ⟨l, _, [x], rfl, rfl, SqT.of h, by simp, (by show 1 ≤ 1000; decide), ?_⟩
  match k, hk, q with
  | 0, _, q => exact .inl ⟨rfl, fun p np => q p _ (same_new np) upd_same⟩
  | 1, _, q => exact .inr (.inl ⟨rfl, q l H (fun _ _ e => e) h⟩)
  | k + 2, hk, q =>
    refine .inr (.inr ⟨by omega, by omega, fun p np => q p _ (same_new np) ?_⟩)
    rw [upd_same, show ((k + 2 : Nat) : Int).toNat = k + 2 from rfl, flat_rep]
/-! ### played rows, shown -/
def pD2 (p : List Int × Int) : PyData := .tuple [.tuple (p.1.map .int), .int p.2]
theorem pws_dp {K : PySem.W.Frag} {H : Hp} : ∀ {us : List V} {ps : Pl}, All2 (Pw K H) us ps → DpAll K H us (ps.map pD2)
  | _, _, .nil => .nil
  | _, _, .cons h t => by
    obtain ⟨a, b, rfl, h1, h2⟩ := h
    exact .cons (.tup (SqT.of h1) (.cons (.tup h2 (ints_dp _)) (.cons (.int _) .nil))) (pws_dp t)
theorem bit_small {z : Int} (h : z = 0 ∨ z = 1) : Rp.Small z := by
  rcases h with rfl | rfl
  · exact ⟨by decide, by decide⟩
  · exact ⟨by decide, by decide⟩
theorem pl_all {m : Nat} (hm : m ≤ 10) : ∀ {ps : Pl}, (∀ p ∈ ps, p.1.length = m ∧ B01 p.1 ∧ (p.2 = 0 ∨ p.2 = 1)) → PyData.showableAll (ps.map pD2) = true ∧ PyData.hasDictAll (ps.map pD2) = false ∧ PyData.depthAll (ps.map pD2) ≤ 2 ∧ PyData.canLayAll0 (ps.map pD2) = true ∧
    PyData.intsShortAll 13 (ps.map pD2) = true ∧ PyData.weightAll (ps.map pD2) ≤ 200 * ps.length
  | [], _ => ⟨rfl, rfl, Nat.zero_le _, rfl, rfl, Nat.zero_le _⟩
  | p :: r, h => by
    obtain ⟨pl, p1, p2⟩ := h p List.mem_cons_self
    obtain ⟨a1, b1, c1, d1, e1, g1⟩ := Rp.ints_all (ns := p.1) fun z hz => bit_small (p1 z hz)
    have w1 := Rp.weigh_small (bit_small p2)
    have w2 := Rp.show_small (bit_small p2)
    have w3 := Rp.short_small (bit_small p2)
    obtain ⟨a, b, c, d, e, g⟩ := pl_all hm (ps := r) fun y hy => h y (List.mem_cons_of_mem _ hy)
    refine ⟨?_, ?_, ?_, ?_, ?_, ?_⟩
    · show ((PyData.showableAll (p.1.map .int) && ((PyData.int p.2).showable && true)) && PyData.showableAll (r.map pD2)) = true
      rw [a1, a, w2]
      rfl
    · show ((PyData.hasDictAll (p.1.map .int) || (false || false)) || PyData.hasDictAll (r.map pD2)) = false
      rw [b1, b]
      rfl
    · show max (max (PyData.depthAll (p.1.map .int) + 1) (max 0 0) + 1) (PyData.depthAll (r.map pD2)) ≤ 2
      rw [c1]
      exact Nat.max_le.mpr ⟨by decide, c⟩
    · show ((PyData.canLayAll0 (p.1.map .int) && (true && true)) && PyData.canLayAll0 (r.map pD2)) = true
      rw [d1, d]
      rfl
    · show ((PyData.intsShortAll 13 (p.1.map .int) && ((PyData.int p.2).intsShort 13 && true)) && PyData.intsShortAll 13 (r.map pD2)) = true
      rw [e1, e, w3]
      rfl
    · show ((PyData.weightAll (p.1.map .int) + 1 + ((PyData.int p.2).weight + 1 + 0))) + 1 + PyData.weightAll (r.map pD2) ≤ 200 * (r.length + 1)
      omega
theorem pl_says {K : PySem.W.Frag} {H : Hp} {t : Addr} {ps : Pl} {m : Nat} (h : PlAt K H t ps) (hm : m ≤ 10) (hz : ps.length ≤ 100) (ok : ∀ p ∈ ps, p.1.length = m ∧ B01 p.1 ∧ (p.2 = 0 ∨ p.2 = 1)) : Says K H (.ref t) (PyData.tuple (ps.map pD2)).shown := by
  obtain ⟨us, h1, h2⟩ := h
  obtain ⟨a, b, c, d, e, g⟩ := pl_all hm ok
  refine .inl ⟨_, .tup (SqT.of h1) (pws_dp h2), a, b, by show PyData.depthAll (ps.map pD2) + 1 ≤ 60; omega, PyData.shown_fits_of_layable0 (B := 13) (by decide) (by decide) ?_ e, rfl⟩
  show ((PyData.canLayAll0 (ps.map pD2) && decide (PyData.depthAll (ps.map pD2) + 1 ≤ 64)) && decide (PyData.weightAll (ps.map pD2) ≤ 2 ^ 20)) = true
  rw [d, decide_eq_true (by omega), decide_eq_true (Nat.le_trans g (Nat.le_trans (Nat.mul_le_mul_left 200 hz) (by decide)))]
  rfl
/-! ### rows played ahead; when the wish breaks -/
theorem foldP_ext {gs : Gates} {nx : List Int} {wi : Int} : ∀ (rows : List (List Int)) (s : Pl × List Int), ∃ t, (rows.foldl (plStep gs nx wi) s).1 = s.1 ++ t
  | [], s => ⟨[], (List.append_nil _).symm⟩
  | r :: u, s => by
    obtain ⟨t, e⟩ := foldP_ext (gs := gs) (nx := nx) (wi := wi) u (plStep gs nx wi s r)
    refine ⟨(s.2, lit (vals (r ++ s.2) gs) wi) :: t, ?_⟩
    show (u.foldl (plStep gs nx wi) (plStep gs nx wi s r)).1 = _
    rw [e]
    show s.1 ++ [_] ++ t = _
    rw [List.append_assoc]
    rfl
theorem play_pre {gs : Gates} {nx : List Int} {wi : Int} {st : List Int} (rows : List (List Int)) (k : Nat) : (playM gs nx wi st (rows.take k)).1 = (playM gs nx wi st rows).1.take k := by
  have l2 := play_len (gs := gs) (nx := nx) (wi := wi) (st := st) rows
  rcases Nat.le_total k rows.length with h | h
  · obtain ⟨t, e⟩ := foldP_ext (gs := gs) (nx := nx) (wi := wi) (rows.drop k) (playM gs nx wi st (rows.take k))
    have e2 : (playM gs nx wi st rows).1 = (playM gs nx wi st (rows.take k)).1 ++ t := by
      rw [← e]
      unfold playM
      rw [← List.foldl_append, List.take_append_drop]
    have l := play_len (gs := gs) (nx := nx) (wi := wi) (st := st) (rows.take k)
    rw [List.length_take, Nat.min_eq_left h] at l
    rw [e2, List.take_append_of_le_length (Nat.le_of_eq l.symm), List.take_of_length_le (Nat.le_of_eq l)]
  · rw [List.take_of_length_le h]
    exact (List.take_of_length_le (by rw [l2]; exact h)).symm
theorem ints_eqv : ∀ xs ys : List Int, PyData.eqvAll (xs.map .int) (ys.map .int) = decide (xs = ys)
  | [], [] => rfl
  | [], _ :: _ => by simp [PyData.eqvAll]
  | _ :: _, [] => by simp [PyData.eqvAll]
  | x :: xs, y :: ys => by
    have t := ints_eqv xs ys
    show (PyData.eqv (.int x) (.int y) && PyData.eqvAll (xs.map .int) (ys.map .int)) = _
    rw [t]
    by_cases h : x = y
    · subst h
      simp [PyData.eqv]
    · simp [PyData.eqv, h]
theorem list_eqv (xs ys : List Int) : PyData.eqv (.list (xs.map .int)) (.list (ys.map .int)) = decide (xs = ys) := ints_eqv xs ys
def brkD (k : Nat) : List Int := List.replicate (k - 1) 1 ++ [0]
theorem brk_is {ws : List Int} {k : Nat} (hk : ws.length = k) (h01 : B01 ws) : brkB ws = (decide (0 < k) && decide (ws = brkD k)) := by
  unfold brkB
  rw [hk]
  by_cases h : 0 < k
  · have hne : ws ≠ [] := fun z => by
      have : k = 0 := by rw [← hk, z]; rfl
      omega
    have sp := List.dropLast_concat_getLast hne
    have dl : ws.dropLast.length = k - 1 := by rw [List.length_dropLast, hk]
    have gl := List.getLast?_eq_some_getLast hne
    by_cases hz : ws.getLast hne = 0
    · by_cases hm : (0 : Int) ∈ ws.dropLast
      · have nz : ¬ ws = brkD k := fun z => by
          have e : ws.dropLast = List.replicate (k - 1) 1 := by
            rw [z]
            unfold brkD
            exact List.dropLast_concat
          rw [e] at hm
          exact absurd (List.eq_of_mem_replicate hm) (by decide)
        simp [hm, nz]
      · have e : ws = brkD k := by
          have e2 : ws.dropLast = List.replicate (k - 1) 1 := List.eq_replicate_iff.mpr ⟨dl, fun z hz => by
            rcases h01 z (List.dropLast_subset _ hz) with e | e
            · rw [e] at hz
              exact absurd hz hm
            · exact e⟩
          unfold brkD
          rw [← e2, ← hz]
          exact sp.symm
        rw [gl, hz, decide_eq_true h, decide_eq_true e, decide_eq_false hm]
        simp
    · have nz : ¬ ws = brkD k := fun z => by
        have e : ws.getLast? = some 0 := by
          rw [z]
          unfold brkD
          rw [List.getLast?_append]
          rfl
        rw [gl] at e
        exact hz (Option.some.inj e)
      rw [gl, decide_eq_false nz, decide_eq_false (fun z => hz (Option.some.inj z))]
      simp
  · simp [h]
/-! ### what is known in a lap -/
structure Kp (p c : Addr) (H H' : Hp) : Prop where
  but : But p H H'
  was : ∃ kvs, H p = some (.dK kvs) ∧ kvs.length = 5
theorem pen_dict {H : Hp} {p c : Addr} {m : Nat} (h : PenC H p c m) : ∃ kvs, H p = some (.dK kvs) ∧ kvs.length = 5 := by
  obtain ⟨_, _, _, _, _, h1, _⟩ := h
  exact ⟨_, h1, rfl⟩
theorem Kp.lst {p c b : Addr} {H H' : Hp} {xs : List V} (k : Kp p c H H') (e : H b = some (.lst xs)) : H' b = some (.lst xs) := k.but _ _ e fun z => by
  obtain ⟨kvs, h, _⟩ := k.was
  rw [z, h] at e
  cases e
theorem Kp.firm {p c : Addr} {H H' : Hp} (k : Kp p c H H') : Firm H H' := fun b o e f => k.but _ _ e fun z => by
  obtain ⟨kvs, h, _⟩ := k.was
  rw [z, h] at e
  cases e
  cases f
theorem Kp.stay {p c : Addr} {H H' : Hp} (k : Kp p c H H') : Stay H H' := fun b o e f => k.but _ _ e fun z => by
  obtain ⟨kvs, h, hl⟩ := k.was
  rw [z, h] at e
  cases e
  have f : (kvs.length == 1) = true := f
  rw [hl] at f
  cases f
theorem Kp.tabs {p c : Addr} {H H' : Hp} {T : List (Addr × Str)} {m : Nat} (k : Kp p c H H') (hp : PenC H p c m) (t : Tabs T H) : Tabs T H' := tabs_but k.but hp t
theorem ma_firm {K : PySem.W.Frag} {M : Addr} {H H' : Hp} {p x : Addr} {i wi : Int} {rs nx : List Int} (s : Firm H H') (h : MA K M H p x i wi rs nx) : MA K M H' p x i wi rs nx := by
  obtain ⟨dx, fs, t1, t2, h1, a, b, c, d, e, h2, h3⟩ := h
  exact ⟨dx, fs, t1, t2, s _ _ h1 rfl, a, b, c, d, e, firm_seq s h2, firm_seq s h3⟩
structure Fy (K : PySem.W.Frag) (C M : Addr) (H : Hp) (k : Nat) (p c tb o m x : Addr) (n i : Nat) (gs : Gates) (rs nx : List Int) (wi : Int) : Prop where
  pen : ∃ j, j ≤ k ∧ PenC H p c j
  tab : Tabs [(tb, lamQ)] H
  own : OwnAt K H o n i gs rs nx wi
  ok : OwnOk n i gs rs nx wi
  op : o ≠ p
  i3 : i < 4
  ma : MA K M H m x i wi rs nx
  gr : GraphAt K C H x n gs
section
variable {K : PySem.W.Frag} {C M : Addr} {H H' : Hp} {k k' j : Nat} {p c tb o m x : Addr} {n i : Nat} {gs : Gates} {rs nx : List Int} {wi : Int}
theorem Fy.kp (h : Fy K C M H k p c tb o m x n i gs rs nx wi) (b : But p H H') : Kp p c H H' := ⟨b, let ⟨_, _, hp⟩ := h.pen; pen_dict hp⟩
theorem Fy.to (h : Fy K C M H k p c tb o m x n i gs rs nx wi) (b : But p H H') (hp : PenC H' p c j) (hj : j ≤ k') : Fy K C M H' k' p c tb o m x n i gs rs nx wi := by
  have kp := h.kp b
  obtain ⟨j0, _, hp0⟩ := h.pen
  obtain ⟨g, t1, t2, ho, G, h1, h2⟩ := h.own
  exact ⟨⟨j, hj, hp⟩, kp.tabs hp0 h.tab, ⟨g, t1, t2, b _ _ ho h.op, G.firm kp.firm, firm_seq kp.firm h1, firm_seq kp.firm h2⟩, h.ok, h.op, h.i3, ma_firm kp.firm h.ma, h.gr.firm kp.firm⟩
theorem Fy.same (h : Fy K C M H k p c tb o m x n i gs rs nx wi) (s : Same H H') : Fy K C M H' k p c tb o m x n i gs rs nx wi := by
  obtain ⟨j, hj, hp⟩ := h.pen
  exact h.to (But.of_same s) (hp.same s) hj
theorem Fy.ext (h : Fy K C M H k p c tb o m x n i gs rs nx wi) (s : ExtN H H') (t : Tabs [(tb, lamQ)] H') : Fy K C M H' k p c tb o m x n i gs rs nx wi := by
  obtain ⟨j, hj, hp⟩ := h.pen
  have f := (Stay.extN s).firm
  obtain ⟨g, t1, t2, ho, G, h1, h2⟩ := h.own
  exact ⟨⟨j, hj, pen_extN s hp⟩, t, ⟨g, t1, t2, s _ _ ho (fun _ z => by cases z), G.firm f, firm_seq f h1, firm_seq f h2⟩, h.ok, h.op, h.i3, ma_firm f h.ma, h.gr.firm f⟩
end
theorem cutL_nat {xs : List V} {k : Nat} : cutV xs none (some (k : Int)) = xs.take k := by
  unfold cutV
  rw [HT.sIx_nat, HT.sIx_none, List.drop_zero, Nat.sub_zero]
  rcases Nat.le_total k xs.length with h | h
  · rw [Nat.min_eq_left h]
  · rw [Nat.min_eq_right h, List.take_length, List.take_of_length_le h]
theorem a2_take {β : Type} {R : V → β → Prop} : ∀ {xs : List V} {ys : List β} (k : Nat), All2 R xs ys → All2 R (xs.take k) (ys.take k)
  | _, _, 0, _ => .nil
  | _, _, _ + 1, .nil => .nil
  | _, _, k + 1, .cons h t => .cons h (a2_take k t)
end Uy
namespace Uy
open PySem PySem.Spec PyProof.Rows L2 LamX Pen Dat Ki Fi Gr No Lf Bd Be Bf Bg Bm Bx Ca Um Dm Wy Yd Yh Zm Zn2 Ul Uw Ux Yt Gd
/-! ## k22: the law -/
section
variable {P : Program} {w : World} {K : PySem.W.Frag} {mg : Str → Option Value} {base : Heap} {f C M B U CN CR fN fR fE fF fA fG fI c tb : Addr} {fd : FuncData}
theorem ok_law {g : Addr} {fdW : FuncData} (F : FnP K "law" sLaw f fd) (T : Uw.Tw K mg C M B U CN CR fN fR fE fF fA fG fI) (rep : mg "repr" = none) (TB : TabB base mg c tb) (hcv : ∀ cv, fd.code = cv → cv = .ref c)
    (FW : FnP K "_law_why" sWhy g fdW) (gW : mg "_law_why" = some (.ref g))
    {fP fD fK fM fA fR fU fI fL fY fB fS : Addr} {dP dD dK dM dA dR dU dI dL dY dB dS : FuncData}
    (GP : FnOk P w K mg base CX0 1 fP dP ["_law_script"] (spPen K)) (gP : mg "_law_pen" = some (.ref fP)) (kP : PySem.W.keepIn K (.ref fP) = true) (bP : Binds K dP ["_law_script"] [])
    (GD : FnOk P w K mg base CX0 1 fD dD ["_law_pen_here", "_law_many"] (spDraw)) (gD : mg "_law_draw" = some (.ref fD)) (kD : PySem.W.keepIn K (.ref fD) = true) (bD : Binds K dD ["_law_pen_here", "_law_many"] [])
    (GK : FnOk P w K mg base CX0 2 fK dK ["_law_pen_here", "_law_some"] (spPick K)) (gK : mg "_law_pick" = some (.ref fK)) (kK : PySem.W.keepIn K (.ref fK) = true) (bK : Binds K dK ["_law_pen_here", "_law_some"] [])
    (GM : FnOk P w K mg base CX0 3 fM dM ["_law_pen_here", "_law_inputs", "_law_registers", "_law_many"] (spMach K)) (gM : mg "_law_drawn_machine" = some (.ref fM)) (kM : PySem.W.keepIn K (.ref fM) = true) (bM : Binds K dM ["_law_pen_here", "_law_inputs", "_law_registers", "_law_many"] [])
    (GA : FnOk P w K mg base CX0 6 fA dA ["_law_machine"] (spMade2 K C M)) (gA : mg "_law_made_machine" = some (.ref fA)) (kA : PySem.W.keepIn K (.ref fA) = true) (bA : Binds K dA ["_law_machine"] [])
    (GR : FnOk P w K mg base CX0 5 fR dR ["_law_pen_here", "_law_own", "_law_told", "_law_cycles", "_law_free"] (spRight K C U)) (gR : mg "_law_unrolled_right" = some (.ref fR)) (kR : PySem.W.keepIn K (.ref fR) = true) (bR : Binds K dR ["_law_pen_here", "_law_own", "_law_told", "_law_cycles", "_law_free"] [])
    (GU : FnOk P w K mg base CX0 7 fU dU ["machine", "cycles", "free"] (spUnrolled K C M U)) (gU : mg "unrolled" = some (.ref fU)) (kU : PySem.W.keepIn K (.ref fU) = true) (bU : Binds K dU ["machine", "cycles", "free"] [])
    (GI : FnOk P w K mg base CX0 2 fI dI ["_law_pen_here", "_law_many"] (spDrawnBits)) (gI : mg "_law_drawn_bits" = some (.ref fI)) (kI : PySem.W.keepIn K (.ref fI) = true) (bI : Binds K dI ["_law_pen_here", "_law_many"] [])
    (GL : FnOk P w K mg base CX0 4 fL dL ["_law_own", "_law_state", "_law_rows_here"] (spLPlayed K)) (gL : mg "_law_played" = some (.ref fL)) (kL : PySem.W.keepIn K (.ref fL) = true) (bL : Binds K dL ["_law_own", "_law_state", "_law_rows_here"] [])
    (GY : FnOk P w K mg base CX0 4 fY dY ["machine", "rows"] (spPlayed K C M)) (gY : mg "played" = some (.ref fY)) (kY : PySem.W.keepIn K (.ref fY) = true) (bY : Binds K dY ["machine", "rows"] [])
    (GB : FnOk P w K mg base CX0 5 fB dB ["machine", "rows"] (spBreaks K C M)) (gB : mg "breaks" = some (.ref fB)) (kB : PySem.W.keepIn K (.ref fB) = true) (bB : Binds K dB ["machine", "rows"] [])
    (GS : FnOk P w K mg base CX0 1 fS dS ["_law_value", "_law_due"] (spIs)) (gS : mg "_law_is" = some (.ref fS)) (kS : PySem.W.keepIn K (.ref fS) = true) (bS : Binds K dS ["_law_value", "_law_due"] [])
    (GUX : FnOk P w K mg base (L2.CX P w) 3 fU dU ["machine", "cycles", "free"] (spUnrX CN K)) (GYX : FnOk P w K mg base (L2.CX P w) 4 fY dY ["machine", "rows"] (spPlayX K M CR)) (GBX : FnOk P w K mg base (L2.CX P w) 5 fB dB ["machine", "rows"] (spPlayX K M CR)) :
    FnG P w K mg base CX0 9 f fd ["_law_script"] (spLaw K tb) := by
  refine mk_ofC F scLaw (fun vs H Q E h => ?_) (fun cdv A outer s H vs Q E hfc hg hr h => ?_)
  · obtain ⟨a, ns, rfl, _⟩ := h
    rfl
  · obtain ⟨a, ns, rfl, ha, hn, hT, q⟩ := h
    have hu := hu_of hr
    have XW : Yh.Tw K mg CN CR := let t := T.l.q.z.why; ⟨t.mN, t.mR, t.nn, t.rn, t.rr, t.xN, t.xR, t.nw, t.nb, t.nr, t.rep⟩
    refine ⟨_, PSs.nox (pss_cons (ps_set (i := 1) scLaw.nd rfl (Or.inr rfl) (pe_call GP (hr.mono (by decide)) (by rfl) gP kP bP .nil pass0 (pa_cons (pv 0) pa_nil)))
      (pss_cons (ps_for PassesOwn.never rfl (pi_range1 (by rfl) T.lf.range (pa_cons pe_int pa_nil)) (pg_name (i := 2) scLaw.nd rfl (Or.inl rfl))
        (pss_cons (ps_set (i := 3) scLaw.nd rfl (Or.inr rfl) (pe_call GM (hr.mono (by decide)) (by rfl) gM kM bM .nil pass0 (pa_cons (pv 1) (pa_cons (pe_call GD (hr.mono (by decide)) (by rfl) gD kD bD .nil pass0 (pa_cons (pv 1) (pa_cons pe_int pa_nil))) (pa_cons (pe_call GD (hr.mono (by decide)) (by rfl) gD kD bD .nil pass0 (pa_cons (pv 1) (pa_cons pe_int pa_nil))) (pa_cons (pe_call GD (hr.mono (by decide)) (by rfl) gD kD bD .nil pass0 (pa_cons (pv 1) (pa_cons pe_int pa_nil))) pa_nil))))))
        (C8.pss_cut (ps_asg (pe_tup (pa_cons (pe_call GA (hr.mono (by decide)) (by rfl) gA kA bA .nil pass0 (pa_cons (pv 3) pa_nil)) (pa_cons (pe_call GD (hr.mono (by decide)) (by rfl) gD kD bD .nil pass0 (pa_cons (pv 1) (pa_cons pe_int pa_nil))) (pa_cons (pe_cmpR op_eq (pe_call GD (hr.mono (by decide)) (by rfl) gD kD bD .nil pass0 (pa_cons (pv 1) (pa_cons pe_int pa_nil))) pe_int (nomark _)) pa_nil)))) (pg_tup rfl (pgs_cons (pg_name (i := 4) scLaw.nd rfl (Or.inr rfl)) (pgs_cons (pg_name (i := 5) scLaw.nd rfl (Or.inl rfl)) (pgs_cons (pg_name (i := 6) scLaw.nd rfl (Or.inr rfl)) pgs_nil)))))
        (pss_cons (ps_if (pt_not (pt_val (pe_call GR (hr.mono (by decide)) (by rfl) gR kR bR .nil pass0 (pa_cons (pv 1) (pa_cons (pv 3) (pa_cons (pe_call GU (hr.mono (by decide)) (by rfl) gU kU bU .nil pass0 (pa_cons (pv 4) (pa_cons (pv 5) (pa_cons (pv 6) pa_nil)))) (pa_cons (pv 5) (pa_cons (pv 6) pa_nil))))))))
          (pss_one (ps_ret pe_bl))
          pss_nil)
        (pss_cons (ps_setLc (i := 8) (own := [("_law_k", 7)]) (g := gName 7) (tt := tYes) (by rfl) scLaw.nd rfl rfl (sw_true rfl rfl rfl (by decide +kernel)) (pi_range1 (by rfl) T.lf.range (pa_cons (pe_call GD (hr.mono (by decide)) (by rfl) gD kD bD .nil pass0 (pa_cons (pv 1) (pa_cons pe_int pa_nil))) pa_nil)) (blkOk_by (N := nLaw) (sc := defScope sLaw) (by decide +kernel)) (fun _ _ _ _ _ => pg_name (i := 7) scLaw.nd rfl (Or.inl rfl)) (fun _ _ _ _ _ => pts_nil) (fun _ _ _ _ _ => (pe_call GI (hr.mono (by decide)) (by rfl) gI kI bI .nil pass0 (pa_cons (pv 1) (pa_cons (pe_dget hu (pv 3) pe_str (fun _ _ => rfl)) pa_nil)))))
        (C8.pss_cut (ps_set (i := 9) scLaw.nd rfl (Or.inl rfl) (pe_ix (r := L2.rIxT K) (by exact ix_tup) (pe_call GL (hr.mono (by decide)) (by rfl) gL kL bL .nil pass0 (pa_cons (pv 3) (pa_cons (pe_dget hu (pv 3) pe_str (fun _ _ => rfl)) (pa_cons (pv 8) pa_nil)))) pe_int (fun _ _ => rfl)))
        (pss_cons (ps_if (pt_cmpR op_ne (pe_callB (id := "repr") (r := rSays K) (call_says (K := K) rfl hg (room_u hr)) (by rfl) rep (by decide +kernel) (pa_cons (pe_call GY (hr.mono (by decide)) (by rfl) gY kY bY .nil pass0 (pa_cons (pv 4) (pa_cons (pe_call GK (hr.mono (by decide)) (by rfl) gK kK bK .nil pass0 (pa_cons (pv 1) (pa_cons (pe_lst (pa_cons (pv 8) (pa_cons (pe_callTy (T := "tuple") (r := rTupOf K) (by exact call_tuple_of) (by rfl) T.lf.tuple (by decide +kernel) (pa_cons (pv 8) pa_nil)) pa_nil))) pa_nil))) pa_nil))) pa_nil)) (pe_callB (id := "repr") (r := rSays K) (call_says (K := K) rfl hg (room_u hr)) (by rfl) rep (by decide +kernel) (pa_cons (pv 9) pa_nil)) (nomark _))
          (pss_one (ps_ret pe_bl))
          pss_nil)
        (pss_cons (ps_for PassesOwn.never rfl (pi_range1 (by rfl) T.lf.range (pa_cons (pe_op op_add (pe_callB call_len_seq (by rfl) T.lf.pen.len PySem.boot_len (pa_cons (pv 8) pa_nil)) pe_int) pa_nil)) (pg_name (i := 10) scLaw.nd rfl (Or.inl rfl))
          (pss_cons (ps_setLc (i := 13) (own := [("_law_state", 11), ("_law_wish", 12)]) (g := _) (tt := tYes) (by rfl) scLaw.nd rfl rfl (sw_true rfl rfl rfl (by decide +kernel)) (pi_tup (pe_slice sl_tupA (pv 9) po_none (po_some (pv 10)))) (blkOk_by (N := nLaw) (sc := defScope sLaw) (by decide +kernel)) (fun _ _ _ _ _ => (Us.pg_tupK (K := K) (n := 2) rfl rfl (pgs_cons (pg_name (i := 11) scLaw.nd rfl (Or.inl rfl)) (pgs_cons (pg_name (i := 12) scLaw.nd rfl (Or.inl rfl)) pgs_nil)))) (fun _ _ _ _ _ => pts_nil) (fun _ _ _ _ _ => (pv 12)))
          (pss_one (ps_if (pt_not (pt_val (pe_call GS (hr.mono (by decide)) (by rfl) gS kS bS .nil pass0 (pa_cons (pe_call GB (hr.mono (by decide)) (by rfl) gB kB bB .nil pass0 (pa_cons (pv 4) (pa_cons (pe_slice sl_list (pv 8) po_none (po_some (pv 10))) pa_nil))) (pa_cons (pe_and (pe_cmpR op_gt (pv 10) pe_int (nomark _)) (pe_one (pe_cmpR (op_eqD hr.units) (pv 13) (pe_op op_cat (pe_op op_rep (pe_lst (pa_cons pe_int pa_nil)) (pe_op op_sub (pv 10) pe_int)) (pe_lst (pa_cons pe_int pa_nil))) (nomark _)))) pa_nil)))))
            (pss_one (ps_ret pe_bl))
            pss_nil))))
        (C8.pss_cut (ps_set (i := 14) scLaw.nd rfl (Or.inr rfl) (pe_call GK (hr.mono (by decide)) (by rfl) gK kK bK .nil pass0 (pa_cons (pv 1) (pa_cons (pe_lst (pa_cons (pe_un un_neg pe_int) (pa_cons pe_non (pa_cons pe_bl (pa_cons pe_str (pa_cons (pe_tup (pa_cons pe_int pa_nil)) pa_nil)))))) pa_nil))))
        (pss_cons (ps_if (pt_cmpR (op_neD hr.units) (pe_why (k := 5) FW gW XW hg (hr.mono (by decide)) TB (hcv cdv hfc) rfl (by rfl) (lamS_by (sc := defScope sLaw) (by decide +kernel)) (by rfl) (by intros; rfl) fun A outer s H E f c2 hr2 => pe_call GUX (hr2.mono (by decide)) (by rfl) gU kU bU .nil (passes_call (takes_of rfl rfl rfl rfl) fun _ _ _ _ h => h) (pa_cons (pv 4) (pa_cons (pv 14) (pa_cons (pv 6) pa_nil)))) (pe_tup (pa_cons pe_str (pa_cons pe_str (pa_cons (pe_callB (id := "repr") (r := rSays K) (call_says (K := K) rfl hg (room_u hr)) (by rfl) rep (by decide +kernel) (pa_cons (pv 14) pa_nil)) pa_nil)))) (nomark _))
          (pss_one (ps_ret pe_bl))
          pss_nil)
        (pss_cons (ps_set (i := 15) scLaw.nd rfl (Or.inl rfl) (pe_lst (pa_cons (pe_op Tm.op_mulT (pe_tup (pa_cons pe_int pa_nil)) (pe_dget hu (pv 3) pe_str (fun _ _ => rfl))) (pa_cons (pe_op Tm.op_mulT (pe_tup (pa_cons pe_int pa_nil)) (pe_op op_add (pe_dget hu (pv 3) pe_str (fun _ _ => rfl)) pe_int)) pa_nil))))
        (C8.pss_cut (ps_set (i := 16) scLaw.nd rfl (Or.inr rfl) (pe_call GK (hr.mono (by decide)) (by rfl) gK kK bK .nil pass0 (pa_cons (pv 1) (pa_cons (pe_lst (pa_cons pe_non (pa_cons pe_int (pa_cons (pv 15) (pa_cons (pe_lst (pa_cons (pe_op Tm.op_mulT (pe_tup (pa_cons pe_int pa_nil)) (pe_op op_add (pe_dget hu (pv 3) pe_str (fun _ _ => rfl)) pe_int)) pa_nil)) (pa_cons (pe_lst (pa_cons pe_non pa_nil)) (pa_cons pe_str pa_nil))))))) pa_nil))))
        (pss_one (ps_for PassesOwn.never rfl (pi_list (pe_lst (pa_cons (pe_glob (v := V.ref fY) (by rfl) gY rfl) (pa_cons (pe_glob (v := V.ref fB) (by rfl) gB rfl) pa_nil)))) (pg_name (i := 17) scLaw.nd rfl (Or.inr rfl))
          (pss_one (ps_if (pt_cmpR (op_neD hr.units) (pe_why (k := 5) FW gW XW hg (hr.mono (by decide)) TB (hcv cdv hfc) rfl (by rfl) (lamS_by (sc := defScope sLaw) (by decide +kernel)) (by rfl) (by intros; rfl) fun A outer s H E f c2 hr2 => pe_call2 (i := 17) GYX GBX hr2 (by decide) (by decide) (by rfl) (by first | exact Or.inl rfl | exact Or.inr (Or.inl rfl) | exact Or.inr (Or.inr rfl)) kY kB bY bB (passes_call (takes_of rfl rfl rfl rfl) fun _ _ _ _ h => h) (pa_cons (pv 4) (pa_cons (pv 16) pa_nil))) (pe_tup (pa_cons pe_str (pa_cons (pe_callB (id := "repr") (r := rSays K) (call_says (K := K) rfl hg (room_u hr)) (by rfl) rep (by decide +kernel) (pa_cons (pv 16) pa_nil)) pa_nil))) (nomark _))
            (pss_one (ps_ret pe_bl))
            pss_nil))))))))))))))))
      (pss_one (ps_ret pe_bl)))), ?_⟩
    refine ⟨_, rfl, a, ns, rfl, ha, hn, fun p c0 H1 np s1 hp1 => ?_⟩
    have T1 : Tabs [(tb, lamQ)] H1 := fun z hz => by
      rw [List.mem_singleton.mp hz]
      exact TabS.nil (s1 _ _ hT)
    refine ⟨3, rfl, by decide, by decide, for_range (lo := 0) (n := 3)
      (fun i σ H2 => ∃ x2 x3 x4 x5 x6 x8 x9 x10 x13 x14 x15 x16 x17 : Option V, σ = [some (.ref a), some (.ref p), x2, x3, x4, x5, x6, none, x8, x9, x10, none, none, x13, x14, x15, x16, x17] ∧ Tabs [(tb, lamQ)] H2 ∧ ∃ m, m ≤ 5000 * i ∧ PenC H2 p c0 m)
      ⟨none, none, none, none, none, none, none, none, none, none, none, none, none, rfl, T1, 0, Nat.zero_le _, hp1⟩ ?_ ?_⟩
    · rintro lap σ H2 hlap ⟨x2, x3, x4, x5, x6, x8, x9, x10, x13, x14, x15, x16, x17, rfl, T2, m0, hm0, P2⟩
      refine ⟨_, rfl, _, rfl, p, c0, m0, 4, rfl, P2, by omega, by decide, by decide, fun i H3 i0 i4 P3 B3 => ?_⟩
      refine ⟨_, rfl, p, c0, m0 + 1, 5, rfl, P3, by omega, by decide, by decide, fun r H4 r0 r5 P4 B4 => ?_⟩
      refine ⟨_, rfl, p, c0, m0 + 1 + 1, 10, rfl, P4, by omega, by decide, by decide, fun mm H5 k0 k10 P5 B5 => ?_⟩
      refine ⟨p, c0, m0 + 1 + 1 + 1, i, r, mm, rfl, P5, by omega, i0, by omega, r0, by omega, k0, by omega, fun H6 o gs rs nx wi P6 B6 O6 ok6 op oc => ?_⟩
      obtain ⟨i, rfl⟩ := Int.eq_ofNat_of_zero_le i0
      obtain ⟨r, rfl⟩ := Int.eq_ofNat_of_zero_le r0
      have en : (i : Int) + (r : Int) = ((i + r : Nat) : Int) := (Int.natCast_add i r).symm
      rw [en] at O6 ok6
      have T6 := tabs_but B6 P5 (tabs_but B5 P4 (tabs_but B4 P3 (tabs_but B3 P2 T2)))
      clear T2 P2 P3 P4 P5 B3 B4 B5 B6
      have i3 : i < 4 := by omega
      have rl := ok6.rl
      have nl' := ok6.nl
      have n7 := ok6.n7
      have r01' : B01 rs := fun z hz => by
        have := ok6.r01 z hz
        omega
      refine ⟨fun σ H' => ∃ (mch x : Addr) (cy : Nat) (fb : Bool) (x2 x8 x9 x10 x13 x14 x15 x16 x17 : Option V), σ = [some (.ref a), some (.ref p), x2, some (.ref o), some (.ref mch), some (.int (cy : Nat)), some (.bl fb), none, x8, x9, x10, none, none, x13, x14, x15, x16, x17] ∧ cy ≤ 6 ∧ Fy K C M H' (m0 + 100) p c0 tb o mch x (i + r) i gs rs nx wi, ?_, ?_⟩
      · refine ⟨_, rfl, o, _, i, gs, rs, nx, wi, rfl, O6, ok6, fun H7 mch x s7 ma7 gr7 => ?_⟩
        have P7 := P6.same s7
        refine ⟨_, rfl, p, c0, _, 6, rfl, P7, by omega, by decide, by decide, fun cy H8 cy0 cy6 P8 B8 => ?_⟩
        refine ⟨_, rfl, p, c0, _, 2, rfl, P8, by omega, by decide, by decide, fun fr H9 _ _ P9 B9 => ⟨rfl, len3, fun t nt => ?_⟩⟩
        obtain ⟨cy, rfl⟩ := Int.eq_ofNat_of_zero_le cy0
        have F7 : Fy K C M H7 (m0 + 90) p c0 tb o mch x (i + r) i gs rs nx wi := ⟨⟨_, by omega, P7⟩, T6.ext s7, own_same s7 O6, ok6, op, i3, ma7, gr7⟩
        have st := same_new (u := .tup [V.ref mch, .int (cy : Nat), .bl (decide (V.int fr = V.int 0))]) nt
        exact ⟨t, _, rfl, SqT.of upd_same, rfl, _, _, rfl, _, _, rfl, _, _, rfl, rfl, mch, x, cy, _, _, _, _, _, _, _, _, _, _, rfl, by omega, (F7.to (B8.trans B9) P9 (by omega : _ ≤ m0 + 100)).same st⟩
      clear T6 P6 O6
      rintro σ H7 ⟨mch, x, cy, fb, x2, x8, x9, x10, x13, x14, x15, x16, x17, rfl, cy6, F7⟩
      refine ⟨_, rfl, _, rfl, _, rfl, _, rfl, _, rfl, mch, x, cy, i + r, i, fb, wi, gs, rs, nx, rfl, F7.ma, F7.gr, ok6, cy6, fun H8 u s8 un8 => ?_⟩
      have F8 := F7.same s8
      obtain ⟨j8, hj8, P8⟩ := F8.pen
      refine ⟨_, rfl, _, rfl, p, c0, o, u, j8, cy, i + r, i, fb, gs, rs, nx, wi, rfl, P8, by omega, F8.own, ok6, cy6, op, un8, fun H9 P9 B9 => ⟨_, rfl, iteF ?_⟩⟩
      have F9 := F8.to B9 P9 (by omega : j8 + 24 * 61 ≤ m0 + 1600)
      clear F7 F8 P8 B9 s8 un8
      refine ⟨_, rfl, p, c0, _, 9, rfl, P9, by omega, by decide, by decide, fun many H10 many0 many9 P10 B10 => ⟨many, rfl, by omega, by omega, fun D nD => ?_⟩⟩
      have F10 := F9.to B10 P10 (by omega : j8 + 24 * 61 + 1 ≤ m0 + 1601)
      obtain ⟨Dp1, Dc1⟩ := P10.free nD
      refine lc_range (lo := 0) (n := many.toNat) (fun j H' => PenC H' p c0 (j8 + 24 * 61 + 1 + 5 * j) ∧ But p H10 H' ∧ ∃ (us : List V) (rows : List (List Int)), H' D = some (.lst us) ∧ All2 (Tu K H') us rows ∧ (∀ r ∈ rows, (r.length : Int) = i ∧ B01 r) ∧ rows.length = j)
        ⟨P10.same (same_new nD), But.of_same (same_new nD), [], [], upd_same, .nil, (fun z h => by cases h), rfl⟩ ?_ ?_
      · rintro j H11 hj ⟨P11, B11, us, rows, h11, a11, m11, e11⟩
        obtain ⟨g, t1, t2, ho, _, _, _⟩ := (F10.to B11 P11 (Nat.le_refl _)).own
        refine ⟨rfl, yes_of ?_⟩
        refine ⟨_, rfl, _, rfl, o, _, rfl, og_inputs ho, p, c0, _, i, rfl, P11, by omega, by omega, fun H12 t bs P12 B12 ht lb bb => ?_⟩
        have h12 := B12 _ _ h11 Dp1
        have fi : Firm H12 (upd H12 D (.lst (us ++ [.ref t]))) := Firm.upd h12 rfl
        refine ⟨_, h12, ?_, (P12.upd Dp1 Dc1).more (by omega), fun b o e ne => ?_, us ++ [.ref t], rows ++ [bs], upd_same, ?_, fun r hr => ?_, by rw [List.length_append, e11]; rfl⟩
        · rw [a11.len, e11]
          exact Nat.lt_of_lt_of_le (by omega : j < 100) (by decide)
        · rw [upd_ne (ne_of_none e nD)]
          exact B12 _ _ (B11 _ _ e ne) ne
        · exact (a11.imp fun _ _ h => (h.firm (Firm.pen B12 P11)).firm fi).snoc ⟨t, rfl, fi _ _ ht rfl⟩
        · rcases List.mem_append.mp hr with h | h
          · exact m11 r h
          · rw [List.mem_singleton.mp h]
            exact ⟨by rw [lb], bb⟩
      rintro H11 ⟨P11, B11, us, rows, h11, a11, m11, e11⟩
      have F11 := F10.to B11 P11 (by omega : _ ≤ m0 + 1700)
      have l8 : rows.length ≤ 8 := by omega
      clear F9 F10 P10 B10 B11 P9 nD
      refine ⟨fun σ H' => ∃ (td : Addr) (x2 x10 x13 x14 x15 x16 x17 : Option V), σ = [some (.ref a), some (.ref p), x2, some (.ref o), some (.ref mch), some (.int (cy : Nat)), some (.bl fb), none, some (.ref D), some (.ref td), x10, none, none, x13, x14, x15, x16, x17] ∧ Fy K C M H' (m0 + 1700) p c0 tb o mch x (i + r) i gs rs nx wi ∧ H' D = some (.lst us) ∧ All2 (Tu K H') us rows ∧ PlAt K H' td (playM gs nx wi rs rows).1, ?_, ?_⟩
      · obtain ⟨g, t1, t2, ho, _, h1, _⟩ := F11.own
        refine ⟨_, rfl, _, rfl, o, _, rfl, og_resets ho, _, rfl, o, t1, D, _, i, gs, rs, nx, wi, rs, us, rows, rfl, F11.own, ok6, h1, by omega, r01', h11, a11, by omega, m11, fun H12 t t3 t4 s12 ht hp1 hp2 => ?_⟩
        exact ⟨t, _, _, _, rfl, rfl, SqT.of ht, at_of (j := 0) rfl rfl, t3, _, _, _, _, _, _, _, rfl, F11.same s12, s12 _ _ h11, a11.imp fun _ _ h => h.firm (Firm.of s12), hp1⟩
      clear F11 h11 a11 P11
      rintro σ H12 ⟨td, x2, x10, x13, x14, x15, x16, x17, rfl, F12, h12, a12, hpl⟩
      have pok := play_ok (gs := gs) (nx := nx) (wi := wi) rows (start_ok (nx := nx) (st := rs) (by omega) r01') fun x hx => (m11 x hx).2
      have pok : PlOk nx.length (playM gs nx wi rs rows) := pok
      have pll := play_len (gs := gs) (nx := nx) (wi := wi) (st := rs) rows
      have nx10 : nx.length ≤ 10 := by omega
      obtain ⟨j12, hj12, P12⟩ := F12.pen
      refine ⟨_, rfl, _, rfl, _, rfl, _, rfl, D, _, rfl, .inl ⟨SqL.of h12, fun tq ntq => ⟨len2, fun l nl => ?_⟩⟩⟩
      have s1' := same_new (u := .tup us) ntq
      have s2' := same_new (u := .lst [.ref D, .ref tq]) nl
      have P13 := P12.same (s1'.trans s2')
      refine ⟨p, c0, l, j12, [.ref D, .ref tq], rfl, P13, by omega, pen_lst P13 upd_same, SqL.of upd_same, (by show 0 < 2; decide), (by show 2 ≤ 1000; decide), fun v ii H13 hv P14 B14 => ?_⟩
      have F13 := (F12.same (s1'.trans s2')).to B14 P14 (by omega : j12 + 1 ≤ m0 + 1701)
      have k13 := (F12.same (s1'.trans s2')).kp B14
      have h13 := k13.lst (s2' _ _ (s1' _ _ h12))
      have a13 : All2 (Tu K H13) us rows := a12.imp fun _ _ h => (h.firm (Firm.of (s1'.trans s2'))).firm k13.firm
      have hpl13 := (hpl.firm (Firm.of (s1'.trans s2'))).firm k13.firm
      have rv : RowsAt K H13 v rows := by
        match ii, hv with
        | 0, hv => exact ⟨D, us, (Option.some.inj hv).symm, .inl (SqL.of h13), a13⟩
        | 1, hv => exact ⟨tq, us, (Option.some.inj hv).symm, .inr (SqT.of (k13.firm _ _ (s2' _ _ upd_same) rfl)), a13⟩
        | ii + 2, hv => simp at hv
      clear F12 h12 a12 hpl P12 P13 B14 s1' s2' ntq nl k13
      refine ⟨mch, x, v, _, i, wi, gs, rs, nx, rows, rfl, F13.ma, F13.gr, ok6, rv, by omega, m11, fun H14 t s14 hp14 => ?_⟩
      have F14 := F13.same s14
      have hpl14 := hpl13.firm (Firm.of s14)
      refine ⟨.ref t, _, rfl, pl_says hp14 nx10 (by omega) pok.a, _, rfl, .ref td, _, rfl, pl_says hpl14 nx10 (by omega) pok.a, rfl, _, rfl, goF (by simp) ?_⟩
      have h14 := s14 _ _ h13
      have a14 : All2 (Tu K H14) us rows := a13.imp fun _ _ h => h.firm (Firm.of s14)
      clear F13 h13 a13 hpl13 rv hp14 s14 P14
      have ul : us.length = rows.length := a14.len
      obtain ⟨pv1, hpv, hpa⟩ := hpl14
      have pvl : pv1.length = rows.length := by rw [hpa.len, pll]
      refine ⟨_, rfl, D, _, rfl, .inl (SqL.of h14), _, _, rfl, rfl, (us.length : Int) + 1, rfl, by omega, by omega, for_range (lo := 0) (n := ((us.length : Int) + 1).toNat)
        (fun k σ H' => ∃ (x2 x10 x13 x14 x15 x16 x17 : Option V), σ = [some (.ref a), some (.ref p), x2, some (.ref o), some (.ref mch), some (.int (cy : Nat)), some (.bl fb), none, some (.ref D), some (.ref td), x10, none, none, x13, x14, x15, x16, x17] ∧ Same H14 H')
        ⟨_, _, _, _, _, _, _, rfl, fun _ _ e => e⟩ ?_ ?_⟩
      · rintro k σ H15 hk ⟨x2, x10, x13, x14, x15, x16, x17, rfl, s15⟩
        have hk2 : k ≤ rows.length := by omega
        have e0 : (k : Int) = 0 + (k : Int) := by omega
        have F15 := F14.same s15
        refine ⟨_, rfl, _, rfl, _, rfl, Bx.cut_any (m := k) e0 (SqT.of (s15 _ _ hpv)) (by omega) fun t16 H16 s16 ht16 => ⟨t16, rfl, ⟨_, ht16⟩, fun Dw nDw => ?_⟩⟩
        have s1416 := s15.trans s16
        have hpa16 : All2 (Pw K H16) (pv1.take k) ((playM gs nx wi rs rows).1.take k) := a2_take k (hpa.imp fun _ _ h => h.firm (Firm.of s1416))
        have ppre := play_pre (gs := gs) (nx := nx) (wi := wi) (st := rs) rows k
        have w01 : B01 (((playM gs nx wi rs rows).1.take k).map fun q => q.2) := fun z hz => by
          obtain ⟨y, hy, rfl⟩ := List.mem_map.mp hz
          exact (pok.a y (List.mem_of_mem_take hy)).2.2
        have wl : (((playM gs nx wi rs rows).1.take k).map fun q => q.2).length = k := by
          rw [List.length_map, List.length_take, pll]
          omega
        generalize (playM gs nx wi rs rows).1.take k = ps at hpa16 ppre w01 wl
        refine lc_tup (K := K) (a := t16) (xs := pv1.take k) (fun j H' => Same H16 H' ∧ H' Dw = some (.lst (((ps.take j).map fun q => q.2).map V.int))) ⟨same_new nDw, upd_same⟩ (fun j H' _ ⟨s, _⟩ => seqT_same s ht16) ?_ ?_
        · rintro j y H17 hj ⟨s17, h17⟩
          obtain ⟨z, hz, a', b', rfl, ha', hb'⟩ := hpa16.get hj
          have hj2 : j < ps.length := (List.getElem?_eq_some_iff.mp hz).1
          rw [List.length_map] at wl
          refine ⟨a', _, rfl, SqT.of (s17 _ _ ha'), rfl, _, _, rfl, _, _, rfl, rfl, rfl, yes_of ?_⟩
          refine ⟨_, rfl, _, h17, ?_, fun b o e => ?_, ?_⟩
          · rw [List.length_map, List.length_map]
            exact Nat.lt_of_le_of_lt (List.length_take_le _ _) (Nat.lt_of_lt_of_le (by omega : j < 31) (by decide))
          · rw [upd_ne (ne_of_none e nDw)]
            exact s17 _ _ e
          · rw [upd_same, take_more hz, List.map_append, List.map_append]
            rfl
        rintro H17 ⟨s17, h17⟩
        rw [hpa16.len, List.take_length] at h17
        have s1417 := s1416.trans s17
        refine ⟨_, rfl, _, rfl, _, rfl, _, rfl, D, _, rfl, SqL.of (s1417 _ _ h14), fun pq npq => ?_⟩
        rw [← e0, cutL_nat]
        have s18 := same_new (u := .lst (us.take k)) npq
        have s1418 := s1417.trans s18
        have h18 := s18 _ _ h17
        have hq18 := upd_same (H := H17) (a := pq) (o := .lst (us.take k))
        generalize upd H17 pq _ = H18 at s18 s1418 h18 hq18 ⊢
        have F18 := F14.same s1418
        refine ⟨mch, x, .ref pq, _, i, wi, gs, rs, nx, rows.take k, rfl, F18.ma, F18.gr, ok6, ⟨pq, us.take k, rfl, .inl (SqL.of hq18), a2_take k (a14.imp fun _ _ h => h.firm (Firm.of s1418))⟩, by rw [List.length_take]; omega, fun y hy => m11 y (List.mem_of_mem_take hy), fun H19 s19 => ?_⟩
        rw [ppre, brk_is wl w01]
        have h19 := s19 _ _ h18
        have s1419 := s1418.trans s19
        refine ⟨_, rfl, _, _, rfl, rfl, _, rfl, ite2 (fun hk0 => ?_) (fun hk0 => ?_)⟩
        · have hk0 : (k : Int) > 0 := of_decide_eq_true hk0
          have kp : 0 < k := by omega
          refine ⟨_, rfl, len1, fun l1 nl1 => ⟨_, rfl, _, _, rfl, rfl, l1, (k : Int) - 1, [.int 1], rfl, rfl, upd_same, by omega, by omega, ?_, fun l2 nl2 => ⟨len1, fun l3 nl3 => ⟨l2, l3, _, _, rfl, rfl, same_new nl3 _ _ upd_same, upd_same, ?_, fun l4 nl4 => ?_⟩⟩⟩⟩
          · show 1 * ((k : Int) - 1).toNat ≤ sizeLine
            exact Nat.le_trans (by omega : 1 * ((k : Int) - 1).toNat ≤ 9) (by decide)
          · rw [flat_rep, List.length_replicate]
            exact Nat.le_trans (by show ((k : Int) - 1).toNat + 1 ≤ 9; omega) (by decide)
          have e1 : (List.replicate ((k : Int) - 1).toNat [V.int 1]).flatten ++ [V.int 0] = (brkD k).map V.int := by
            rw [flat_rep, show ((k : Int) - 1).toNat = k - 1 by omega]
            unfold brkD
            rw [List.map_append, List.map_replicate]
            rfl
          have sz := (same_new (u := .lst [.int 1]) nl1).trans ((same_new (u := .lst (List.replicate ((k : Int) - 1).toNat [V.int 1]).flatten) nl2).trans ((same_new (u := .lst [.int 0]) nl3).trans (same_new (u := .lst ((List.replicate ((k : Int) - 1).toNat [V.int 1]).flatten ++ [V.int 0])) nl4)))
          have hl4 : upd (upd (upd (upd H19 l1 (.lst [.int 1])) l2 (.lst (List.replicate ((k : Int) - 1).toNat [V.int 1]).flatten)) l3 (.lst [.int 0])) l4 (.lst ((List.replicate ((k : Int) - 1).toNat [V.int 1]).flatten ++ [V.int 0])) l4 = some (.lst ((brkD k).map V.int)) := by
            rw [upd_same, e1]
          refine ⟨_, _, lst_dp (sz _ _ h19), lst_dp hl4, shL _, shL _, ?_⟩
          rw [list_eqv]
          refine ⟨_, _, rfl, _, rfl, goF ?_ ⟨_, _, _, _, _, _, _, rfl, s1419.trans sz⟩⟩
          rw [decide_eq_true kp, Bool.true_and]
          simp
        · have kz : ¬ 0 < k := fun z => hk0 (decide_eq_true (by show (k : Int) > 0; omega))
          rw [decide_eq_false kz]
          exact ⟨_, false, rfl, _, rfl, goF rfl ⟨_, _, _, _, _, _, _, rfl, s1419⟩⟩
      rintro σ H15 ⟨x2, x10, x13, x14, x15, x16, x17, rfl, s15⟩
      have F15 := F14.same s15
      clear F14 h14 a14 hpv hpa s15 pvl pok pll
      obtain ⟨j15, hj15, P15⟩ := F15.pen
      refine ⟨fun σ H' => ∃ (v : V) (x2 x8 x9 x10 x13 x15 x16 x17 : Option V), σ = [some (.ref a), some (.ref p), x2, some (.ref o), some (.ref mch), some (.int (cy : Nat)), some (.bl fb), none, x8, x9, x10, none, none, x13, some v, x15, x16, x17] ∧ Fy K C M H' (m0 + 1800) p c0 tb o mch x (i + r) i gs rs nx wi ∧ OddC K H' v, ?_, ?_⟩
      · refine ⟨_, rfl, _, rfl, len1, fun t1 n1 => ⟨(by show 5 ≤ sizeLine; decide), fun lo nlo => ?_⟩⟩
        have A1 := same_new (u := .tup [.int 1]) n1
        have A2 := same_new (u := .lst [.int (-1), .non, .bl true, .str "2", .ref t1]) nlo
        have P16 := P15.same (A1.trans A2)
        refine ⟨p, c0, lo, j15, _, rfl, P16, by omega, pen_lst P16 upd_same, SqL.of upd_same, (by show 0 < 5; decide), (by show 5 ≤ 1000; decide), fun v ii H17 hv P17 B17 => ?_⟩
        have st := ((F15.same (A1.trans A2)).kp B17).stay
        exact ⟨v, _, _, _, _, _, _, _, _, rfl, (F15.same (A1.trans A2)).to B17 P17 (by omega : j15 + 1 ≤ m0 + 1800), (odd_pick (K := K) hv (A2 _ _ upd_same)).stay st⟩
      clear F15 P15
      rintro σ H16 ⟨v, x2, x8, x9, x10, x13, x15, x16, x17, rfl, F16, odd⟩
      refine ⟨F16.tab, fun H17 e17 T17 => ?_⟩
      have F17 := F16.ext e17 T17
      obtain ⟨dd, od, sh, be⟩ := odd.stay (Stay.extN e17)
      clear F16 odd
      refine ⟨_, rfl, _, rfl, _, rfl, .ref mch, v, .bl fb, dd, rfl, od, be, num_of (says_of od sh) fun H18 t s18 e18 => ?_⟩
      refine ⟨_, rfl, v, _, rfl, says_of (dp_stay (Stay.of s18) od) sh, len3, fun t2 n2 => ?_⟩
      have s19 := same_new (u := .tup [.str "number", .str "cycles", .str dd.shown]) n2
      have hs := three_sh (a := "number") (b := "cycles") (by decide +kernel) (by decide +kernel) (sh_str sh)
      refine ⟨_, _, strs3 (s19 _ _ e18), strs3 upd_same, hs, hs, _, rfl, goF (by rw [three_eqv]; rfl) ?_⟩
      have F19 := F17.same (s18.trans s19)
      clear F17 T17 e17 od sh be s18 e18 hs s19
      generalize upd H18 t2 _ = H19 at F19 ⊢
      obtain ⟨g, t1, t2, ho, _, _, _⟩ := F19.own
      refine ⟨len1, fun u0 n0 => ⟨_, rfl, o, _, rfl, og_inputs (same_new n0 _ _ ho), ?_⟩⟩
      have A0 := same_new (u := .tup [.int 0]) n0
      refine mulT_use (k := i) rfl upd_same (by omega) fun u1 Ha A1 e1 => ⟨len1, fun u2 n2 => ⟨_, rfl, o, _, rfl, og_inputs (same_new n2 _ _ (A1 _ _ (A0 _ _ ho))), _, _, rfl, rfl, ?_⟩⟩
      have A2 := same_new (u := .tup [.int 0]) n2
      refine mulT_use (k := i + 1) (by omega) upd_same (by omega) fun u3 Hb A3 e3 => ⟨len2, fun lf nlf => ?_⟩
      have A4 := same_new (u := .lst [.ref u1, .ref u3]) nlf
      have Z04 := A0.trans (A1.trans (A2.trans (A3.trans A4)))
      refine ⟨fun σ H' => ∃ (v : V) (x2 x8 x9 x10 x13 x14 x15 x17 : Option V), σ = [some (.ref a), some (.ref p), x2, some (.ref o), some (.ref mch), some (.int (cy : Nat)), some (.bl fb), none, x8, x9, x10, none, none, x13, x14, x15, some v, x17] ∧ Fy K C M H' (m0 + 1900) p c0 tb o mch x (i + r) i gs rs nx wi ∧ BadR K H' i v, ?_, ?_⟩
      · refine ⟨_, rfl, _, rfl, len1, fun u5 n5 => ⟨_, rfl, o, _, rfl, og_inputs (same_new n5 _ _ (Z04 _ _ ho)), _, _, rfl, rfl, ?_⟩⟩
        have A5 := same_new (u := .tup [.int 2]) n5
        refine mulT_use (k := i + 1) (by omega) upd_same (by omega) fun u6 Hc A6 e6 => ⟨len1, fun l7 n7 => ⟨len1, fun l8 n8 => ⟨len6, fun lo nlo => ?_⟩⟩⟩
        have A7 := same_new (u := .lst [.ref u6]) n7
        have A8 := same_new (u := .lst [.non]) n8
        have A9 := same_new (u := .lst [.non, .int 5, .ref lf, .ref l7, .ref l8, .str "ab"]) nlo
        have Z59 := A5.trans (A6.trans (A7.trans (A8.trans A9)))
        have Z := Z04.trans Z59
        have F20 := F19.same Z
        obtain ⟨j20, hj20, P20⟩ := F20.pen
        refine ⟨p, c0, lo, j20, _, rfl, P20, by omega, pen_lst P20 upd_same, SqL.of upd_same, (by show 0 < 6; decide), (by show 6 ≤ 1000; decide), fun v ii H21 hv P21 B21 => ?_⟩
        have st := (F20.kp B21).stay
        refine ⟨v, _, _, _, _, _, _, _, _, rfl, F20.to B21 P21 (by omega : j20 + 1 ≤ m0 + 1900), (bad_pick (K := K) i3 hv (Z59 _ _ ((A2.trans (A3.trans A4)) _ _ e1)) (Z59 _ _ (A4 _ _ e3)) (Z59 _ _ upd_same) ((A7.trans (A8.trans A9)) _ _ e6) ((A8.trans A9) _ _ upd_same) (A9 _ _ upd_same)).stay st⟩
      clear F19 A0 A1 A2 A3 A4 Z04 ho e1 e3 n0 n2 nlf
      rintro σ H20 ⟨v, x2, x8, x9, x10, x13, x14, x15, x17, rfl, F20, bad⟩
      refine ⟨len2, fun lc nlc => ⟨lc, rfl, ⟨_, SqL.of upd_same⟩, for_list (K := K) (a := lc) (xs := [V.ref fY, V.ref fB])
        (fun j σ H' => ∃ (x2 x8 x9 x10 x13 x14 x15 x17 : Option V), σ = [some (.ref a), some (.ref p), x2, some (.ref o), some (.ref mch), some (.int (cy : Nat)), some (.bl fb), none, x8, x9, x10, none, none, x13, x14, x15, some v, x17] ∧ Fy K C M H' (m0 + 1900) p c0 tb o mch x (i + r) i gs rs nx wi ∧ BadR K H' i v ∧ H' lc = some (.lst [V.ref fY, V.ref fB]))
        ⟨_, _, _, _, _, _, _, _, rfl, F20.same (same_new nlc), bad.stay (Stay.of (same_new nlc)), upd_same⟩ (fun j σ H' _ ⟨_, _, _, _, _, _, _, _, _, _, _, h⟩ => SqL.of h) ?_ ?_⟩⟩
      · clear F20 bad nlc
        rintro j y σ H21 hj ⟨x2, x8, x9, x10, x13, x14, x15, x17, rfl, F21, bad, hlc⟩
        obtain ⟨fz, rfl, hz⟩ : ∃ fz, y = V.ref fz ∧ (fz = fY ∨ fz = fB) := by
          match j, hj with
          | 0, hj => exact ⟨fY, (Option.some.inj hj).symm, .inl rfl⟩
          | 1, hj => exact ⟨fB, (Option.some.inj hj).symm, .inr rfl⟩
          | j + 2, hj => simp at hj
        refine ⟨F21.tab, fun H22 e22 T22 => ?_⟩
        have F22 := F21.ext e22 T22
        obtain ⟨dd, od, sh, z1, z2, be⟩ := bad.stay (Stay.extN e22)
        have hlc22 := e22 _ _ hlc (fun _ z => by cases z)
        clear F21 bad
        refine ⟨hz.imp (fun z => by rw [z]; rfl) (fun z => by rw [z]; rfl), _, rfl, _, rfl, mch, x, v, i, wi, rs, nx, dd, rfl, F22.ma, od, z1, z2, be, row_of (says_of od sh) fun H23 t s23 e23 => ?_⟩
        refine ⟨_, rfl, v, _, rfl, says_of (dp_stay (Stay.of s23) od) sh, len2, fun t2 n2 => ?_⟩
        have s24 := same_new (u := .tup [.str "row", .str dd.shown]) n2
        have hs := two_sh (a := "row") (by decide +kernel) (sh_str sh)
        refine ⟨_, _, strs2 (s24 _ _ e23), strs2 upd_same, hs, hs, _, rfl, goF (by rw [two_eqv]; rfl) ?_⟩
        exact ⟨_, _, _, _, _, _, _, _, rfl, F22.same (s23.trans s24), ⟨dd, dp_stay (Stay.of (s23.trans s24)) od, sh, z1, z2, be⟩, (s23.trans s24) _ _ hlc22⟩
      · rintro σ H21 ⟨x2, x8, x9, x10, x13, x14, x15, x17, rfl, F21, bad, hlc⟩
        obtain ⟨j21, hj21, P21⟩ := F21.pen
        exact ⟨_, _, _, _, _, _, _, _, _, _, _, _, _, rfl, F21.tab, j21, by omega, P21⟩
    · rintro σ H2 ⟨x2, x3, x4, x5, x6, x8, x9, x10, x13, x14, x15, x16, x17, rfl, T2, m2, hm2, P2⟩
      exact q _
end
end Uy
namespace E22
open PySem PySem.Spec PyProof.Rows L2 Pen Dat Ki Fi Gr No Lf Cm Bd Be Bf Bg Bo Bw Cp Lc Dm Wy Yg Zm Zn2 Um Ul Un Uw Ux Yt Uy Gd He
def ds_is_between : DefD := ⟨("is_between", none), "is_between", "is_between", defArgs sBetween, defBody sBetween, defScope sBetween, [], []⟩
def ds_is_from : DefD := ⟨("is_from", none), "is_from", "is_from", defArgs sFrom, defBody sFrom, defScope sFrom, [], []⟩
def ds_is_row : DefD := ⟨("is_row", none), "is_row", "is_row", defArgs sRow, defBody sRow, defScope sRow, [], []⟩
def ds_is_row_between : DefD := ⟨("is_row_between", none), "is_row_between", "is_row_between", defArgs sRowB, defBody sRowB, defScope sRowB, [], []⟩
def ds_are_rows_of_bits : DefD := ⟨("are_rows_of_bits", none), "are_rows_of_bits", "are_rows_of_bits", defArgs sRowsBits, defBody sRowsBits, defScope sRowsBits, [], []⟩
def ds_row_kept : DefD := ⟨("row_kept", none), "row_kept", "row_kept", defArgs sKeptR, defBody sKeptR, defScope sKeptR, [], []⟩
def ds_need_leaves : DefD := ⟨("need_leaves", none), "need_leaves", "need_leaves", defArgs sNeed, defBody sNeed, defScope sNeed, [], []⟩
def ds_are_gates : DefD := ⟨("are_gates", none), "are_gates", "are_gates", defArgs sGates, defBody sGates, defScope sGates, [], []⟩
def ds_node_values : DefD := ⟨("node_values", none), "node_values", "node_values", defArgs sNode, defBody sNode, defScope sNode, [], []⟩
def ds_literal_value : DefD := ⟨("literal_value", none), "literal_value", "literal_value", defArgs sLit, defBody sLit, defScope sLit, [], []⟩
def ds_literal_in : DefD := ⟨("literal_in", none), "literal_in", "literal_in", defArgs sLitIn, defBody sLitIn, defScope sLitIn, [], []⟩
def ds_put_into : DefD := ⟨("put_into", none), "put_into", "put_into", defArgs sPut, defBody sPut, defScope sPut, [], []⟩
def ds_played : DefD := ⟨("played", none), "played", "played", defArgs sPlayed, defBody sPlayed, defScope sPlayed, [], []⟩
def ds_breaks : DefD := ⟨("breaks", none), "breaks", "breaks", defArgs sBreaks, defBody sBreaks, defScope sBreaks, [], []⟩
def ds_unrolled : DefD := ⟨("unrolled", none), "unrolled", "unrolled", defArgs sUnrolled, defBody sUnrolled, defScope sUnrolled, [], []⟩
def ds__law_pen : DefD := ⟨("_law_pen", none), "_law_pen", "_law_pen", defArgs sPen, defBody sPen, defScope sPen, [], []⟩
def ds__law_draw : DefD := ⟨("_law_draw", none), "_law_draw", "_law_draw", defArgs sDraw, defBody sDraw, defScope sDraw, [], []⟩
def ds__law_pick : DefD := ⟨("_law_pick", none), "_law_pick", "_law_pick", defArgs sPick, defBody sPick, defScope sPick, [], []⟩
def ds__law_drawn_gates : DefD := ⟨("_law_drawn_gates", none), "_law_drawn_gates", "_law_drawn_gates", defArgs sDrawn, defBody sDrawn, defScope sDrawn, [], []⟩
def ds__law_values : DefD := ⟨("_law_values", none), "_law_values", "_law_values", defArgs sValues, defBody sValues, defScope sValues, [], []⟩
def ds__law_bit : DefD := ⟨("_law_bit", none), "_law_bit", "_law_bit", defArgs sBit, defBody sBit, defScope sBit, [], []⟩
def ds__law_xor_gates : DefD := ⟨("_law_xor_gates", none), "_law_xor_gates", "_law_xor_gates", defArgs sXor, defBody sXor, defScope sXor, [], []⟩
def ds__law_flip : DefD := ⟨("_law_flip", none), "_law_flip", "_law_flip", defArgs sFlip, defBody sFlip, defScope sFlip, [], []⟩
def ds__law_drawn_machine : DefD := ⟨("_law_drawn_machine", none), "_law_drawn_machine", "_law_drawn_machine", defArgs sMach, defBody sMach, defScope sMach, [], []⟩
def ds__law_made_machine : DefD := ⟨("_law_made_machine", none), "_law_made_machine", "_law_made_machine", defArgs sMade, defBody sMade, defScope sMade, [], []⟩
def ds__law_tick : DefD := ⟨("_law_tick", none), "_law_tick", "_law_tick", defArgs sTick, defBody sTick, defScope sTick, [], []⟩
def ds__law_longer : DefD := ⟨("_law_longer", none), "_law_longer", "_law_longer", defArgs sLonger, defBody sLonger, defScope sLonger, [], []⟩
def ds__law_rows : DefD := ⟨("_law_rows", none), "_law_rows", "_law_rows", defArgs sRows, defBody sRows, defScope sRows, [], []⟩
def ds__law_why : DefD := ⟨("_law_why", none), "_law_why", "_law_why", defArgs sWhy, defBody sWhy, defScope sWhy, [], []⟩
def ds__law_is : DefD := ⟨("_law_is", none), "_law_is", "_law_is", defArgs sLIs, defBody sLIs, defScope sLIs, [], []⟩
def ds__law_drawn_bits : DefD := ⟨("_law_drawn_bits", none), "_law_drawn_bits", "_law_drawn_bits", defArgs sLDrawnBits, defBody sLDrawnBits, defScope sLDrawnBits, [], []⟩
def ds__law_some_rows : DefD := ⟨("_law_some_rows", none), "_law_some_rows", "_law_some_rows", defArgs sLSomeRows, defBody sLSomeRows, defScope sLSomeRows, [], []⟩
def ds__law_played : DefD := ⟨("_law_played", none), "_law_played", "_law_played", defArgs sLPlayed, defBody sLPlayed, defScope sLPlayed, [], []⟩
def ds__law_unrolled_right : DefD := ⟨("_law_unrolled_right", none), "_law_unrolled_right", "_law_unrolled_right", defArgs sLUnrolledRight, defBody sLUnrolledRight, defScope sLUnrolledRight, [], []⟩
def ds_law : DefD := ⟨("law", none), "law", "law", defArgs sLaw, defBody sLaw, defScope sLaw, [], []⟩
def di_BadNumber___init__ : DefD := ⟨("BadNumber", some "__init__"), "__init__", "BadNumber.__init__", defArgs sNumI, defBody sNumI, defScope sNumI, [], []⟩
def di_BadRow___init__ : DefD := ⟨("BadRow", some "__init__"), "__init__", "BadRow.__init__", defArgs sRowI, defBody sRowI, defScope sRowI, [], []⟩
def di_Graph___init__ : DefD := ⟨("Graph", some "__init__"), "__init__", "Graph.__init__", defArgs sInit, defBody sInit, defScope sInit, [], []⟩
def di_Graph___eq__ : DefD := ⟨("Graph", some "__eq__"), "__eq__", "Graph.__eq__", defArgs sEq, defBody sEq, defScope sEq, [], []⟩
def di_Machine___init__ : DefD := ⟨("Machine", some "__init__"), "__init__", "Machine.__init__", defArgs sMInit, defBody sMInit, defScope sMInit, [], []⟩
def di_Machine___eq__ : DefD := ⟨("Machine", some "__eq__"), "__eq__", "Machine.__eq__", defArgs sMEq, defBody sMEq, defScope sMEq, [], []⟩
def di_Unrolled___init__ : DefD := ⟨("Unrolled", some "__init__"), "__init__", "Unrolled.__init__", defArgs sUInit, defBody sUInit, defScope sUInit, [], []⟩
def di_Builder___init__ : DefD := ⟨("Builder", some "__init__"), "__init__", "Builder.__init__", defArgs sBInit, defBody sBInit, defScope sBInit, [], []⟩
def di_Builder_graph : DefD := ⟨("Builder", some "graph"), "graph", "Builder.graph", defArgs sBGraph, defBody sBGraph, defScope sBGraph, [], []⟩
def di_Builder_and_of : DefD := ⟨("Builder", some "and_of"), "and_of", "Builder.and_of", defArgs sAnd, defBody sAnd, defScope sAnd, [], []⟩
def fn : List DefD := [ds_is_between, ds_is_from, ds_is_row, ds_is_row_between, ds_are_rows_of_bits, ds_row_kept, ds_need_leaves, ds_are_gates, ds_node_values, ds_literal_value, ds_literal_in, ds_put_into, ds_played, ds_breaks, ds_unrolled, ds__law_pen, ds__law_draw, ds__law_pick, ds__law_drawn_gates, ds__law_values, ds__law_bit, ds__law_xor_gates, ds__law_flip, ds__law_drawn_machine, ds__law_made_machine, ds__law_tick, ds__law_longer, ds__law_rows, ds__law_why, ds__law_is, ds__law_drawn_bits, ds__law_some_rows, ds__law_played, ds__law_unrolled_right, ds_law, di_BadNumber___init__, di_BadRow___init__, di_Graph___init__, di_Graph___eq__, di_Machine___init__, di_Machine___eq__, di_Unrolled___init__, di_Builder___init__, di_Builder_graph, di_Builder_and_of]
def fa : List Fa := [.glo "is_between", .glo "is_from", .glo "is_row", .glo "is_row_between", .glo "are_rows_of_bits", .glo "row_kept", .glo "need_leaves", .glo "are_gates", .glo "node_values", .glo "literal_value", .glo "literal_in", .glo "put_into", .glo "played", .glo "breaks", .glo "unrolled", .glo "_law_pen", .glo "_law_draw", .glo "_law_pick", .glo "_law_drawn_gates", .glo "_law_values", .glo "_law_bit", .glo "_law_xor_gates", .glo "_law_flip", .glo "_law_drawn_machine", .glo "_law_made_machine", .glo "_law_tick", .glo "_law_longer", .glo "_law_rows", .glo "_law_why", .glo "_law_is", .glo "_law_drawn_bits", .glo "_law_some_rows", .glo "_law_played", .glo "_law_unrolled_right", .glo "law", .glo "Graph", .glo "Machine", .glo "Unrolled", .glo "Builder", .glo "BadNumber", .glo "BadRow", .free "isinstance", .free "int", .free "bool", .free "tuple", .free "list", .free "len", .free "all", .free "abs", .free "range", .free "repr", .free "sorted", .free "dict", .free "enumerate", .cls "Graph", .mkr "Graph", .noat "Graph" "leaves", .noat "Graph" "gates", .cls "Machine", .mkr "Machine", .noat "Machine" "graph", .noat "Machine" "inputs", .noat "Machine" "resets", .noat "Machine" "nexts", .noat "Machine" "wish", .cls "Unrolled", .mkr "Unrolled", .noat "Unrolled" "graph", .noat "Unrolled" "states", .noat "Unrolled" "wishes", .cls "Builder", .mkr "Builder", .noat "Builder" "leaves", .noat "Builder" "gates", .noat "Builder" "standing", .meth "Graph" "__eq__", .meth "Machine" "__eq__", .meth "Builder" "and_of", .meth "Builder" "graph"]
abbrev cGraph (K : PySem.W.Frag) : Addr := ga K "Graph"
abbrev cMachine (K : PySem.W.Frag) : Addr := ga K "Machine"
abbrev cUnrolled (K : PySem.W.Frag) : Addr := ga K "Unrolled"
abbrev cBuilder (K : PySem.W.Frag) : Addr := ga K "Builder"
def exB (K : PySem.W.Frag) : Bool := (decide (PySem.W.findIn K (.ref (cGraph K)) "__class__" = some (some (.builtin "object.__class__"))) && (decide (PySem.W.specialIn K (.builtin "object.__class__") "__get__" = some (some (.builtin "getset_descriptor.__get__"))) && (decide (PySem.W.takesIn K (.builtin "object.__class__") = some true) && (decide (PySem.W.mroIn K (cGraph K) (.type "object") = some true) && (decide (PySem.W.kitOne K (.ref (cGraph K)) (.ref (cGraph K)) = some true) && (decide (PySem.W.kitOne K (.type "tuple") (.ref (cGraph K)) = some false) && (decide (PySem.W.subIn K (.type "tuple") (.ref (cGraph K)) = some false) && (decide (PySem.W.subIn K (.ref (cGraph K)) (.ref (cMachine K)) = some false) && (decide (PySem.W.kitOne K (.ref (cMachine K)) (.ref (cMachine K)) = some true) && (decide (PySem.W.kitOne K (.ref (cGraph K)) (.ref (cMachine K)) = some false) && (decide (PySem.W.kitOne K (.ref (cGraph K)) (.type "list") = some false) && (decide (PySem.W.findIn K (.ref (cMachine K)) "__class__" = some (some (.builtin "object.__class__"))) && (decide (PySem.W.mroIn K (cMachine K) (.type "object") = some true) && (decide (PySem.W.findIn K (.ref (cUnrolled K)) "__class__" = some (some (.builtin "object.__class__"))) && (decide (PySem.W.mroIn K (cUnrolled K) (.type "object") = some true) && (decide (PySem.W.kitOne K (.ref (cUnrolled K)) (.ref (cUnrolled K)) = some true) && (decide (PySem.W.exmOne K (.ref (ga K "BadNumber")) (.ref (ga K "BadNumber")) = some true) && (decide (PySem.W.exmOne K (.ref (ga K "BadRow")) (.ref (ga K "BadNumber")) = some false) && (decide (PySem.W.exmOne K (.ref (ga K "BadRow")) (.ref (ga K "BadRow")) = some true) && (decide (xfB K (ga K "BadNumber") = true) && (decide (xfB K (ga K "BadRow") = true) && (decide (PySem.W.findIn K (.ref (ga K "BadNumber")) "what" = some none) && (decide (PySem.W.findIn K (.ref (ga K "BadNumber")) "number" = some none) && (decide (PySem.W.findIn K (.ref (ga K "BadRow")) "row" = some none) && (decide (Exo.okB K (ga K "BadNumber") = true) && (decide (Exo.okB K (ga K "BadRow") = true) && (decide (PySem.W.findIn K (.ref (ga K "BadNumber")) "__init__" = some (some (.ref (fAd K ("BadNumber", some "__init__"))))) && (decide (PySem.W.typeIn K (.ref (fAd K ("BadNumber", some "__init__"))) = some (.type "function")) && (decide (PySem.W.findIn K (.ref (ga K "BadRow")) "__init__" = some (some (.ref (fAd K ("BadRow", some "__init__"))))) && (decide (PySem.W.typeIn K (.ref (fAd K ("BadRow", some "__init__"))) = some (.type "function")) && true))))))))))))))))))))))))))))))
abbrev R : PySem.W.OpenRow := PySem.W.OpenLaw.row PySem.Challenge.rw_everycycle_k22_whole_unrolled_cycles
abbrev hk : PySem.W.Hook := hookX 6 fa fn [] [("law", none)] exB
def ob (s : PySem.W.SharedT) : AlX := obsX 6 fa fn [] [("law", none)] exB (HandSHeadRun.getT s)
theorem ob_eq (s : PySem.W.SharedT) : ob s = hk.obs s.abs := obsX_eq (HandSHeadRun.getT_eq s)
theorem run (w : World) : HandSHeadRun.RunEq R (PySem.W.view R.prog [46]) hk ob 4000 [("CycleError" : PySem.Str), ("BadNumber" : PySem.Str), ("BadRow" : PySem.Str), ("is_between" : PySem.Str), ("is_from" : PySem.Str), ("is_row" : PySem.Str), ("is_row_between" : PySem.Str), ("are_rows_of_bits" : PySem.Str), ("row_kept" : PySem.Str), ("Graph" : PySem.Str), ("need_leaves" : PySem.Str), ("are_gates" : PySem.Str), ("node_values" : PySem.Str), ("literal_value" : PySem.Str), ("Builder" : PySem.Str), ("literal_in" : PySem.Str), ("put_into" : PySem.Str), ("Machine" : PySem.Str), ("played" : PySem.Str), ("breaks" : PySem.Str), ("Unrolled" : PySem.Str), ("unrolled" : PySem.Str), ("_law_pen" : PySem.Str), ("_law_draw" : PySem.Str), ("_law_pick" : PySem.Str), ("_law_drawn_gates" : PySem.Str), ("_law_values" : PySem.Str), ("_law_bit" : PySem.Str), ("_law_xor_gates" : PySem.Str), ("_law_flip" : PySem.Str), ("_law_drawn_machine" : PySem.Str), ("_law_made_machine" : PySem.Str), ("_law_tick" : PySem.Str), ("_law_longer" : PySem.Str), ("_law_rows" : PySem.Str), ("_law_why" : PySem.Str), ("_law_is" : PySem.Str), ("_law_drawn_bits" : PySem.Str), ("_law_some_rows" : PySem.Str), ("_law_played" : PySem.Str), ("_law_unrolled_right" : PySem.Str)] w := by
  intro os
  kernel_rfl
theorem and2 {a b : Bool} (h : (a && b) = true) : a = true ∧ b = true := Bool.and_eq_true_iff.mp h
theorem facts {P : Program} {w : World} {K : PySem.W.Frag} {h : Heap} {mg : Str → Option Value} {f : Addr} (X : K.In h) (G : h.Ns mainGlobals mg) (hfa : mg ("law" : Str) = some (.ref f)) (c : SaysX fa fn [] [("law", none)] exB w h K) :
    ∃ fd : FuncData, (∀ (s : Shared) (v : Value), BindsTo s fd ⟨[v], []⟩ [("_law_script", v)]) ∧ ∀ base : Heap, K.In base → base.Ns mainGlobals mg → LamX.TabB base mg (cT K ("law", none)).1 (cT K ("law", none)).2 → FnG P w K mg base CX0 9 f fd ["_law_script"] (Uy.spLaw K (cT K ("law", none)).2) := by
  have cd := c.t.d
  obtain ⟨fd0, F0⟩ := cd.def_ 0 (d := ds_is_between) rfl
  obtain ⟨fd1, F1⟩ := cd.def_ 1 (d := ds_is_from) rfl
  obtain ⟨fd2, F2⟩ := cd.def_ 2 (d := ds_is_row) rfl
  obtain ⟨fd3, F3⟩ := cd.def_ 3 (d := ds_is_row_between) rfl
  obtain ⟨fd4, F4⟩ := cd.def_ 4 (d := ds_are_rows_of_bits) rfl
  obtain ⟨fd5, F5⟩ := cd.def_ 5 (d := ds_row_kept) rfl
  obtain ⟨fd6, F6⟩ := cd.def_ 6 (d := ds_need_leaves) rfl
  obtain ⟨fd7, F7⟩ := cd.def_ 7 (d := ds_are_gates) rfl
  obtain ⟨fd8, F8⟩ := cd.def_ 8 (d := ds_node_values) rfl
  obtain ⟨fd9, F9⟩ := cd.def_ 9 (d := ds_literal_value) rfl
  obtain ⟨fd10, F10⟩ := cd.def_ 10 (d := ds_literal_in) rfl
  obtain ⟨fd11, F11⟩ := cd.def_ 11 (d := ds_put_into) rfl
  obtain ⟨fd12, F12⟩ := cd.def_ 12 (d := ds_played) rfl
  obtain ⟨fd13, F13⟩ := cd.def_ 13 (d := ds_breaks) rfl
  obtain ⟨fd14, F14⟩ := cd.def_ 14 (d := ds_unrolled) rfl
  obtain ⟨fd15, F15⟩ := cd.def_ 15 (d := ds__law_pen) rfl
  obtain ⟨fd16, F16⟩ := cd.def_ 16 (d := ds__law_draw) rfl
  obtain ⟨fd17, F17⟩ := cd.def_ 17 (d := ds__law_pick) rfl
  obtain ⟨fd18, F18⟩ := cd.def_ 18 (d := ds__law_drawn_gates) rfl
  obtain ⟨fd19, F19⟩ := cd.def_ 19 (d := ds__law_values) rfl
  obtain ⟨fd20, F20⟩ := cd.def_ 20 (d := ds__law_bit) rfl
  obtain ⟨fd21, F21⟩ := cd.def_ 21 (d := ds__law_xor_gates) rfl
  obtain ⟨fd22, F22⟩ := cd.def_ 22 (d := ds__law_flip) rfl
  obtain ⟨fd23, F23⟩ := cd.def_ 23 (d := ds__law_drawn_machine) rfl
  obtain ⟨fd24, F24⟩ := cd.def_ 24 (d := ds__law_made_machine) rfl
  obtain ⟨fd25, F25⟩ := cd.def_ 25 (d := ds__law_tick) rfl
  obtain ⟨fd26, F26⟩ := cd.def_ 26 (d := ds__law_longer) rfl
  obtain ⟨fd27, F27⟩ := cd.def_ 27 (d := ds__law_rows) rfl
  obtain ⟨fd28, F28⟩ := cd.def_ 28 (d := ds__law_why) rfl
  obtain ⟨fd29, F29⟩ := cd.def_ 29 (d := ds__law_is) rfl
  obtain ⟨fd30, F30⟩ := cd.def_ 30 (d := ds__law_drawn_bits) rfl
  obtain ⟨fd31, F31⟩ := cd.def_ 31 (d := ds__law_some_rows) rfl
  obtain ⟨fd32, F32⟩ := cd.def_ 32 (d := ds__law_played) rfl
  obtain ⟨fd33, F33⟩ := cd.def_ 33 (d := ds__law_unrolled_right) rfl
  obtain ⟨fd34, F34⟩ := cd.def_ 34 (d := ds_law) rfl
  obtain ⟨fd35, F35⟩ := cd.def_ 35 (d := di_BadNumber___init__) rfl
  obtain ⟨fd36, F36⟩ := cd.def_ 36 (d := di_BadRow___init__) rfl
  obtain ⟨fd37, F37⟩ := cd.def_ 37 (d := di_Graph___init__) rfl
  obtain ⟨fd38, F38⟩ := cd.def_ 38 (d := di_Graph___eq__) rfl
  obtain ⟨fd39, F39⟩ := cd.def_ 39 (d := di_Machine___init__) rfl
  obtain ⟨fd40, F40⟩ := cd.def_ 40 (d := di_Machine___eq__) rfl
  obtain ⟨fd41, F41⟩ := cd.def_ 41 (d := di_Unrolled___init__) rfl
  obtain ⟨fd42, F42⟩ := cd.def_ 42 (d := di_Builder___init__) rfl
  obtain ⟨fd43, F43⟩ := cd.def_ 43 (d := di_Builder_graph) rfl
  obtain ⟨fd44, F44⟩ := cd.def_ 44 (d := di_Builder_and_of) rfl
  have glo : ∀ i x, fa[i]? = some (Fa.glo x) → mg x = some (.ref (ga K x)) := fun i x e => glo_ok X G (cd.fact i e)
  have fre : ∀ i x, fa[i]? = some (Fa.free x) → mg x = none := fun i x e => free_ok X G (cd.fact i e)
  have e := hfa.symm.trans (glo 34 "law" rfl)
  cases e
  have b0 : Binds K fd0 ["value", "least", "most"] [] := F0.bindsN fun _ _ _ _ _ _ us hl => match us, hl with | [_, _, _], _ => rfl
  have b1 : Binds K fd1 ["value", "least"] [] := F1.bindsN fun _ _ _ _ _ _ us hl => match us, hl with | [_, _], _ => rfl
  have b2 : Binds K fd2 ["value"] [] := F2.bindsN fun _ _ _ _ _ _ us hl => match us, hl with | [_], _ => rfl
  have b3 : Binds K fd3 ["value", "many", "least", "most"] [] := F3.bindsN fun _ _ _ _ _ _ us hl => match us, hl with | [_, _, _, _], _ => rfl
  have b4 : Binds K fd4 ["value", "many"] [] := F4.bindsN fun _ _ _ _ _ _ us hl => match us, hl with | [_, _], _ => rfl
  have b5 : Binds K fd5 ["value"] [] := F5.bindsN fun _ _ _ _ _ _ us hl => match us, hl with | [_], _ => rfl
  have b6 : Binds K fd6 ["leaves"] [] := F6.bindsN fun _ _ _ _ _ _ us hl => match us, hl with | [_], _ => rfl
  have b7 : Binds K fd7 ["leaves", "value"] [] := F7.bindsN fun _ _ _ _ _ _ us hl => match us, hl with | [_, _], _ => rfl
  have b8 : Binds K fd8 ["graph", "bits"] [] := F8.bindsN fun _ _ _ _ _ _ us hl => match us, hl with | [_, _], _ => rfl
  have b9 : Binds K fd9 ["found", "literal"] [] := F9.bindsN fun _ _ _ _ _ _ us hl => match us, hl with | [_, _], _ => rfl
  have b10 : Binds K fd10 ["places", "literal"] [] := F10.bindsN fun _ _ _ _ _ _ us hl => match us, hl with | [_, _], _ => rfl
  have b11 : Binds K fd11 ["builder", "graph", "leaves", "literals"] [] := F11.bindsN fun _ _ _ _ _ _ us hl => match us, hl with | [_, _, _, _], _ => rfl
  have b12 : Binds K fd12 ["machine", "rows"] [] := F12.bindsN fun _ _ _ _ _ _ us hl => match us, hl with | [_, _], _ => rfl
  have b13 : Binds K fd13 ["machine", "rows"] [] := F13.bindsN fun _ _ _ _ _ _ us hl => match us, hl with | [_, _], _ => rfl
  have b14 : Binds K fd14 ["machine", "cycles", "free"] [] := F14.bindsN fun _ _ _ _ _ _ us hl => match us, hl with | [_, _, _], _ => rfl
  have b15 : Binds K fd15 ["_law_script"] [] := F15.bindsN fun _ _ _ _ _ _ us hl => match us, hl with | [_], _ => rfl
  have b16 : Binds K fd16 ["_law_pen_here", "_law_many"] [] := F16.bindsN fun _ _ _ _ _ _ us hl => match us, hl with | [_, _], _ => rfl
  have b17 : Binds K fd17 ["_law_pen_here", "_law_some"] [] := F17.bindsN fun _ _ _ _ _ _ us hl => match us, hl with | [_, _], _ => rfl
  have b18 : Binds K fd18 ["_law_pen_here", "_law_leaves", "_law_many"] [] := F18.bindsN fun _ _ _ _ _ _ us hl => match us, hl with | [_, _, _], _ => rfl
  have b19 : Binds K fd19 ["_law_leaves", "_law_gates", "_law_bits"] [] := F19.bindsN fun _ _ _ _ _ _ us hl => match us, hl with | [_, _, _], _ => rfl
  have b20 : Binds K fd20 ["_law_found", "_law_literal"] [] := F20.bindsN fun _ _ _ _ _ _ us hl => match us, hl with | [_, _], _ => rfl
  have b21 : Binds K fd21 ["_law_gates", "_law_leaves", "_law_one", "_law_two"] [] := F21.bindsN fun _ _ _ _ _ _ us hl => match us, hl with | [_, _, _, _], _ => rfl
  have b22 : Binds K fd22 ["_law_literal"] [] := F22.bindsN fun _ _ _ _ _ _ us hl => match us, hl with | [_], _ => rfl
  have b23 : Binds K fd23 ["_law_pen_here", "_law_inputs", "_law_registers", "_law_many"] [] := F23.bindsN fun _ _ _ _ _ _ us hl => match us, hl with | [_, _, _, _], _ => rfl
  have b24 : Binds K fd24 ["_law_machine"] [] := F24.bindsN fun _ _ _ _ _ _ us hl => match us, hl with | [_], _ => rfl
  have b25 : Binds K fd25 ["_law_machine", "_law_state", "_law_bits"] [] := F25.bindsN fun _ _ _ _ _ _ us hl => match us, hl with | [_, _, _], _ => rfl
  have b26 : Binds K fd26 ["_law_rows_here", "_law_many"] [] := F26.bindsN fun _ _ _ _ _ _ us hl => match us, hl with | [_, _], _ => rfl
  have b27 : Binds K fd27 ["_law_many"] [] := F27.bindsN fun _ _ _ _ _ _ us hl => match us, hl with | [_], _ => rfl
  have b28 : Binds K fd28 ["_law_call"] [] := F28.bindsN fun _ _ _ _ _ _ us hl => match us, hl with | [_], _ => rfl
  have b29 : Binds K fd29 ["_law_value", "_law_due"] [] := F29.bindsN fun _ _ _ _ _ _ us hl => match us, hl with | [_, _], _ => rfl
  have b30 : Binds K fd30 ["_law_pen_here", "_law_many"] [] := F30.bindsN fun _ _ _ _ _ _ us hl => match us, hl with | [_, _], _ => rfl
  have b31 : Binds K fd31 ["_law_pen_here", "_law_many", "_law_most"] [] := F31.bindsN fun _ _ _ _ _ _ us hl => match us, hl with | [_, _, _], _ => rfl
  have b32 : Binds K fd32 ["_law_own", "_law_state", "_law_rows_here"] [] := F32.bindsN fun _ _ _ _ _ _ us hl => match us, hl with | [_, _, _], _ => rfl
  have b33 : Binds K fd33 ["_law_pen_here", "_law_own", "_law_told", "_law_cycles", "_law_free"] [] := F33.bindsN fun _ _ _ _ _ _ us hl => match us, hl with | [_, _, _, _, _], _ => rfl
  have b35 : Binds K fd35 ["self", "what", "number"] [] := F35.bindsN fun _ _ _ _ _ _ us hl => match us, hl with | [_, _, _], _ => rfl
  have b36 : Binds K fd36 ["self", "row"] [] := F36.bindsN fun _ _ _ _ _ _ us hl => match us, hl with | [_, _], _ => rfl
  have b37 : Binds K fd37 ["self", "leaves", "gates"] [] := F37.bindsN fun _ _ _ _ _ _ us hl => match us, hl with | [_, _, _], _ => rfl
  have b38 : Binds K fd38 ["self", "other"] [] := F38.bindsN fun _ _ _ _ _ _ us hl => match us, hl with | [_, _], _ => rfl
  have b39 : Binds K fd39 ["self", "graph", "inputs", "resets", "nexts", "wish"] [] := F39.bindsN fun _ _ _ _ _ _ us hl => match us, hl with | [_, _, _, _, _, _], _ => rfl
  have b40 : Binds K fd40 ["self", "other"] [] := F40.bindsN fun _ _ _ _ _ _ us hl => match us, hl with | [_, _], _ => rfl
  have b41 : Binds K fd41 ["self", "graph", "states", "wishes"] [] := F41.bindsN fun _ _ _ _ _ _ us hl => match us, hl with | [_, _, _, _], _ => rfl
  have b42 : Binds K fd42 ["self", "leaves"] [] := F42.bindsN fun _ _ _ _ _ _ us hl => match us, hl with | [_, _], _ => rfl
  have b43 : Binds K fd43 ["self"] [] := F43.bindsN fun _ _ _ _ _ _ us hl => match us, hl with | [_], _ => rfl
  have b44 : Binds K fd44 ["self", "one", "other"] [] := F44.bindsN fun _ _ _ _ _ _ us hl => match us, hl with | [_, _, _], _ => rfl
  have b := FunD.bindsA (ps := ["_law_script"]) F34 fun _ _ _ _ _ _ us hl => match us, hl with | [_], _ => rfl
  have g0 := glo 0 "is_between" rfl
  have g1 := glo 1 "is_from" rfl
  have g2 := glo 2 "is_row" rfl
  have g3 := glo 3 "is_row_between" rfl
  have g4 := glo 4 "are_rows_of_bits" rfl
  have g5 := glo 5 "row_kept" rfl
  have g6 := glo 6 "need_leaves" rfl
  have g7 := glo 7 "are_gates" rfl
  have g8 := glo 8 "node_values" rfl
  have g9 := glo 9 "literal_value" rfl
  have g10 := glo 10 "literal_in" rfl
  have g11 := glo 11 "put_into" rfl
  have g12 := glo 12 "played" rfl
  have g13 := glo 13 "breaks" rfl
  have g14 := glo 14 "unrolled" rfl
  have g15 := glo 15 "_law_pen" rfl
  have g16 := glo 16 "_law_draw" rfl
  have g17 := glo 17 "_law_pick" rfl
  have g18 := glo 18 "_law_drawn_gates" rfl
  have g19 := glo 19 "_law_values" rfl
  have g20 := glo 20 "_law_bit" rfl
  have g21 := glo 21 "_law_xor_gates" rfl
  have g22 := glo 22 "_law_flip" rfl
  have g23 := glo 23 "_law_drawn_machine" rfl
  have g24 := glo 24 "_law_made_machine" rfl
  have g25 := glo 25 "_law_tick" rfl
  have g26 := glo 26 "_law_longer" rfl
  have g27 := glo 27 "_law_rows" rfl
  have g28 := glo 28 "_law_why" rfl
  have g29 := glo 29 "_law_is" rfl
  have g30 := glo 30 "_law_drawn_bits" rfl
  have g31 := glo 31 "_law_some_rows" rfl
  have g32 := glo 32 "_law_played" rfl
  have g33 := glo 33 "_law_unrolled_right" rfl
  have g34 := glo 34 "law" rfl
  have gGraph := glo 35 "Graph" rfl
  have gMachine := glo 36 "Machine" rfl
  have gUnrolled := glo 37 "Unrolled" rfl
  have gBuilder := glo 38 "Builder" rfl
  have gBadNumber := glo 39 "BadNumber" rfl
  have gBadRow := glo 40 "BadRow" rfl
  have z_isinstance := fre 41 "isinstance" rfl
  have z_int := fre 42 "int" rfl
  have z_bool := fre 43 "bool" rfl
  have z_tuple := fre 44 "tuple" rfl
  have z_list := fre 45 "list" rfl
  have z_len := fre 46 "len" rfl
  have z_all := fre 47 "all" rfl
  have z_abs := fre 48 "abs" rfl
  have z_range := fre 49 "range" rfl
  have z_repr := fre 50 "repr" rfl
  have z_sorted := fre 51 "sorted" rfl
  have z_dict := fre 52 "dict" rfl
  have z_enumerate := fre 53 "enumerate" rfl
  have clGraph := cls_ok (cd.fact 54 (f := .cls "Graph") rfl)
  have mkGraph := mkr_ok (cd.fact 55 (f := .mkr "Graph") rfl)
  have nGraph_leaves := noat_ok (cd.fact 56 (f := .noat "Graph" "leaves") rfl)
  have nGraph_gates := noat_ok (cd.fact 57 (f := .noat "Graph" "gates") rfl)
  have clMachine := cls_ok (cd.fact 58 (f := .cls "Machine") rfl)
  have mkMachine := mkr_ok (cd.fact 59 (f := .mkr "Machine") rfl)
  have nMachine_graph := noat_ok (cd.fact 60 (f := .noat "Machine" "graph") rfl)
  have nMachine_inputs := noat_ok (cd.fact 61 (f := .noat "Machine" "inputs") rfl)
  have nMachine_resets := noat_ok (cd.fact 62 (f := .noat "Machine" "resets") rfl)
  have nMachine_nexts := noat_ok (cd.fact 63 (f := .noat "Machine" "nexts") rfl)
  have nMachine_wish := noat_ok (cd.fact 64 (f := .noat "Machine" "wish") rfl)
  have clUnrolled := cls_ok (cd.fact 65 (f := .cls "Unrolled") rfl)
  have mkUnrolled := mkr_ok (cd.fact 66 (f := .mkr "Unrolled") rfl)
  have nUnrolled_graph := noat_ok (cd.fact 67 (f := .noat "Unrolled" "graph") rfl)
  have nUnrolled_states := noat_ok (cd.fact 68 (f := .noat "Unrolled" "states") rfl)
  have nUnrolled_wishes := noat_ok (cd.fact 69 (f := .noat "Unrolled" "wishes") rfl)
  have clBuilder := cls_ok (cd.fact 70 (f := .cls "Builder") rfl)
  have mkBuilder := mkr_ok (cd.fact 71 (f := .mkr "Builder") rfl)
  have nBuilder_leaves := noat_ok (cd.fact 72 (f := .noat "Builder" "leaves") rfl)
  have nBuilder_gates := noat_ok (cd.fact 73 (f := .noat "Builder" "gates") rfl)
  have nBuilder_standing := noat_ok (cd.fact 74 (f := .noat "Builder" "standing") rfl)
  have meGraph___eq__ := meth_ok (cd.fact 75 (f := .meth "Graph" "__eq__") rfl)
  have meMachine___eq__ := meth_ok (cd.fact 76 (f := .meth "Machine" "__eq__") rfl)
  have meBuilder_and_of := meth_ok (cd.fact 77 (f := .meth "Builder" "and_of") rfl)
  have meBuilder_graph := meth_ok (cd.fact 78 (f := .meth "Builder" "graph") rfl)
  have r0 := c.more
  obtain ⟨q0, r1⟩ := and2 r0
  have e1 := of_decide_eq_true q0
  obtain ⟨q1, r2⟩ := and2 r1
  have e2 := of_decide_eq_true q1
  obtain ⟨q2, r3⟩ := and2 r2
  have e3 := of_decide_eq_true q2
  obtain ⟨q3, r4⟩ := and2 r3
  have e4 := of_decide_eq_true q3
  obtain ⟨q4, r5⟩ := and2 r4
  have e5 := of_decide_eq_true q4
  obtain ⟨q5, r6⟩ := and2 r5
  have e6 := of_decide_eq_true q5
  obtain ⟨q6, r7⟩ := and2 r6
  have e7 := of_decide_eq_true q6
  obtain ⟨q7, r8⟩ := and2 r7
  have q1 := of_decide_eq_true q7
  obtain ⟨q8, r9⟩ := and2 r8
  have q2 := of_decide_eq_true q8
  obtain ⟨q9, r10⟩ := and2 r9
  have q3 := of_decide_eq_true q9
  obtain ⟨q10, r11⟩ := and2 r10
  have q4 := of_decide_eq_true q10
  obtain ⟨q11, r12⟩ := and2 r11
  have f1 := of_decide_eq_true q11
  obtain ⟨q12, r13⟩ := and2 r12
  have f4 := of_decide_eq_true q12
  obtain ⟨q13, r14⟩ := and2 r13
  have u1 := of_decide_eq_true q13
  obtain ⟨q14, r15⟩ := and2 r14
  have u4 := of_decide_eq_true q14
  obtain ⟨q15, r16⟩ := and2 r15
  have u5 := of_decide_eq_true q15
  obtain ⟨q16, r17⟩ := and2 r16
  have x1 := of_decide_eq_true q16
  obtain ⟨q17, r18⟩ := and2 r17
  have x2 := of_decide_eq_true q17
  obtain ⟨q18, r19⟩ := and2 r18
  have x3 := of_decide_eq_true q18
  obtain ⟨q19, r20⟩ := and2 r19
  have x4 := of_decide_eq_true q19
  obtain ⟨q20, r21⟩ := and2 r20
  have x5 := of_decide_eq_true q20
  obtain ⟨q21, r22⟩ := and2 r21
  have y1 := of_decide_eq_true q21
  obtain ⟨q22, r23⟩ := and2 r22
  have y2 := of_decide_eq_true q22
  obtain ⟨q23, r24⟩ := and2 r23
  have y3 := of_decide_eq_true q23
  obtain ⟨q24, r25⟩ := and2 r24
  have o1 := of_decide_eq_true q24
  obtain ⟨q25, r26⟩ := and2 r25
  have o2 := of_decide_eq_true q25
  obtain ⟨q26, r27⟩ := and2 r26
  have i1 := of_decide_eq_true q26
  obtain ⟨q27, r28⟩ := and2 r27
  have i2 := of_decide_eq_true q27
  obtain ⟨q28, r29⟩ := and2 r28
  have j1 := of_decide_eq_true q28
  obtain ⟨q29, r30⟩ := and2 r29
  have j2 := of_decide_eq_true q29
  have ki : Ki.Tx mg := ⟨z_isinstance, z_int, z_bool, z_tuple, z_list, z_len, z_all⟩
  have pt : Pen.Txt mg := ⟨z_len, z_int, z_list⟩
  have lf : Lf.Tx mg := ⟨pt, z_abs, z_range, z_tuple⟩
  have tg : Gr.Tx K mg (cGraph K) := ⟨ki, clGraph, nGraph_leaves, nGraph_gates, gGraph, e1, e2, e3, fun e => .ins e clGraph e1 e2 e3 e4, e5, e6⟩
  have tw : Yg.Tw K mg (ga K "BadNumber") (ga K "BadRow") := ⟨gBadNumber, gBadRow, x1, x2, x3, xfB_ok x4, xfB_ok x5, y1, y2, y3, z_repr⟩
  have T : Zm.Tz K mg (cGraph K) (cMachine K) (ga K "BadNumber") (ga K "BadRow") (fAd K ("BadNumber", some "__init__")) (fAd K ("BadRow", some "__init__")) := ⟨tg, tw, ⟨(Exo.okB_ok o1).oe, i1, i2⟩, ⟨(Exo.okB_ok o2).oe, j1, j2⟩, clMachine, nMachine_graph, nMachine_inputs, nMachine_resets, nMachine_nexts, nMachine_wish, gMachine⟩
  have tq : Zn2.Tq K mg (cGraph K) (cMachine K) (ga K "BadNumber") (ga K "BadRow") (fAd K ("BadNumber", some "__init__")) (fAd K ("BadRow", some "__init__")) _ _ := ⟨T, meGraph___eq__.at_, meGraph___eq__.fn, e7, meMachine___eq__.at_, meMachine___eq__.fn, q1, fun e => .ins e clMachine f1 e2 e3 f4, q2, q3, q4⟩
  have tB : Bd.Tx K mg (cBuilder K) := ⟨ki, clBuilder, nBuilder_leaves, nBuilder_gates, nBuilder_standing⟩
  have tY : Be.Ty K mg (cBuilder K) _ := ⟨tB, meBuilder_and_of⟩
  have tl : Ul.Tl K mg (cGraph K) (cMachine K) (cBuilder K) (cUnrolled K) (ga K "BadNumber") (ga K "BadRow") (fAd K ("BadNumber", some "__init__")) (fAd K ("BadRow", some "__init__")) _ _ _ _ (fAd K ("Unrolled", some "__init__")) := ⟨tq, tY, meBuilder_graph, z_range, clUnrolled, nUnrolled_graph, nUnrolled_states, nUnrolled_wishes⟩
  have tW : Uw.Tw K mg (cGraph K) (cMachine K) (cBuilder K) (cUnrolled K) (ga K "BadNumber") (ga K "BadRow") (fAd K ("BadNumber", some "__init__")) (fAd K ("BadRow", some "__init__")) _ _ _ _ (fAd K ("Unrolled", some "__init__")) := ⟨tl, lf, z_isinstance, gUnrolled, fun e => .ins e clUnrolled u1 e2 e3 u4, u5⟩
  have cp : Cp.Tx mg := ⟨z_abs, z_tuple, z_list, z_sorted⟩
  have lc : Lc.Tx mg := ⟨lf, cp, z_dict, z_enumerate⟩
  refine ⟨fd34, fun s v => b s [v] rfl, fun base _ _ TB => ?_⟩
  have hcv : ∀ cv, fd34.code = cv → cv = .ref (cT K ("law", none)).1 := fun cv hc => by
    obtain ⟨_, _, _, _, _, _, _, cdv, _, _, e, lk, hcd, _, _⟩ := F34.ex
    obtain ⟨c0, rfl⟩ := codeIn_ref hcd
    have hf : fd34.code = .ref c0 := by rw [e]
    rw [← hc, hf]
    exact congrArg Value.ref (codeOf_eq (p := ("law", none)) lk hf).symm
  have G0 : FnOk P w K mg base CX0 _ _ _ _ _ := ok_between F0 ki
  have G1 : FnOk P w K mg base CX0 _ _ _ _ _ := ok_from F1 ki
  have G2 : FnOk P w K mg base CX0 _ _ _ _ _ := ok_row F2 ki
  have G3 : FnOk P w K mg base CX0 _ _ _ _ _ := ok_rowB F3 ki F0 g0 F2 g2
  have G6 : FnOk P w K mg base CX0 _ _ _ _ _ := ok_need F6 ki F1 g1
  have G7 : FnOk P w K mg base CX0 _ _ _ _ _ := ok_gates F7 ki F2 g2 F3 g3 F0 g0
  have G37 : FnOk P w K mg base CX0 _ _ _ _ _ := ok_init F37 tg G6 g6 F6.kp b6 G7 g7 F7.kp b7
  have G35 : FnOk P w K mg base CX0 _ _ _ _ _ := ok_numi F35 T
  have G36 : FnOk P w K mg base CX0 _ _ _ _ _ := ok_rowi F36 T
  have GMI : FnOk P w K mg base (L2.CX P w) _ _ _ _ _ := ok_mi F39 T G0 g0 F0.kp b0 G3 g3 F3.kp b3 G35 b35 G36 b36
  have G8 : FnOk P w K mg base CX0 _ _ _ _ _ := ok_node F8 tg G3 g3 F3.kp b3
  have G9 : FnOk P w K mg base CX0 _ _ _ _ _ := ok_lit F9
  have G42 : FnOk P w K mg base CX0 _ _ _ _ _ := ok_binit F42 tB G6 g6 F6.kp b6
  have G43 : FnOk P w K mg base CX0 _ _ _ _ _ := ok_bgraph F43 tB tg mkGraph G37 b37
  have G44 : FnOk P w K mg base CX0 _ _ _ _ _ := ok_and F44 tB
  have G11 : FnOk P w K mg base CX0 _ _ _ _ _ := ok_put F11 tY tg G44 b44 F10 g10
  have G4 : FnOk P w K mg base CX0 _ _ _ _ _ := ok_rowsbits F4 ki G2 g2 F2.kp b2 G3 g3 F3.kp b3
  have G12 : FnOk P w K mg base CX0 _ _ _ _ _ := ok_played F12 tl G4 g4 F4.kp b4 G8 g8 F8.kp b8 G9 g9 F9.kp b9
  have GYX : FnOk P w K mg base (L2.CX P w) 4 _ _ _ (spPlayX K (cMachine K) (ga K "BadRow")) := ok_playx F12 tl G4 g4 F4.kp b4 G36 b36
  have G13 : FnOk P w K mg base CX0 _ _ _ _ _ := ok_breaks F13 tl G12 g12 F12.kp b12
  have GBX : FnOk P w K mg base (L2.CX P w) 5 _ _ _ (spPlayX K (cMachine K) (ga K "BadRow")) := ok_breakx F13 GYX g12 F12.kp b12
  have G5 : FnOk P w K mg base CX0 _ _ _ _ _ := ok_kept2 F5 tq
  have G41 : FnOk P w K mg base CX0 _ _ _ _ _ := ok_ui2 F41 tl G5 g5 F5.kp b5
  have G14 : FnOk P w K mg base CX0 _ _ _ _ _ := ok_unrolled F14 tl mkBuilder G42 gBuilder b42 mkUnrolled G41 gUnrolled b41 G43 b43 G1 g1 F1.kp b1 G11 g11 F11.kp b11
  have GUX : FnOk P w K mg base (L2.CX P w) 3 _ _ _ (spUnrX (ga K "BadNumber") K) := ok_unrx F14 tl G1 g1 F1.kp b1 G35 b35
  have G15 : FnOk P w K mg base CX0 _ _ _ _ _ := ok_pen F15 pt
  have G16 : FnOk P w K mg base CX0 _ _ _ _ _ := ok_draw F16 pt
  have G17 : FnOk P w K mg base CX0 _ _ _ _ _ := ok_pick F17 pt F16 g16
  have G23 : FnOk P w K mg base CX0 _ _ _ _ _ := ok_mach F23 lc F22 g22 F16 g16 F18 g18 F21 g21
  have G24 : FnOk P w K mg base CX0 _ _ _ _ _ := ok_made F24 tW mkGraph G37 gGraph b37 mkMachine GMI gMachine b39
  have G19 : FnOk P w K mg base CX0 _ _ _ _ _ := ok_values F19 lf F20 g20
  have G20 : FnOk P w K mg base CX0 _ _ _ _ _ := ok_bit F20 lf
  have G27 : FnOk P w K mg base CX0 _ _ _ _ _ := ok_rows F27 lf F26 g26
  have G25 : FnOk P w K mg base CX0 _ _ _ _ _ := ok_tick F25 lc F19 g19 F20 g20
  have G29 : FnOk P w K mg base CX0 _ _ _ _ _ := ok_is F29
  have G30 : FnOk P w K mg base CX0 _ _ _ _ _ := ok_drawnbits F30 tW G16 g16 F16.kp b16
  have G31 : FnOk P w K mg base CX0 _ _ _ _ _ := ok_somerows F31 tW G27 g27 F27.kp b27 G30 g30 F30.kp b30
  have G32 : FnOk P w K mg base CX0 _ _ _ _ _ := ok_lplayed F32 tW G25 g25 F25.kp b25
  have G33 : FnOk P w K mg base CX0 _ _ _ _ _ := ok_right F33 tW G31 g31 F31.kp b31 G32 g32 F32.kp b32 G19 g19 F19.kp b19 G20 g20 F20.kp b20
  exact ok_law F34 tW z_repr TB hcv F28 g28 G15 g15 F15.kp b15 G16 g16 F16.kp b16 G17 g17 F17.kp b17 G23 g23 F23.kp b23 G24 g24 F24.kp b24 G33 g33 F33.kp b33 G14 g14 F14.kp b14 G30 g30 F30.kp b30 G32 g32 F32.kp b32 G12 g12 F12.kp b12 G13 g13 F13.kp b13 G29 g29 F29.kp b29 GUX GYX GBX
end E22
open PySem PySem.W PySem.Calls PyProof.Rows
theorem PySem.Challenge.cw_everycycle_k22_whole_unrolled_cycles_holds : PySem.Challenge.rw_everycycle_k22_whole_unrolled_cycles.Holds := by
  w_on; o_law
  refine HandSHeadRun.head_any (r := OpenLaw.row PySem.Challenge.rw_everycycle_k22_whole_unrolled_cycles) (q := view (OpenLaw.row PySem.Challenge.rw_everycycle_k22_whole_unrolled_cycles).prog [46]) (H := E22.hk) (ob := E22.ob) (M := 4000) (loose := [("CycleError" : PySem.Str), ("BadNumber" : PySem.Str), ("BadRow" : PySem.Str), ("is_between" : PySem.Str), ("is_from" : PySem.Str), ("is_row" : PySem.Str), ("is_row_between" : PySem.Str), ("are_rows_of_bits" : PySem.Str), ("row_kept" : PySem.Str), ("Graph" : PySem.Str), ("need_leaves" : PySem.Str), ("are_gates" : PySem.Str), ("node_values" : PySem.Str), ("literal_value" : PySem.Str), ("Builder" : PySem.Str), ("literal_in" : PySem.Str), ("put_into" : PySem.Str), ("Machine" : PySem.Str), ("played" : PySem.Str), ("breaks" : PySem.Str), ("Unrolled" : PySem.Str), ("unrolled" : PySem.Str), ("_law_pen" : PySem.Str), ("_law_draw" : PySem.Str), ("_law_pick" : PySem.Str), ("_law_drawn_gates" : PySem.Str), ("_law_values" : PySem.Str), ("_law_bit" : PySem.Str), ("_law_xor_gates" : PySem.Str), ("_law_flip" : PySem.Str), ("_law_drawn_machine" : PySem.Str), ("_law_made_machine" : PySem.Str), ("_law_tick" : PySem.Str), ("_law_longer" : PySem.Str), ("_law_rows" : PySem.Str), ("_law_why" : PySem.Str), ("_law_is" : PySem.Str), ("_law_drawn_bits" : PySem.Str), ("_law_some_rows" : PySem.Str), ("_law_played" : PySem.Str), ("_law_unrolled_right" : PySem.Str)]) (d := HandSHeadRun.topDef (OpenLaw.row PySem.Challenge.rw_everycycle_k22_whole_unrolled_cycles).prog 46) (kwd := []) E22.ob_eq
    (by kernel_rfl) (fun s => by kernel_rfl) E22.run (by kernel_rfl) (by kernel_rfl) (by kernel_rfl) (by rfl) (by first | assumption | decide +kernel) (by decide +kernel) ⟨rfl, rfl, rfl, rfl, rfl, by decide +kernel⟩ ?hw ?hc
  case hw => w_witness2
  case hc =>
    refine Yt.walk_goT (l := PySem.Challenge.rw_everycycle_k22_whole_unrolled_cycles) (n := 63) (k := 9) (x := "_law_script") (CX := fun _ => L2.CX0) rfl (by decide) (by kernel_rfl) ⟨rfl, by decide, by decide⟩ ?F (fun _ _ _ _ _ z => z)
    intro w mg fa h Y G hmg0
    obtain ⟨K, KX, c⟩ := Y
    have hmg : mg ("law" : PySem.Str) = some (.ref fa) := by
      have e : (HandSHeadRun.topDef (OpenLaw.row PySem.Challenge.rw_everycycle_k22_whole_unrolled_cycles).prog 46).name = ("law" : PySem.Str) := by kernel_rfl
      rw [← e]
      exact hmg0
    obtain ⟨fd, hb, hF⟩ := E22.facts (P := (PySem.Challenge.rw_everycycle_k22_whole_unrolled_cycles).prog) (w := w) KX G hmg c
    exact ⟨K, fd, Uy.spLaw K (He.cT K ("law", none)).2, (He.cT K ("law", none)).1, (He.cT K ("law", none)).2, KX, c.empty _ List.mem_cons_self, c.out _ List.mem_cons_self, c.hd _ List.mem_cons_self, hb, fun H a ns hl hT hS => ⟨a, ns, rfl, hS, hl, hT, fun _ => rfl⟩, hF⟩
